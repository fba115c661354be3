import PyProof.Rows.All
import Wide.All
import OpenK.AllK
import Wide.FinOn
import HandS.ForMost
import HandS.IsInst
import HandS.TupAny
import HandS.Style
import HandS.More
import HandS.SetKeys
import HandS.Nested
import HandS.Strs
import HandS.Walk
import HandS.Evl
import HandS.Dict
import HandS.List
import KE.KDictPairs
import KE.KxText
import HandS.Rev
import HandS.NestedK
import HandS.EndTab
import HandS.SortKw
import HandS.SortRule
import HandS.Iter
import HandS.DictComp
import KE.GoesMore
import HandS.TryOnly
import HandS.WordsDict
import HandS.Small
import KE.KDictZip
import KE.KTurns
import HandS.Zip
import HandS.TupSets
import KE.KeyNested
import HandS.Steps
import PySem.Challenge.RW_lacuna_k02_what_is_a_term
set_option Elab.async false
set_option maxRecDepth 100000
set_option linter.all false
set_option maxHeartbeats 4000000
section
/-! Lacuna: what all laws' proofs share. Data (nested tuples), what is kept of a heap, calls, readings. -/
namespace Lc
open PySem L2 PyProof.Rows PySem.Spec

/-! ### data: nested tuples of None, truth values, ints, texts -/
inductive D where
  | non | bl (b : Bool) | int (i : Int) | str (x : Str) | tup (xs : List D)

mutual
/-- the value v bears the datum in the heap H -/
def Dt (H : Hp) : D → V → Prop
  | .non, v => v = .non
  | .bl b, v => v = .bl b
  | .int i, v => v = .int i
  | .str x, v => v = .str x
  | .tup ds, v => ∃ a xs, v = .ref a ∧ H a = some (.tup xs) ∧ Dts H ds xs
def Dts (H : Hp) : List D → List V → Prop
  | [], xs => xs = []
  | d :: ds, xs => ∃ x r, xs = x :: r ∧ Dt H d x ∧ Dts H ds r
end

/-- tuples stay -/
def KeepT (H H' : Hp) : Prop := ∀ a xs, H a = some (.tup xs) → H' a = some (.tup xs)
mutual
theorem Dt.mono {H H' : Hp} (k : KeepT H H') : ∀ {d : D} {v : V}, Dt H d v → Dt H' d v
  | .non, _, h => h
  | .bl _, _, h => h
  | .int _, _, h => h
  | .str _, _, h => h
  | .tup ds, _, h => by
    obtain ⟨a, xs, e, ha, hs⟩ := h
    exact ⟨a, xs, e, k a xs ha, Dts.mono k hs⟩
theorem Dts.mono {H H' : Hp} (k : KeepT H H') : ∀ {ds : List D} {xs : List V}, Dts H ds xs → Dts H' ds xs
  | [], _, h => h
  | _ :: _, _, h => by
    obtain ⟨x, r, e, h1, h2⟩ := h
    exact ⟨x, r, e, Dt.mono k h1, Dts.mono k h2⟩
end
theorem Dts.len {H : Hp} : ∀ {ds : List D} {xs : List V}, Dts H ds xs → xs.length = ds.length
  | [], _, h => by rw [show _ = [] from h]; rfl
  | _ :: _, _, h => by
    obtain ⟨x, r, rfl, _, h2⟩ := h
    rw [List.length_cons, List.length_cons, Dts.len h2]
theorem Dts.at {H : Hp} : ∀ {ds : List D} {xs : List V} {i : Nat} {x : V}, Dts H ds xs → xs[i]? = some x → ∃ d, ds[i]? = some d ∧ Dt H d x
  | [], _, i, x, h, e => by
    rw [show _ = [] from h] at e
    simp at e
  | d :: ds, _, 0, x, h, e => by
    obtain ⟨y, r, rfl, h1, _⟩ := h
    have e' : y = x := by simpa using e
    exact ⟨d, rfl, e' ▸ h1⟩
  | d :: ds, _, i + 1, x, h, e => by
    obtain ⟨y, r, rfl, _, h2⟩ := h
    exact Dts.at (i := i) h2 (by simpa using e)
theorem Dts.of {H : Hp} : ∀ {ds : List D} {xs : List V} {i : Nat} {d : D}, Dts H ds xs → ds[i]? = some d → ∃ x, xs[i]? = some x ∧ Dt H d x
  | [], _, i, x, h, e => by simp at e
  | d :: ds, _, 0, x, h, e => by
    obtain ⟨y, r, rfl, h1, _⟩ := h
    have e' : d = x := by simpa using e
    exact ⟨y, rfl, e' ▸ h1⟩
  | d :: ds, _, i + 1, x, h, e => by
    obtain ⟨y, r, rfl, _, h2⟩ := h
    obtain ⟨z, hz, q⟩ := Dts.of (i := i) (d := x) h2 (by simpa using e)
    exact ⟨z, by simpa using hz, q⟩
theorem Dts.nil {H : Hp} : Dts H [] [] := rfl
theorem Dts.cons {H : Hp} {d : D} {ds : List D} {x : V} {xs : List V} (h : Dt H d x) (t : Dts H ds xs) : Dts H (d :: ds) (x :: xs) := ⟨x, xs, rfl, h, t⟩
theorem Dts.app {H : Hp} : ∀ {ds es : List D} {xs ys : List V}, Dts H ds xs → Dts H es ys → Dts H (ds ++ es) (xs ++ ys)
  | [], _, _, _, h, t => by rw [show _ = [] from h]; exact t
  | _ :: _, _, _, _, h, t => by
    obtain ⟨x, r, rfl, h1, h2⟩ := h
    exact ⟨x, r ++ _, rfl, h1, Dts.app h2 t⟩
theorem Dts.snoc {H : Hp} {ds : List D} {xs : List V} {d : D} {x : V} (h : Dts H ds xs) (t : Dt H d x) : Dts H (ds ++ [d]) (xs ++ [x]) := h.app (.cons t .nil)
theorem Dts.drop {H : Hp} : ∀ {ds : List D} {xs : List V} (n : Nat), Dts H ds xs → Dts H (ds.drop n) (xs.drop n)
  | _, _, 0, h => h
  | [], _, _ + 1, h => by rw [show _ = [] from h]; rfl
  | _ :: _, _, n + 1, h => by
    obtain ⟨x, r, rfl, _, h2⟩ := h
    exact Dts.drop n h2
theorem Dts.take {H : Hp} : ∀ {ds : List D} {xs : List V} (n : Nat), Dts H ds xs → Dts H (ds.take n) (xs.take n)
  | _, _, 0, _ => rfl
  | [], _, _ + 1, h => by rw [show _ = [] from h]; rfl
  | _ :: _, _, n + 1, h => by
    obtain ⟨x, r, rfl, h1, h2⟩ := h
    exact ⟨x, r.take n, rfl, h1, Dts.take n h2⟩
theorem Dts.rev {H : Hp} : ∀ {ds : List D} {xs : List V}, Dts H ds xs → Dts H ds.reverse xs.reverse
  | [], _, h => by rw [show _ = [] from h]; rfl
  | _ :: _, _, h => by
    obtain ⟨x, r, rfl, h1, h2⟩ := h
    rw [List.reverse_cons, List.reverse_cons]
    exact (Dts.rev h2).snoc h1
theorem Dts.last {H : Hp} : ∀ {ds : List D} {xs : List V}, Dts H ds xs → xs ≠ [] → ∃ es e ys y, ds = es ++ [e] ∧ xs = ys ++ [y] ∧ Dts H es ys ∧ Dt H e y
  | [], _, h, n => absurd (show _ = [] from h) n
  | [d], _, h, _ => by
    obtain ⟨x, r, rfl, h1, h2⟩ := h
    cases (show r = [] from h2)
    exact ⟨[], d, [], x, rfl, rfl, rfl, h1⟩
  | d :: d2 :: ds, _, h, _ => by
    obtain ⟨x, r, rfl, h1, h2⟩ := h
    obtain ⟨es, e, ys, y, e1, rfl, h3, h4⟩ := Dts.last h2 (fun z => by rw [z] at h2; obtain ⟨_, _, q, _⟩ := h2; cases q)
    exact ⟨d :: es, e, x :: ys, y, by rw [e1]; rfl, rfl, .cons h1 h3, h4⟩
theorem Dts.mem {H : Hp} {ds : List D} {xs : List V} {x : V} (h : Dts H ds xs) (m : x ∈ xs) : ∃ d, d ∈ ds ∧ Dt H d x := by
  obtain ⟨i, hi⟩ := List.getElem?_of_mem m
  obtain ⟨d, e, q⟩ := h.at hi
  exact ⟨d, List.mem_of_getElem? e, q⟩
theorem Dt.tupI {H : Hp} {a : Addr} {xs : List V} {ds : List D} (h : H a = some (.tup xs)) (t : Dts H ds xs) : Dt H (.tup ds) (.ref a) := ⟨a, xs, rfl, h, t⟩

/-! ### kinds of data -/
def D.ty : D → String
  | .non => "NoneType" | .bl _ => "bool" | .int _ => "int" | .str _ => "str" | .tup _ => "tuple"
def D.isT : D → Bool
  | .tup _ => true | _ => false
def D.isS : D → Bool
  | .str _ => true | _ => false
def D.isB : D → Bool
  | .bl _ => true | _ => false
def D.isI : D → Bool
  | .int _ => true | .bl _ => true | _ => false
theorem Dt.tyB {K : PySem.W.Frag} {H : Hp} {d : D} {v : V} (h : Dt H d v) : TyB K H v d.ty := by
  cases d with
  | non => cases (show v = _ from h); exact .non
  | bl b => cases (show v = _ from h); exact .bl b
  | int i => cases (show v = _ from h); exact .int i
  | str x => cases (show v = _ from h); exact .str x
  | tup ds =>
    obtain ⟨a, xs, rfl, ha, _⟩ := h
    exact .tup (SqT.of ha)
theorem Dt.tyX {K : PySem.W.Frag} {H : Hp} {d : D} {v : V} (h : Dt H d v) : TyX K H v (.type d.ty) := by
  cases d with
  | non => cases (show v = _ from h); exact .base .non
  | bl b => cases (show v = _ from h); exact .base (.bl b)
  | int i => cases (show v = _ from h); exact .base (.int i)
  | str x => cases (show v = _ from h); exact .base (.str x)
  | tup ds =>
    obtain ⟨a, xs, rfl, ha, _⟩ := h
    exact .base (.tup ha)
theorem kit_tup (K : PySem.W.Frag) : ∀ d : D, PySem.W.kitOne K (.type d.ty) (.type "tuple") = some d.isT
  | .non => kit_ty (show kitB "NoneType" "tuple" = some false by decide +kernel)
  | .bl _ => kit_ty (show kitB "bool" "tuple" = some false by decide +kernel)
  | .int _ => kit_ty (show kitB "int" "tuple" = some false by decide +kernel)
  | .str _ => kit_ty (show kitB "str" "tuple" = some false by decide +kernel)
  | .tup _ => kit_ty (show kitB "tuple" "tuple" = some true by decide +kernel)
theorem kit_str (K : PySem.W.Frag) : ∀ d : D, PySem.W.kitOne K (.type d.ty) (.type "str") = some d.isS
  | .non => kit_ty (show kitB "NoneType" "str" = some false by decide +kernel)
  | .bl _ => kit_ty (show kitB "bool" "str" = some false by decide +kernel)
  | .int _ => kit_ty (show kitB "int" "str" = some false by decide +kernel)
  | .str _ => kit_ty (show kitB "str" "str" = some true by decide +kernel)
  | .tup _ => kit_ty (show kitB "tuple" "str" = some false by decide +kernel)
theorem kit_bool (K : PySem.W.Frag) : ∀ d : D, PySem.W.kitOne K (.type d.ty) (.type "bool") = some d.isB
  | .non => kit_ty (show kitB "NoneType" "bool" = some false by decide +kernel)
  | .bl _ => kit_ty (show kitB "bool" "bool" = some true by decide +kernel)
  | .int _ => kit_ty (show kitB "int" "bool" = some false by decide +kernel)
  | .str _ => kit_ty (show kitB "str" "bool" = some false by decide +kernel)
  | .tup _ => kit_ty (show kitB "tuple" "bool" = some false by decide +kernel)
theorem kit_int (K : PySem.W.Frag) : ∀ d : D, PySem.W.kitOne K (.type d.ty) (.type "int") = some d.isI
  | .non => kit_ty (show kitB "NoneType" "int" = some false by decide +kernel)
  | .bl _ => kit_ty (show kitB "bool" "int" = some true by decide +kernel)
  | .int _ => kit_ty (show kitB "int" "int" = some true by decide +kernel)
  | .str _ => kit_ty (show kitB "str" "int" = some false by decide +kernel)
  | .tup _ => kit_ty (show kitB "tuple" "int" = some false by decide +kernel)
theorem ty_tup : ∀ d : D, decide (d.ty = "tuple") = d.isT
  | .non => show decide (("NoneType" : String) = "tuple") = false by decide +kernel
  | .bl _ => show decide (("bool" : String) = "tuple") = false by decide +kernel
  | .int _ => show decide (("int" : String) = "tuple") = false by decide +kernel
  | .str _ => show decide (("str" : String) = "tuple") = false by decide +kernel
  | .tup _ => show decide (("tuple" : String) = "tuple") = true by decide +kernel
theorem ty_str : ∀ d : D, decide (d.ty = "str") = d.isS
  | .non => show decide (("NoneType" : String) = "str") = false by decide +kernel
  | .bl _ => show decide (("bool" : String) = "str") = false by decide +kernel
  | .int _ => show decide (("int" : String) = "str") = false by decide +kernel
  | .str _ => show decide (("str" : String) = "str") = true by decide +kernel
  | .tup _ => show decide (("tuple" : String) = "str") = false by decide +kernel
theorem ty_int : ∀ d : D, decide (d.ty = "int") = (d.isI && !d.isB)
  | .non => show decide (("NoneType" : String) = "int") = false by decide +kernel
  | .bl _ => show decide (("bool" : String) = "int") = false by decide +kernel
  | .int _ => show decide (("int" : String) = "int") = true by decide +kernel
  | .str _ => show decide (("str" : String) = "int") = false by decide +kernel
  | .tup _ => show decide (("tuple" : String) = "int") = false by decide +kernel
theorem D.tup_of {d : D} (h : d.isT = true) : ∃ xs, d = .tup xs := by
  cases d <;> first | exact ⟨_, rfl⟩ | cases h
theorem D.str_of {d : D} (h : d.isS = true) : ∃ x, d = .str x := by
  cases d <;> first | exact ⟨_, rfl⟩ | cases h
theorem Dt.tup {H : Hp} {ds : List D} {v : V} (h : Dt H (.tup ds) v) : ∃ a xs, v = .ref a ∧ H a = some (.tup xs) ∧ Dts H ds xs := h
theorem Dt.str {H : Hp} {x : Str} {v : V} (h : Dt H (.str x) v) : v = .str x := h
theorem Dt.int {H : Hp} {x : Int} {v : V} (h : Dt H (.int x) v) : v = .int x := h

/-! ### what is kept: all but the objects at l; tables of code objects may grow -/
/-- the tables of code objects that a law's defs with functions in them have -/
class Tbs where
  T : List NdefX.NTab
variable [Tbs]
def Kept : HO → Option HO → Prop
  | .tbl _, x => x ≠ none
  | o, x => x = some o
theorem Kept.ne {o : HO} (h : Kept o none) : False := by
  cases o <;> first | exact h rfl | (cases (show none = some _ from h))
theorem Kept.mk {o : HO} {x : Option HO} (h : x = some o) : Kept o x := by
  cases o <;> first | exact h | (show x ≠ none; rw [h]; exact fun z => nomatch z)
theorem Kept.eq {o : HO} {x : Option HO} (n : ∀ ps, o ≠ .tbl ps) (h : Kept o x) : x = some o := by
  cases o <;> first | exact h | exact absurd rfl (n _)
theorem Kept.of {o : HO} {x : Option HO} (h1 : x ≠ none) (h2 : (∀ ps, o ≠ .tbl ps) → x = some o) : Kept o x := by
  cases o with
  | tbl ps => exact h1
  | _ => exact h2 fun ps z => nomatch z
structure Kp (l : List Addr) (H H' : Hp) : Prop where
  keep : ∀ b o, b ∉ l → H b = some o → Kept o (H' b)
  tab : NdefX.TabsN Tbs.T H → NdefX.TabsN Tbs.T H'
instance {l : List Addr} {H H' : Hp} : CoeFun (Kp l H H') (fun _ => ∀ b o, b ∉ l → H b = some o → Kept o (H' b)) := ⟨Kp.keep⟩
/-- what is no table and no code object -/
def plnB : HO → Bool
  | .lst _ => true
  | .tup _ => true
  | .dK _ => true
  | .ins _ _ _ => true
  | _ => false
def Pln (H : Hp) (p : Addr) : Prop := ∃ o, H p = some o ∧ plnB o = true
theorem tabs_upd {T : List NdefX.NTab} {H : Hp} {p : Addr} {o : HO} (t : NdefX.TabsN T H) (n : Pln H p) : NdefX.TabsN T (upd H p o) := fun q hq => by
  obtain ⟨o', e, pl⟩ := n
  obtain ⟨ps, h1, h2, h3⟩ := t q hq
  have n1 : q.1 ≠ p := fun z => by
    rw [z, e] at h1
    cases h1
    cases pl
  refine ⟨ps, (upd_ne n1).trans h1, h2, fun pos cv hc => ?_⟩
  obtain ⟨c, e1, e2⟩ := h3 pos cv hc
  refine ⟨c, e1, (upd_ne fun z => ?_).trans e2⟩
  rw [z, e] at e2
  cases e2
  cases pl
theorem tabs_new {T : List NdefX.NTab} {H : Hp} {p : Addr} {o : HO} (t : NdefX.TabsN T H) (n : H p = none) : NdefX.TabsN T (upd H p o) := t.ext fun b o' e => (upd_ne (ne_of_none e n)).trans e
theorem Pln.upd {H : Hp} {p q : Addr} {o : HO} (h : Pln H p) (e : plnB o = true) : Pln (upd H q o) p := by
  by_cases z : p = q
  · exact ⟨o, by rw [z]; exact upd_same, e⟩
  · obtain ⟨o', h1, h2⟩ := h
    exact ⟨o', (upd_ne z).trans h1, h2⟩
theorem Pln.same {H : Hp} {p : Addr} {o : HO} (e : plnB o = true) : Pln (L2.upd H p o) p := ⟨o, upd_same, e⟩
theorem Pln.lst {H : Hp} {p : Addr} {xs : List V} (h : H p = some (.lst xs)) : Pln H p := ⟨_, h, rfl⟩
theorem Kp.refl (l : List Addr) (H : Hp) : Kp l H H := ⟨fun _ _ _ h => .mk h, fun t => t⟩
theorem Kp.trans {l : List Addr} {H H1 H2 : Hp} (a : Kp l H H1) (b : Kp l H1 H2) : Kp l H H2 := ⟨fun c o n h => by
  have q := a.keep c o n h
  cases e : H1 c with
  | none => rw [e] at q; exact q.ne.elim
  | some o1 =>
    refine .of (fun z => ?_) fun m => ?_
    · have q2 := b.keep c o1 n e
      rw [z] at q2
      exact q2.ne
    · have e2 := q.eq m
      exact (b.keep c o n e2).eq m, fun t => b.tab (a.tab t)⟩
theorem Kp.wide {l l' : List Addr} {H H' : Hp} (a : Kp l H H') (s : ∀ b ∈ l, b ∈ l') : Kp l' H H' := ⟨fun c o n h => a.keep c o (fun z => n (s c z)) h, a.tab⟩
theorem Kp.of0 {l : List Addr} {H H' : Hp} (a : Kp [] H H') : Kp l H H' := a.wide fun _ z => nomatch z
theorem Kp.up {l : List Addr} {H H1 : Hp} {p : Addr} {o : HO} (a : Kp l H H1) (n : H1 p = none) : Kp l H (upd H1 p o) := ⟨fun c u m h => by
  have q := a.keep c u m h
  rw [upd_ne (fun z => by rw [z, n] at q; exact q.ne)]
  exact q, fun t => tabs_new (a.tab t) n⟩
theorem Kp.at {l : List Addr} {H H1 : Hp} {p : Addr} {o : HO} (a : Kp l H H1) (m : p ∈ l) (e : Pln H1 p := by first | exact ⟨_, by assumption, rfl⟩ | exact Pln.same rfl | (repeat (refine Pln.upd ?_ rfl)); exact ⟨_, by assumption, rfl⟩) : Kp l H (upd H1 p o) := ⟨fun c u n h => by
  rw [upd_ne fun z => n (by rw [z]; exact m)]
  exact a.keep c u n h, fun t => tabs_upd (a.tab t) e⟩
/-- an object that is younger than H changes -/
theorem Kp.own {l : List Addr} {H H1 : Hp} {p : Addr} {o : HO} (a : Kp l H H1) (n : H p = none) (e : Pln H1 p := by first | exact ⟨_, by assumption, rfl⟩ | exact Pln.same rfl | (repeat (refine Pln.upd ?_ rfl)); exact ⟨_, by assumption, rfl⟩) : Kp l H (upd H1 p o) := ⟨fun c u m h => by
  rw [upd_ne (ne_of_none h n)]
  exact a.keep c u m h, fun t => tabs_upd (a.tab t) e⟩
/-- .. of an object that is younger, with more kept than asked -/
theorem Kp.own1 {c : Addr} {H H1 : Hp} {p : Addr} {o : HO} (a : Kp [c] H H1) (n : H p = Option.none) (e : Pln H1 p := by first | exact ⟨_, by assumption, rfl⟩ | exact Pln.same rfl | (repeat (refine Pln.upd ?_ rfl)); exact ⟨_, by assumption, rfl⟩) : Kp [c] H (upd H1 p o) := a.own n e
/-- .. or changes within a call -/
theorem Kp.drop {p : Addr} {l : List Addr} {H H1 : Hp} (a : Kp (p :: l) H H1) (n : H p = none) : Kp l H H1 := ⟨fun c u m h =>
  a.keep c u (fun z => by
    rcases List.mem_cons.mp z with e | e
    · rw [e, n] at h; cases h
    · exact m e) h, a.tab⟩
theorem Kp.none {H H1 : Hp} {p : Addr} (a : Kp [] H H1) (n : H1 p = Option.none) : H p = Option.none := by
  cases q : H p with
  | none => rfl
  | some o =>
    have z := a.keep p o (fun z => nomatch z) q
    rw [n] at z
    exact z.ne.elim
theorem Kp.noneL {l : List Addr} {H H1 : Hp} {p : Addr} (a : Kp l H H1) (m : p ∉ l) (n : H1 p = Option.none) : H p = Option.none := by
  cases q : H p with
  | none => rfl
  | some o =>
    have z := a.keep p o m q
    rw [n] at z
    exact z.ne.elim
theorem Kp.get {H H' : Hp} {b : Addr} {o : HO} (a : Kp [] H H') (h : H b = some o) : Kept o (H' b) := a.keep b o (fun z => nomatch z) h
theorem Kp.t0 {H H' : Hp} (a : Kp [] H H') : KeepT H H' := fun b xs h => a.keep b _ (fun z => nomatch z) h
/-- at c there is no tuple -/
def NoT (H : Hp) (c : Addr) : Prop := ∀ xs, H c ≠ some (.tup xs)
theorem NoT.lst {H : Hp} {c : Addr} {xs : List V} (h : H c = some (.lst xs)) : NoT H c := fun ys e => by rw [h] at e; cases e
theorem Kp.t1 {H H' : Hp} {c : Addr} (a : Kp [c] H H') (n : NoT H c) : KeepT H H' := fun b xs h => a.keep b _ (fun z => by
  rw [List.mem_singleton.mp z] at h
  exact n xs h) h
theorem Kp.tl {l : List Addr} {H H' : Hp} (a : Kp l H H') (n : ∀ c ∈ l, NoT H c) : KeepT H H' := fun b xs h => a.keep b _ (fun z => n b z xs h) h
theorem KeepT.trans {H H1 H2 : Hp} (a : KeepT H H1) (b : KeepT H1 H2) : KeepT H H2 := fun c xs h => b c xs (a c xs h)

theorem at_last {α : Type} (xs : List α) (x : α) : (xs ++ [x])[(xs ++ [x]).length - 1]? = some x := by
  rw [List.length_append, List.length_singleton, Nat.add_sub_cancel, List.getElem?_append_right (Nat.le_refl _), Nat.sub_self]
  rfl
theorem drop_last {α : Type} (xs : List α) (x : α) : (xs ++ [x]).dropLast = xs := by simp

/-! ### defs of the text and calls of them -/
/-- the def stands where the text says -/
structure Df (K : PySem.W.Frag) (mg : Str → Option Value) (x : Str) (st : Stmt) (ps : List Str) : Prop where
  ex : ∃ f fd, Fun K x x st f fd ∧ Binds K fd ps [] ∧ mg x = some (.ref f)
/-- the def of this name keeps the promise -/
structure Cal (P : Program) (w : World) (K : PySem.W.Frag) (mg : Str → Option Value) (base : Heap) (x : Str) (ps : List Str) (k : Nat) (sp : Sp) : Prop where
  ex : ∃ f fd, FnOk P w K mg base CX0 k f fd ps sp ∧ Binds K fd ps [] ∧ mg x = some (.ref f) ∧ PySem.W.keepIn K (.ref f) = true
section
variable {P : Program} {w : World} {K : PySem.W.Frag} {mg : Str → Option Value} {base : Heap} {x : Str} {ps N : List Str} {k j : Nat} {sp sp' : Sp} {st : Stmt}
theorem Cal.mono (c : Cal P w K mg base x ps j sp) (h : j ≤ k) : Cal P w K mg base x ps k sp := by
  obtain ⟨f, fd, a, b, c, d⟩ := c.ex
  exact ⟨f, fd, a.mono h, b, c, d⟩
theorem Df.ok (d : Df K mg x st ps) (S : FnScope N ps (defScope st)) (len : ∀ vs H Q E, sp vs H Q E → vs.length = ps.length)
    (hbody : ∀ (f : Addr) (cdv : Value) (A : Around) (outer : List Env) (s : Shared) (H : Hp) (vs : List V) (Q : VK) (E : XK), Room k (A.deeper (envOfC x (defScope st) s.heap.objs.size f cdv)) → sp vs H Q E →
      ∃ t, PSs (cxOf CX0 P w K mg base N x (defScope st) f cdv A outer s H E).nox (defBody st) t ∧ t { nx := fun _ H' => Q .non H', rt := Q } (start N vs) H) : Cal P w K mg base x ps (k + 1) sp := by
  obtain ⟨f, fd, F, b, m⟩ := d.ex
  exact ⟨f, fd, F.ok S len fun cdv A outer s H vs Q E => hbody f cdv A outer s H vs Q E, b, m, F.kp⟩
/-- nothing can be asked of it -/
theorem Df.no (d : Df K mg x st ps) (h : ∀ vs H Q E, ¬ sp vs H Q E) : Cal P w K mg base x ps k sp := by
  obtain ⟨f, fd, F, b, m⟩ := d.ex
  exact ⟨f, fd, ⟨fun vs H Q E q => absurd q (h vs H Q E), fun A outer s H args us vs Q E _ _ _ _ q => absurd q (h vs H Q E)⟩, b, m, F.kp⟩
end
section
variable {X : Cx} {x : Str} {ps : List Str} {k : Nat} {sp : Sp} {p pos : Pos} {e : Expr} {es : List Expr} {t : TA}
theorem pe_cal (c : Cal X.prog X.w X.K X.mg X.base x ps k sp) (hr : Room k X.A) (hg : Gl X x) (ha : PA X (e :: es) t) (hdb : (x == ("__debug__" : Str)) = false := by decide)
    (he : starEach (e :: es) X.env = (false, eval e X.env) :: starEach es X.env := by rfl) (hpl : (backTo pos (starEach es X.env)).any (·.1) = false := by rfl) : PE X (.Call (.Name x p) (e :: es) [] pos) (tCall sp [] E0 t) := by
  obtain ⟨f, fd, a, b, m, d⟩ := c.ex
  exact pe_call a hr hg m d b .nil pass0 ha hdb he hpl
end

/-! ### list.extend with a tuple -/
theorem ext_tup (l b : Addr) (xs ys : Array Value) (n m : Nat) (dd : Option Addr) (sl : Array (Option Value)) (g : ¬ (!xs.isEmpty && Builtin.List.listTooLong (xs.size + ys.size)) = true) (z : xs.size ≤ sizeLine) (z2 : xs.size + ys.size ≤ sizeLine) :
    Meets (Builtin.«list.extend» ⟨[.ref l, .ref b], []⟩) (fun _ R s => (s.heap.get? l = some ⟨.type "list", none, .seq xs n, #[]⟩ ∧ s.heap.get? b = some ⟨.type "tuple", dd, .seq ys m, sl⟩) ∧
      R (.ok (.ret Value.none)) { s with heap := s.heap.update l (Obj.mapSeq fun x => x ++ ys), toks := s.toks }) := by
  refine .of_wp fun prog w A R s h => ?_
  obtain ⟨heap, gens, dr, tk, os⟩ := s
  obtain ⟨⟨e1, e2⟩, h⟩ := h
  have i1 := AutoSeq1.idx_int
  have i2 := AutoSeq1.sub_tuple_tuple
  have i3 := AutoSeq1.sub_list_list
  have i4 := AutoSeq1.sub_tuple_list
  have i5 := AutoSeq1.sub_list_tuple
  have room : (xs ++ ys).size ≤ sizeLine + 1 := by
    rw [Array.size_append]
    omega
  wp_walk using (wpAny_updateSeq e1 rfl (hz := z) (_hz' := room)), AutoSeq1.wpAny_loadPart' e1, AutoSeq1.wpAny_loadPart' e2
  exact ⟨_, rfl, h⟩
section
variable {X : Cx}
def rExtT (K : PySem.W.Frag) : V → List V → Hp → VK → Prop := fun x vs H Q => ∃ l b xs zs, x = .ref l ∧ vs = [.ref b] ∧ H l = some (.lst xs) ∧ SqT K H b zs ∧ xs.length + zs.length ≤ sizeLine ∧ Q .non (upd H l (.lst (xs ++ zs)))
theorem mt_extT : MtM X "list.extend" (rExtT X.K) := fun pins s σ H x vs v us Q I rx rv h => by
  obtain ⟨l, b, xs, zs, rfl, rfl, hH, hB, hz, q⟩ := h
  cases rx
  obtain ⟨u, rfl, ru⟩ := rv.one
  cases ru
  obtain ⟨z, its, n, r, hl, e⟩ := I.lstM hH
  obtain ⟨its2, r2, ⟨⟨oc, od, oo, os⟩, e2, c2, n2, d2⟩, _⟩ := I.tuple hB
  cases (show oc = _ from c2)
  cases (show oo = _ from d2)
  have hl2 : zs.length = its2.length := r2.length
  have few : its.toArray.size + its2.toArray.size ≤ sizeLine := by
    rw [List.size_toArray, List.size_toArray]
    omega
  have g : ¬ (!its.toArray.isEmpty && Builtin.List.listTooLong (its.toArray.size + its2.toArray.size)) = true := by
    rw [notLongL few, Bool.and_false]
    decide
  refine call_meets F.slot_list_extend ⟨_, e, rfl⟩ F.entry_list_extend (F.args_list_extend_2 _ _) (ext_tup l b its.toArray its2.toArray n n2 od os g (by omega) few) ⟨⟨e, e2⟩, ?_⟩
  refine ⟨.non, _, I.lset (its' := its ++ its2) hH e (by simp) (r.append r2) ?_, rfl, q⟩
  rw [List.length_append]
  omega
end
end Lc
end

section
/-! len(set(xs)) of a list of any texts. -/
namespace Lc
open PySem L2 PyProof.Rows PySem.Spec
variable [Lc.Tbs]

/-- the different ones among the first i, in the order of meeting -/
def got (xs : List Str) (i : Nat) : List Str := (xs.take i).foldl step_dedup []
/-- how many different ones there are -/
def diff (xs : List Str) : Nat := (got xs xs.length).length
theorem got_next {xs : List Str} {i : Nat} {x : Str} (h : xs[i]? = some x) : got xs (i + 1) = step_dedup (got xs i) x := by
  have e : xs.take (i + 1) = xs.take i ++ [x] := by
    rw [List.take_succ, h]
    rfl
  unfold got
  rw [e, List.foldl_append]
  rfl
theorem got_few (xs : List Str) (i : Nat) : (got xs i).length ≤ i := by
  have a := foldl_step_dedup_nil_length_le (xs.take i)
  have b := List.length_take_le i xs
  unfold got
  omega
theorem diff_le (xs : List Str) : diff xs ≤ xs.length := got_few xs xs.length
theorem dedup_has (l : List Str) (v k : Str) : (step_dedup l v).any (· == k) = (l.any (· == k) || decide (k = v)) := by
  have same : (v == k) = decide (k = v) := by
    by_cases e : k = v
    · rw [e, beq_self_eq_true, decide_eq_true rfl]
    · rw [decide_eq_false e]
      exact beq_eq_false_iff_ne.mpr fun z => e z.symm
  unfold step_dedup
  cases q : l.any (· == v) with
  | true =>
    rw [if_pos rfl]
    by_cases e : k = v
    · rw [e, q]
      rfl
    · rw [decide_eq_false e, Bool.or_false]
  | false =>
    rw [if_neg Bool.false_ne_true, List.any_append, List.any_cons, List.any_nil, Bool.or_false, same]
theorem dedup_len (l : List Str) (v : Str) : (step_dedup l v).length = if l.any (· == v) = true then l.length else l.length + 1 := by
  unfold step_dedup
  split
  · rfl
  · rw [List.length_append]
    rfl

section
variable {prog : Program} {w : World} {A : Around} {R : Result → Shared → Prop} {I : Addr} {fp wr : List Addr} {G : Array GenState → Array GenState → Prop} {n : Nat} {P : Nat → Value → Prop} {St : Nat → Shared → Prop}
abbrev TxtSet (prog : Program) (w : World) (h : Heap) (S : Addr) (l : List Str) : Prop := h.SetOf (PySem.strKind prog w) S (fun k => l.any (· == k)) l.length
theorem TxtSet.keep {h h' : Heap} {S : Addr} {l : List Str} (t : TxtSet prog w h S l) (k : ∀ o, h.get? S = some o → h'.get? S = some o) : TxtSet prog w h' S l := by
  obtain ⟨o, es, ep, tb, ho, r⟩ := t
  exact ⟨o, es, ep, tb, k o ho, r⟩
/-- the texts that are left go into the set -/
theorem fill_texts (W : WalksS prog w A.in1 I fp wr G n P St) {S : Addr} (away : S ∉ fp) {xs : List Str} (few : n + 1 < scanBound) (each : ∀ i v, P i v → ∃ x t, xs[i]? = some x ∧ v = .str x t) :
    ∀ (left i : Nat) (s : Shared), i + left = n → St i s → TxtSet prog w s.heap S (got xs i) →
      (∀ s', Moved (S :: wr) G s s' → TxtSet prog w s'.heap S (got xs n) → R (.ok (.ret .none)) s') → codeAny (model prog w) A (.builtin "set.update.loop" ⟨[.ref S, .ref I], []⟩) R s := by
  have out : S ∉ wr := fun z => away (W.sub _ z)
  have more : ∀ b ∈ wr, b ∈ S :: wr := fun b z => List.mem_cons_of_mem _ z
  intro left
  induction left with
  | zero =>
    intro i s e st have_ fin
    obtain rfl : i = n := e
    refine codeAny_builtin PyProof.Rows.F.entry_set_update_loop ?_
    rw [Around.under_plainId PyProof.Rows.F.plain_set_update_loop _]
    refine wpAny_bind (W.done s _ _ st fun s1 mv => ?_)
    exact wpAny_pure (fin s1 (mv.mono more) (have_.keep fun o => mv.heap S o out))
  | succ left ih =>
    intro i s e st have_ fin
    have lt : i < n := by omega
    refine codeAny_builtin PyProof.Rows.F.entry_set_update_loop ?_
    rw [Around.under_plainId PyProof.Rows.F.plain_set_update_loop _]
    refine wpAny_bind (W.item i s _ _ lt st fun v s1 pv st1 mv => ?_)
    obtain ⟨x, t, hx, rfl⟩ := each i v pv
    have have1 := have_.keep fun o => mv.heap S o out
    show wpAny _ A.in1 (holding [Value.str x t] (setAdd S (.str x t)) >>= _) _ _ s1
    refine wpAny_bind (wpAny_holding ?_)
    unfold setAdd
    refine wpAny_holding (wpAny_bind ((PySem.strKind prog w).pyHash (k := x) (strKind_is _ _ _ _) ?_))
    have room : (got xs i).length + 1 < scanBound := Nat.lt_of_le_of_lt (Nat.succ_le_succ (got_few xs i)) (by omega)
    refine wpAny_setAddHashed_of (knd := PySem.strKind prog w) (s := { s1 with toks := s1.toks + 1 }) (strKind_is _ _ _ _) rfl have1 room fun h2 but have2 => ?_
    have have3 : TxtSet prog w h2 S (got xs (i + 1)) := by
      rw [got_next hx]
      exact SetOf_congr have2 (fun k => (dedup_has _ x k).symm) (dedup_len _ x).symm
    have kept : ∀ b o, b ≠ S → s1.heap.get? b = some o → h2.get? b = some o := fun b o ne q => by
      rw [but.2 b ne]
      exact q
    refine wpAny_pure ⟨plainId_quiet PyProof.Rows.F.plain_set_update_loop _, ih (i + 1) _ (by omega) (W.frame _ s1 _ _ st1 (Nat.le_succ _) fun b m o q => kept b o (fun z => away (z ▸ m)) q) have3 fun s3 mv3 have4 => ?_⟩
    exact fin s3 (Moved.trans W.gtrans ((mv.mono more).then_heap (Nat.le_succ _) fun b o nm q => kept b o (fun z => nm (z ▸ List.mem_cons_self)) q) mv3) have4
end

section
variable {prog : Program} {w : World} {A : Around} {E : Value → Shared → Prop} {s : Shared}
abbrev freshSet (led : Bool) : Obj := { cls := .type "set", dict := none, data := .set #[] 0 (.fresh 0 0 led) }
set_option maxHeartbeats 4000000 in
/-- set(l) of a list of texts -/
theorem set_texts {l : Addr} {its : List Value} {xs : List Str} {Q : Value → Shared → Prop} (calm : A.handled = none) (hl : s.heap.IsList l its.toArray) (each : ∀ (i : Nat) v, its[i]? = some v → ∃ x t, xs[i]? = some x ∧ v = .str x t) (few : its.length + 1 < scanBound)
    (h : ∀ (h2 : Heap) (tk : Nat), TxtSet prog w h2 s.heap.objs.size (got xs its.length) → (∀ b o, b < s.heap.objs.size → s.heap.get? b = some o → h2.get? b = some o) → Q (.ref s.heap.objs.size) { s with heap := h2, toks := tk }) :
    wpAny (model prog w) A (call (.type "set") [.ref l]) Q E s := by
  obtain ⟨c, tl, hmro⟩ := PySem.F.called_set.mro
  have j1 := PySem.F.called_set.made
  have j2 := PySem.F.called_set.sub
  refine wpAny_call (codeAny_of_tree (wpAny_pure (s := s) ⟨Code.quiet_builtin _ (by decide +kernel), codeAny_builtin PySem.F.entry_type_call ?_⟩))
  rw [Around.under_plain (weight_type_call_type "set" [.ref l] []) rfl]
  have j3 := PySem.F.called_set.notType
  have j4 := PySem.F.called_set.canCreate
  have j5 := PySem.F.typeCall_set_1 (.ref l)
  repeat (any_goals (first | assumption | wp_step))
  refine codeAny_mono (code_set_new_1 (.ref l) (E := E) (Q₁ := fun o s1 => ∃ led : Bool, o = .ref s.heap.objs.size ∧ s1 = { s with heap := s.heap.push (freshSet led) }) fun led => ⟨led, rfl, rfl⟩) fun r s1 hr => ?_
  match r, hr with
  | .error e, hr => exact hr
  | .ok .next, hr => exact hr.elim
  | .ok .brk, hr => exact hr.elim
  | .ok .cont, hr => exact hr.elim
  | .ok (.ret o), hr =>
    obtain ⟨led, rfl, rfl⟩ := hr
    have new : (s.heap.push (freshSet led)).get? s.heap.objs.size = some (freshSet led) := Heap.get?_push_size _ rfl
    have isT : Shared.TypeIs { s with heap := s.heap.push (freshSet led) } (.ref s.heap.objs.size) "set" := ⟨_, new, rfl⟩
    have j6 := PySem.F.called_set.init.lookup
    have j7 := PySem.F.called_set.init.bind (.ref s.heap.objs.size)
    repeat (any_goals (first | assumption | wp_step))
    refine codeAny_mono (codeAny_call_builtin (R := wants (fun r s2 => r = .none ∧ ∃ h2 tk, s2 = { s with heap := h2, toks := tk } ∧ TxtSet prog w h2 s.heap.objs.size (got xs its.length) ∧ ∀ b o, b < s.heap.objs.size → s.heap.get? b = some o → h2.get? b = some o) E)
      PySem.F.called_set.init.plain PySem.F.entry_set_init (check_set_init_1 isT ?_)) fun r2 s2 hr2 => ?_
    · obtain ⟨⟨lc, ld, lo, ls⟩, el, c1, nl, d1⟩ := hl
      cases (show lc = _ from c1)
      cases (show lo = _ from d1)
      have el2 : (s.heap.push (freshSet led)).get? l = some ⟨.type "list", ld, .seq its.toArray nl, ls⟩ := Heap.get?_push_of_some _ el
      have j8 := PySem.F.sub_list_set
      have j9 := PySem.F.sub_list_frozenset
      have j10 : (Value.type "list" == Value.type "dict") = false := by decide
      have isL : (s.heap.push (freshSet led)).IsList l its.toArray := ⟨_, el2, rfl, nl, rfl⟩
      unfold Builtin.«set.__init__» noKeywords Builtin.Frozenset.updateFrom
      generalize hit : pyIter = It0
      wp_walk
      subst hit
      refine wpAny_pyIter_list isL (wpAny_bind (wpAny_runValue ?_))
      have lt : l < s.heap.objs.size := Heap.lt_size el
      have sz : (s.heap.push (freshSet led)).objs.size = s.heap.objs.size + 1 := Heap.size_push _ _
      have ne1 : l ≠ (s.heap.push (freshSet led)).objs.size := by
        rw [sz]
        exact Nat.ne_of_lt (Nat.lt_succ_of_lt lt)
      have away : s.heap.objs.size ∉ [(s.heap.push (freshSet led)).objs.size, l] := by
        rw [sz]
        simp only [List.mem_cons, List.not_mem_nil, or_false, not_or]
        exact ⟨Nat.ne_of_lt (Nat.lt_succ_self _), Nat.ne_of_gt lt⟩
      refine fill_texts ((Walks.list (by simp [calm]) _ l ne1 its.toArray).toS) away (by simpa using few) (fun i v q => each i v (by simpa using q)) its.toArray.size 0 _ (Nat.zero_add _) ⟨⟨_, Heap.get?_push_size _ rfl, rfl, rfl⟩, isL.push _⟩ ?_ fun s3 mv t3 => ?_
      · have at0 : ((s.heap.push (freshSet led)).push { cls := .type "list_iterator", data := .fields #[.ref l, .int 0 0] }).get? s.heap.objs.size = some (freshSet led) := Heap.get?_push_of_some _ new
        exact SetOf_congr ((setObjOf_fresh (knd := PySem.strKind prog w) led).setOf at0 (by decide)) (fun _ => rfl) rfl
      · obtain ⟨h3, g3, d3, tk3, os3⟩ := s3
        cases (show g3 = s.gens from mv.gens)
        cases (show d3 = s.drawn from mv.drawn)
        cases (show os3 = s.os from mv.os)
        refine wpAny_pure (wpAny_pure ⟨rfl, h3, tk3, rfl, by simpa using t3, fun b o hb q => ?_⟩)
        refine mv.heap b o ?_ (Heap.get?_push_of_some _ (Heap.get?_push_of_some _ q))
        rw [sz]
        simp only [List.mem_cons, List.not_mem_nil, or_false, not_or]
        exact ⟨Nat.ne_of_lt hb, Nat.ne_of_lt (Nat.lt_succ_of_lt hb)⟩
    · match r2, hr2 with
      | .error e, hr2 => exact hr2
      | .ok .next, hr2 => exact hr2.elim
      | .ok .brk, hr2 => exact hr2.elim
      | .ok .cont, hr2 => exact hr2.elim
      | .ok (.ret r), hr2 =>
        obtain ⟨rfl, h2, tk, rfl, t2, k2⟩ := hr2
        repeat (any_goals (first | assumption | wp_step))
        exact h _ _ t2 k2
end

section
variable {X : Cx}
/-- len(set(e)), e a list of texts -/
def tLenSetT (K : PySem.W.Frag) (ta : TE) : TE := fun σ H Q => ta σ H fun x H1 => ∃ l, ∃ xs : List Str, x = .ref l ∧ SqL K H1 l (xs.map V.str) ∧ xs.length < 4000 ∧ Q (.int (diff xs)) H1
theorem strs_each : ∀ {xs : List Str} {us : List Value}, Vals (xs.map V.str) us → ∀ (i : Nat) v, us[i]? = some v → ∃ x t, xs[i]? = some x ∧ v = .str x t
  | [], _, .nil, i, v, h => by simp at h
  | x :: xs, _, .cons r t, 0, v, h => by
    obtain ⟨k, rfl⟩ := r
    exact ⟨x, k, rfl, by simpa using h.symm⟩
  | x :: xs, _, .cons r t, i + 1, v, h => strs_each t i v (by simpa using h)
theorem pe_lenSetT {a : Expr} {ta : TE} {p p2 q pos : Pos} (hc : X.calm = true) (hg : Gl X "len") (hm : X.mg "len" = none) (hg2 : Gl X "set") (hm2 : X.mg "set" = none) (ha : PE X a ta)
    (na : starEach [a] X.env = (false, eval a X.env) :: starEach [] X.env := by rfl) : PE X (.Call (.Name "len" p) [.Call (.Name "set" p2) [a] [] q] [] pos) (tLenSetT X.K ta) := by
  constructor
  intro pins s σ H Q I h
  refine Call_ (ld_blt I hg hm boot_len (callWith_builtin1 (args_cons (Call_ (ld_blt I hg2 hm2 boot_set (callWith_type1 (args_cons (thn (ha.run pins s σ H _ I h) fun v s1 got1 => args_nil ?_) na) na rfl))) rfl) rfl rfl))
  obtain ⟨x, H1, I1, r1, l, xs, rfl, hq, few, q1⟩ := got1
  cases r1
  obtain ⟨its, r, pl, hz⟩ := I1.list hq
  have el : its.length = xs.length := by
    rw [← r.length, List.length_map]
  refine set_texts (I1.ok.hd hc) pl.isList (strs_each r) (by rw [el]; unfold scanBound; omega) fun h2 tk t2 k2 => args_nil ?_
  rw [el] at t2
  have le := diff_le xs
  obtain ⟨o, es, ep, t, ho, hex, hd, _, _, _, hf, hn⟩ := t2
  have I2 : Inv X pins σ H1 { s1 with heap := h2, toks := tk } := I1.kept fun b o e => k2 b o (Heap.lt_size e) e
  have hn2 : es.size = diff xs := hn
  exact call_len_set ho hex hd hf (by rw [hn2]; omega) ⟨.int (diff xs), H1, I2.tok _, ⟨_, by rw [hn2]⟩, q1⟩
end
end Lc
end

section
/-! Readings, one step a lemma. -/
namespace Lc
open PySem L2 PyProof.Rows PySem.Spec
variable [Lc.Tbs]
theorem Kp.ge {H H' : Hp} {b : Addr} {o : HO} (a : Kp [] H H') (n : ∀ ps, o ≠ .tbl ps) (h : H b = some o) : H' b = some o := (a.get h).eq n
theorem Kp.gl {H H' : Hp} {b : Addr} {xs : List V} (a : Kp [] H H') (h : H b = some (.lst xs)) : H' b = some (.lst xs) := a.get h
theorem Kp.gtu {H H' : Hp} {b : Addr} {xs : List V} (a : Kp [] H H') (h : H b = some (.tup xs)) : H' b = some (.tup xs) := a.get h
section
variable {K : PySem.W.Frag} {σ : L2.St} {H : Hp} {Q : VK} {v x y : V} {ta tb te : TE} {T U : TT} {t u : TS} {g : TG} {D0 : Ends} {R : Bool → Hp → Prop} {A : TA} {W : List V → Hp → Prop}
theorem r_seq (h : t { D0 with nx := u D0 } σ H) : tSeq t u D0 σ H := h
theorem r_next (h : D0.nx σ H) : tNext D0 σ H := h
theorem r_mknx {a b c d} (h : a σ H) : (Ends.mk a b c d).nx σ H := h
theorem r_mkrt {a b c d} (h : b v H) : (Ends.mk a b c d).rt v H := h
theorem r_asg (h : te σ H fun x H1 => g x σ H1 D0.nx) : tAsg te g D0 σ H := h
theorem r_name {i : Nat} {N : L2.St → Hp → Prop} (h : N (σ.set i (some v)) H) : gName i v σ H N := h
theorem r_drop (h : te σ H fun _ H1 => D0.nx σ H1) : tDrop te D0 σ H := h
theorem r_ret (h : te σ H D0.rt) : tRet te D0 σ H := h
theorem r_if (h : T σ H fun b H1 => if b = true then t D0 σ H1 else u D0 σ H1) : tIfS T t u D0 σ H := h
theorem r_var {i : Nat} (e : σ[i]? = some (some v)) (h : Q v H) : tVar i σ H Q := ⟨v, e, h⟩
theorem r_c (h : Q v H) : tC v σ H Q := h
theorem r_op {r : R2} (h : ta σ H fun x H1 => tb σ H1 fun y H2 => r x y H2 Q) : tOp r ta tb σ H Q := h
theorem r_un {r : V → Hp → VK → Prop} (h : ta σ H fun x H1 => r x H1 Q) : tUn r ta σ H Q := h
theorem r_test (h : te σ H fun x H1 => ∃ k, x = .bl k ∧ R k H1) : tTest te σ H R := h
theorem r_tb (h : te σ H fun x H1 => ∃ k, x = .bl k ∧ R k H1) : tB te σ H R := h
theorem r_and (h : T σ H fun c H1 => if c = true then U σ H1 R else R false H1) : tAnd T U σ H R := h
theorem r_or (h : T σ H fun c H1 => if c = true then R true H1 else U σ H1 R) : tOr T U σ H R := h
theorem r_not (h : T σ H fun c H1 => R (!c) H1) : tNot T σ H R := h
theorem r_andV (h : ta σ H fun x H1 => ∃ c, x = .bl c ∧ if c = true then tb σ H1 Q else Q (.bl false) H1) : tAndV ta tb σ H Q := h
theorem r_orV (h : ta σ H fun x H1 => ∃ c, x = .bl c ∧ if c = true then Q (.bl true) H1 else tb σ H1 Q) : tOrV ta tb σ H Q := h
theorem r_notV (h : ta σ H fun x H1 => ∃ c, x = .bl c ∧ Q (.bl (!c)) H1) : tNotV ta σ H Q := h
theorem r_bl {c : Bool} {S : Bool → Prop} (h : S c) : ∃ k, V.bl c = V.bl k ∧ S k := ⟨c, rfl, h⟩
theorem r_cb {r : List V → Hp → VK → Prop} (h : A σ H fun vs H1 => r vs H1 Q) : tCB r A σ H Q := h
theorem r_cons (h : te σ H fun x H1 => A σ H1 fun xs H2 => W (x :: xs) H2) : tCons te A σ H W := h
theorem r_nil (h : W [] H) : tNil σ H W := h
/-- a tuple, a list of these is laid -/
def NewT (xs : List V) (H : Hp) (Q : VK) : Prop := xs.length ≤ sizeLine ∧ ∀ p, H p = none → Q (.ref p) (upd H p (.tup xs))
def NewL (xs : List V) (H : Hp) (Q : VK) : Prop := xs.length ≤ sizeLine ∧ ∀ p, H p = none → Q (.ref p) (upd H p (.lst xs))
theorem r_tup (h : A σ H fun xs H1 => NewT xs H1 Q) : tTup A σ H Q := h
theorem r_lst (h : A σ H fun xs H1 => NewL xs H1 Q) : tLst A σ H Q := h
theorem r_call {sp : Sp} {dvs : List V} {E : XK} (h : A σ H fun vs H1 => sp (vs ++ dvs) H1 Q E) : tCall sp dvs E A σ H Q := h
theorem r_i0 {k : Int → Int → V} {i j : Int} (h : Q (k i j) H) : rI0 k (.int i) (.int j) H Q := ⟨i, j, rfl, rfl, h⟩
theorem r_i {C : Int → Int → Prop} {k : Int → Int → V} {i j : Int} (c : C i j) (h : Q (k i j) H) : rI C k (.int i) (.int j) H Q := ⟨i, j, rfl, rfl, c, h⟩
theorem r_eq (s : scal x y = true) (h : Q (.bl (decide (x = y))) H) : rEq x y H Q := ⟨s, h⟩
theorem r_ne (s : scal x y = true) (h : Q (.bl (!decide (x = y))) H) : rNe x y H Q := ⟨s, h⟩
theorem r_sub {to ti : TE} {s : TSet} {N : L2.St → Hp → Prop} (h : to σ H fun o H1 => ti σ H1 fun i H2 => s o i v H2 fun H3 => N σ H3) : gSub to ti s v σ H N := h
theorem r_sl {r : V → Option Int → Option Int → Hp → VK → Prop} {tl th : TO} (h : te σ H fun x H1 => tl σ H1 fun l H2 => th σ H2 fun u H3 => r x l u H3 Q) : tSl r te tl th σ H Q := h
theorem r_nopart {O : Option Int → Hp → Prop} (h : O none H) : tNoPart σ H O := h
theorem r_part {O : Option Int → Hp → Prop} (h : te σ H fun x H1 => ∃ i, x = .int i ∧ O (some i) H1) : tPart te σ H O := h
theorem r_int {i : Int} {S : Int → Prop} (h : S i) : ∃ k, V.int i = V.int k ∧ S k := ⟨i, rfl, h⟩
theorem r_bm {T : String} {r : V → List V → Hp → VK → Prop} (h : te σ H fun x H1 => tyV K T x H1 ∧ A σ H1 fun xs H2 => r x xs H2 Q) : tBM K T r te A σ H Q := h
theorem r_bm0 {T : String} {r : V → List V → Hp → VK → Prop} (h : te σ H fun x H1 => tyV K T x H1 ∧ r x [] H1 Q) : tBM0 K T r te σ H Q := h
/-- an item of a tracked list, tuple -/
theorem r_ixL {p : Addr} {xs : List V} {i : Int} (h : H p = some (.lst xs)) (a : atI xs i = some v) (q : Q v H) : rIxL K (.ref p) (.int i) H Q := ⟨p, xs, i, v, rfl, rfl, SqL.of h, a, q⟩
theorem r_ixT {p : Addr} {xs : List V} {i : Int} (h : H p = some (.tup xs)) (a : atI xs i = some v) (q : Q v H) : rIxT K (.ref p) (.int i) H Q := ⟨p, xs, i, v, rfl, rfl, SqT.of h, a, q⟩
theorem r_set {p : Addr} {xs : List V} {i : Int} {j : Nat} {N : Hp → Prop} (h : H p = some (.lst xs)) (a : ixN xs.length i = some j) (q : N (upd H p (.lst (xs.set j v)))) : rSetL (.ref p) (.int i) v H N := ⟨p, xs, i, j, rfl, rfl, h, a, q⟩
theorem r_ty {d : D} (h : Dt H d x) (q : Q (.ty d.ty) H) : rTyp K [x] H Q := ⟨x, d.ty, rfl, h.tyB, q⟩
theorem r_isT {d : D} (h : Dt H d x) (q : Q (.bl d.isT) H) : rIsi K [x, .ty "tuple"] H Q := ⟨x, .ty "tuple", _, _, d.isT, rfl, .ty _, h.tyX, kit_tup K d, q⟩
theorem r_isS {d : D} (h : Dt H d x) (q : Q (.bl d.isS) H) : rIsi K [x, .ty "str"] H Q := ⟨x, .ty "str", _, _, d.isS, rfl, .ty _, h.tyX, kit_str K d, q⟩
theorem r_isI {d : D} (h : Dt H d x) (q : Q (.bl d.isI) H) : rIsi K [x, .ty "int"] H Q := ⟨x, .ty "int", _, _, d.isI, rfl, .ty _, h.tyX, kit_int K d, q⟩
theorem r_isB {d : D} (h : Dt H d x) (q : Q (.bl d.isB) H) : rIsi K [x, .ty "bool"] H Q := ⟨x, .ty "bool", _, _, d.isB, rfl, .ty _, h.tyX, kit_bool K d, q⟩
theorem pe_gref {X : Cx} {n : Str} {a : Addr} {pos : Pos} (hg : Gl X n) (hm : X.mg n = some (.ref a)) (hd : (n == ("__debug__" : Str)) = false := by decide) : PE X (.Name n pos) (tC (.ref a)) := pe_glob (v := .ref a) hg hm rfl hd
theorem pe_gstr {X : Cx} {n z : Str} {tk : Tok} {pos : Pos} (hg : Gl X n) (hm : X.mg n = some (.str z tk)) (hd : (n == ("__debug__" : Str)) = false := by decide) : PE X (.Name n pos) (tC (.str z)) := pe_glob (v := .str z) hg hm ⟨_, rfl⟩ hd
theorem pe_bty {X : Cx} {n : Str} {T : String} {pos : Pos} (hg : Gl X n) (hm : X.mg n = none) (hv : bootBuiltins n = some (.type T)) (hn : n ≠ "__name__" := by decide) (hd : (n == ("__debug__" : Str)) = false := by decide) : PE X (.Name n pos) (tC (.ty T)) := pe_bltn (v := .ty T) hg hm hv rfl hn hd
theorem r_yes (h : R true H) : tYes σ H R := h
theorem r_cut (M : L2.St → Hp → Prop) (h : t { D0 with nx := M } σ H) (k : ∀ σ' H', M σ' H' → u D0 σ' H') : Evl.tCut t u D0 σ H := ⟨M, h, k⟩
theorem r_chain {r r' : R2} {tc : TE} (h : ta σ H fun x H1 => tb σ H1 fun y H2 => r x y H2 fun z H3 => ∃ k, z = .bl k ∧ (if k = true then tc σ H3 fun w' H4 => r' y w' H4 Q else Q (.bl false) H3)) : tChain r r' ta tb tc σ H Q := h
theorem r_nt {a b : String} (h : Q (.bl (!decide (a = b))) H) : rNT (.ty a) (.ty b) H Q := ⟨a, b, rfl, rfl, h⟩
theorem take_one {α : Type} {l : List α} {i : Nat} {x : α} (h : l[i]? = some x) : l.take (i + 1) = l.take i ++ [x] := by
  rw [List.take_succ, h]
  rfl
/-- a tuple of data is laid; the heap behind it is a letter -/
theorem r_tupN {ds : List D} {xs : List V} (h : Dts H ds xs) (few : xs.length ≤ 10000) (k : ∀ p H', Kp [] H H' → KeepT H H' → H p = none → H' p = some (.tup xs) → Dt H' (.tup ds) (.ref p) → Q (.ref p) H') :
    NewT xs H Q := by
  refine ⟨Nat.le_trans few (by decide), fun p np => ?_⟩
  have k1 : Kp [] H (upd H p (.tup xs)) := (Kp.refl _ _).up np
  exact k p _ k1 k1.t0 np upd_same (Dt.tupI upd_same (h.mono k1.t0))
/-- a list is laid -/
theorem r_lstN {xs : List V} (few : xs.length ≤ 10000) (k : ∀ p H', Kp [] H H' → KeepT H H' → H p = none → H' p = some (.lst xs) → Q (.ref p) H') :
    NewL xs H Q := by
  refine ⟨Nat.le_trans few (by decide), fun p np => ?_⟩
  have k1 : Kp [] H (upd H p (.lst xs)) := (Kp.refl _ _).up np
  exact k p _ k1 k1.t0 np upd_same
theorem new_tup {ds : List D} {xs : List V} {p : Addr} (np : H p = none) (h : Dts H ds xs) : Kp [] H (upd H p (.tup xs)) ∧ KeepT H (upd H p (.tup xs)) ∧ Dt (upd H p (.tup xs)) (.tup ds) (.ref p) :=
  have k1 : Kp [] H (upd H p (.tup xs)) := (Kp.refl _ _).up np
  ⟨k1, k1.t0, Dt.tupI upd_same (h.mono k1.t0)⟩
theorem Dt.use {d : D} (h : Dt H d v) : Dt H d v := h
theorem dt_str {x : Str} : Dt H (.str x) (.str x) := rfl
theorem dt_int {x : Int} : Dt H (.int x) (.int x) := rfl
theorem dt_bl {x : Bool} : Dt H (.bl x) (.bl x) := rfl
theorem dt_non : Dt H .non .non := rfl
/-- an item at a drawn place -/
theorem at_mem {xs : List V} {i : Int} (h0 : 0 ≤ i) (h : i < (xs.length : Nat)) : ∃ v, atI xs i = some v ∧ v ∈ xs ∧ xs[i.toNat]? = some v := by
  have hk : i.toNat < xs.length := by omega
  have e : i = ((i.toNat : Nat) : Int) := by omega
  exact ⟨xs[i.toNat], at_of e (List.getElem?_eq_getElem hk), List.getElem_mem hk, List.getElem?_eq_getElem hk⟩
theorem at_any {α : Type} {xs : List α} {i : Int} (h0 : 0 ≤ i) (h : i < (xs.length : Nat)) : ∃ v, atI xs i = some v := by
  have hk : i.toNat < xs.length := by omega
  have e : i = ((i.toNat : Nat) : Int) := by omega
  refine ⟨xs[i.toNat], ?_⟩
  have q := atI_nat (List.getElem?_eq_getElem hk)
  rw [← e] at q
  exact q
theorem cut_map {f : Int → V} (ns : List Int) (lo hi : Option Int) : ∃ ms : List Int, cutV (ns.map f) lo hi = ms.map f ∧ ms.length ≤ ns.length := by
  refine ⟨(ns.drop (HT.sIx (ns.map f).length 0 lo)).take (HT.sIx (ns.map f).length (ns.map f).length hi - HT.sIx (ns.map f).length 0 lo), ?_, ?_⟩
  · unfold cutV
    rw [List.map_take, List.map_drop]
  · rw [List.length_take, List.length_drop]
    omega
theorem cut_mem {xs : List V} {lo hi : Option Int} {x : V} (h : x ∈ cutV xs lo hi) : x ∈ xs := List.mem_of_mem_drop (List.mem_of_mem_take h)
theorem r_par {i j : Nat} (h : A σ H fun vs H1 => ∃ v w, vs = [v, w] ∧ D0.nx ((σ.set i (some v)).set j (some w)) H1) : tPar i j A D0 σ H := h
theorem r_two {S : V → V → Prop} (h : S x y) : ∃ v w, [x, y] = [v, w] ∧ S v w := ⟨x, y, rfl, h⟩
/-- a comprehension's list, from where its iterator has come -/
def LcB (J : It) (g : TG) (tt : TT) (te : TE) (vs : List Nat) (σ : L2.St) (H1 : Hp) (Q : VK) : Prop := ∀ D, H1 D = none → ∃ W : Nat → Nat → Hp → Prop, (∃ m, W 0 m (upd H1 D (.lst []))) ∧ ∀ i m H, W i m H →
  (J.stop i H ∧ Q (.ref D) H) ∨ (J.go i H ∧ ∃ Nx : Hp → Prop, (∀ H', Nx H' → ∃ m', m' < m ∧ W (i + 1) m' H') ∧ ∀ x H', J.yld i H x H' → g x (wipe σ vs) H' fun σ2 H2 => wipe σ2 vs = wipe σ vs ∧ tt σ2 H2 fun b H3 =>
    if b = true then te σ2 H3 fun y H4 => ∃ acc, H4 D = some (.lst acc) ∧ acc.length < sizeLine ∧ Nx (upd H4 D (.lst (acc ++ [y]))) else Nx H3)
theorem r_lc {wi : TI} {vs : List Nat} (h : wi σ H fun J H1 => LcB J g T te vs σ H1 Q) : tLc wi g T te vs σ H Q := h
theorem r_iL {S : It → Hp → Prop} (h : te σ H fun x H1 => ∃ a, x = .ref a ∧ (∃ xs, SqL K H1 a xs) ∧ S (Itl K a) H1) : iList K te σ H S := h
theorem r_iT {S : It → Hp → Prop} (h : te σ H fun x H1 => ∃ a, x = .ref a ∧ (∃ xs, SqT K H1 a xs) ∧ S (Itt K a) H1) : iTup K te σ H S := h
theorem r_iS {S : It → Hp → Prop} (h : te σ H fun v H1 => ∃ x, v = .str x ∧ S (Its x) H1) : iStr te σ H S := h
theorem r_i1 {S : It → Hp → Prop} (h : A σ H fun vs H1 => ∃ j : Int, vs = [.int j] ∧ -(2 ^ 62) ≤ j ∧ j < 2 ^ 62 ∧ S (Itr 0 j.toNat) H1) : iRng1 A σ H S := h
theorem r_catN {l b : Addr} {xs zs : List V} (h1 : H l = some (.lst xs)) (h2 : H b = some (.lst zs)) (few : xs.length + zs.length ≤ 10000) (k : ∀ p H', Kp [] H H' → KeepT H H' → H p = none → H' p = some (.lst (xs ++ zs)) → Q (.ref p) H') :
    rCat (.ref l) (.ref b) H Q := by
  refine ⟨l, b, xs, zs, rfl, rfl, h1, h2, Nat.le_trans few (by decide), fun p np => ?_⟩
  have k1 : Kp [] H (upd H p (.lst (xs ++ zs))) := (Kp.refl _ _).up np
  exact k p _ k1 k1.t0 np upd_same
theorem r_slL {l : Addr} {xs : List V} {lo hi : Option Int} (h1 : H l = some (.lst xs)) (k : ∀ p H', Kp [] H H' → KeepT H H' → H p = none → H' p = some (.lst (cutV xs lo hi)) → Q (.ref p) H') : rSlL K (.ref l) lo hi H Q := by
  refine ⟨l, xs, rfl, SqL.of h1, fun p np => ?_⟩
  have k1 : Kp [] H (upd H p (.lst (cutV xs lo hi))) := (Kp.refl _ _).up np
  exact k p _ k1 k1.t0 np upd_same
theorem if_t {A B : Prop} {c : Bool} (e : c = true) (h : A) : if c = true then A else B := by rw [if_pos e]; exact h
theorem if_f {A B : Prop} {c : Bool} (e : c = false) (h : B) : if c = true then A else B := by rw [if_neg (by rw [e]; decide)]; exact h
theorem if_2 {A B : Prop} {c : Bool} (h1 : c = true → A) (h2 : c = false → B) : if c = true then A else B := by
  cases c with
  | true => exact if_t rfl (h1 rfl)
  | false => exact if_f rfl (h2 rfl)
end
/-- a def that the head tells -/
theorem df_mk {K : PySem.W.Frag} {h : Heap} {mg : Str → Option Value} {x : Str} {st : Stmt} {ps : List Str} {f : Addr} {oc : Value} {od an : Option Addr} {sl : Array (Option Value)} {kV doc pm cd ct : Value} (X : K.In h) (G : h.Ns mainGlobals mg)
    (a : PySem.W.nsIn K mainGlobals x = some (some (.ref f))) (l : K.lookup f = some ⟨oc, od, .func (PySem.W.fnOf x x (defArgs st) (defBody st) (defScope st) .none kV doc pm an cd ct), sl⟩) (c : PySem.W.codeIn K cd x = true) (k : PySem.W.keepIn K (.ref f) = true)
    (hb : ∀ (kV doc pm : Value) (an : Option Addr) (cdv ct : Value) (us : List Value), us.length = ps.length → bindArgs (PySem.W.fnOf x x (defArgs st) (defBody st) (defScope st) .none kV doc pm an cdv ct) ⟨us, []⟩ = pure (ps.zip us)) : Df K mg x st ps :=
  ⟨⟨f, _, fun_mk l c k, (fun_mk l c k).binds hb, PySem.W.mg_of X G a⟩⟩
end Lc
end

section
/-! Sizes, depths and widths of data. -/
namespace Lc
open PySem L2
variable [Lc.Tbs]
mutual
def D.sz : D → Nat
  | .tup xs => 1 + szs xs
  | .non => 1
  | .bl _ => 1
  | .int _ => 1
  | .str _ => 1
def szs : List D → Nat
  | [] => 0
  | d :: ds => d.sz + szs ds
end
mutual
def D.dp : D → Nat
  | .tup xs => 1 + dps xs
  | .non => 1
  | .bl _ => 1
  | .int _ => 1
  | .str _ => 1
def dps : List D → Nat
  | [] => 0
  | d :: ds => max d.dp (dps ds)
end
mutual
/-- texts are as S says, tuples have at most W parts -/
def Wd (S : Str → Prop) (W : Nat) : D → Prop
  | .str x => S x
  | .tup xs => xs.length ≤ W ∧ Wds S W xs
  | .non => True
  | .bl _ => True
  | .int _ => True
def Wds (S : Str → Prop) (W : Nat) : List D → Prop
  | [] => True
  | d :: ds => Wd S W d ∧ Wds S W ds
end
theorem D.sz_pos : ∀ d : D, 1 ≤ d.sz
  | .tup xs => by rw [D.sz]; omega
  | .non => Nat.le_refl 1
  | .bl _ => Nat.le_refl 1
  | .int _ => Nat.le_refl 1
  | .str _ => Nat.le_refl 1
theorem szs_len : ∀ ds : List D, ds.length ≤ szs ds
  | [] => Nat.le_refl 0
  | d :: ds => by
    have h1 := D.sz_pos d
    have h2 := szs_len ds
    rw [szs, List.length_cons]
    omega
theorem szs_app : ∀ ds es : List D, szs (ds ++ es) = szs ds + szs es
  | [], es => by rw [List.nil_append, szs, Nat.zero_add]
  | d :: ds, es => by rw [List.cons_append, szs, szs, szs_app ds es, Nat.add_assoc]
theorem dps_app : ∀ ds es : List D, dps (ds ++ es) = max (dps ds) (dps es)
  | [], es => by rw [List.nil_append, dps, Nat.zero_max]
  | d :: ds, es => by rw [List.cons_append, dps, dps, dps_app ds es, Nat.max_assoc]
theorem dps_mem : ∀ {ds : List D} {d : D}, d ∈ ds → d.dp ≤ dps ds
  | e :: ds, d, h => by
    rw [dps]
    rcases List.mem_cons.mp h with rfl | h
    · omega
    · have := dps_mem h
      omega
theorem szs_mem : ∀ {ds : List D} {d : D}, d ∈ ds → d.sz ≤ szs ds
  | e :: ds, d, h => by
    rw [szs]
    rcases List.mem_cons.mp h with rfl | h
    · omega
    · have := szs_mem h
      omega
theorem Wds.mem {S : Str → Prop} {W : Nat} : ∀ {ds : List D}, Wds S W ds ↔ ∀ d ∈ ds, Wd S W d
  | [] => ⟨fun _ _ h => (by cases h), fun _ => trivial⟩
  | e :: ds => by
    rw [Wds, Wds.mem (ds := ds)]
    constructor
    · rintro ⟨h1, h2⟩ d hd
      rcases List.mem_cons.mp hd with rfl | hd
      · exact h1
      · exact h2 d hd
    · intro h
      exact ⟨h e List.mem_cons_self, fun d hd => h d (List.mem_cons_of_mem _ hd)⟩
theorem Wds.app {S : Str → Prop} {W : Nat} {ds es : List D} (h1 : Wds S W ds) (h2 : Wds S W es) : Wds S W (ds ++ es) := Wds.mem.mpr fun d hd => by
  rcases List.mem_append.mp hd with h | h
  · exact Wds.mem.mp h1 d h
  · exact Wds.mem.mp h2 d h
theorem Wds.sub {S : Str → Prop} {W : Nat} {ds es : List D} (h1 : Wds S W ds) (h2 : ∀ d ∈ es, d ∈ ds) : Wds S W es := Wds.mem.mpr fun d hd => Wds.mem.mp h1 d (h2 d hd)
mutual
theorem Wd.mono {S S' : Str → Prop} {W W' : Nat} (s : ∀ x, S x → S' x) (l : W ≤ W') : ∀ {d : D}, Wd S W d → Wd S' W' d
  | .str x, h => s x h
  | .tup xs, h => by
    rw [Wd] at h ⊢
    exact ⟨Nat.le_trans h.1 l, Wds.mono s l h.2⟩
  | .non, _ => trivial
  | .bl _, _ => trivial
  | .int _, _ => trivial
theorem Wds.mono {S S' : Str → Prop} {W W' : Nat} (s : ∀ x, S x → S' x) (l : W ≤ W') : ∀ {ds : List D}, Wds S W ds → Wds S' W' ds
  | [], _ => trivial
  | d :: ds, h => by
    rw [Wds] at h ⊢
    exact ⟨Wd.mono s l h.1, Wds.mono s l h.2⟩
end
theorem Wd.wide {S : Str → Prop} {W W' : Nat} (l : W ≤ W') {d : D} (h : Wd S W d) : Wd S W' d := h.mono (fun _ z => z) l
mutual
/-- the same, reckoned -/
def wdB (S : Str → Bool) (W : Nat) : D → Bool
  | .str x => S x
  | .tup xs => decide (xs.length ≤ W) && wdsB S W xs
  | .non => true
  | .bl _ => true
  | .int _ => true
def wdsB (S : Str → Bool) (W : Nat) : List D → Bool
  | [] => true
  | d :: ds => wdB S W d && wdsB S W ds
end
mutual
theorem wd_of {S : Str → Prop} {B : Str → Bool} {W : Nat} (s : ∀ x, B x = true → S x) : ∀ {d : D}, wdB B W d = true → Wd S W d
  | .str x, h => s x h
  | .tup xs, h => by
    rw [wdB, Bool.and_eq_true] at h
    rw [Wd]
    exact ⟨of_decide_eq_true h.1, wds_of s h.2⟩
  | .non, _ => trivial
  | .bl _, _ => trivial
  | .int _, _ => trivial
theorem wds_of {S : Str → Prop} {B : Str → Bool} {W : Nat} (s : ∀ x, B x = true → S x) : ∀ {ds : List D}, wdsB B W ds = true → Wds S W ds
  | [], _ => trivial
  | d :: ds, h => by
    rw [wdsB, Bool.and_eq_true] at h
    rw [Wds]
    exact ⟨wd_of s h.1, wds_of s h.2⟩
end
theorem szs_max {n : Nat} : ∀ {ds : List D}, (∀ d ∈ ds, d.sz ≤ n) → szs ds ≤ ds.length * n
  | [], _ => Nat.zero_le _
  | d :: ds, h => by
    have h1 := h d List.mem_cons_self
    have h2 := szs_max (ds := ds) fun e he => h e (List.mem_cons_of_mem _ he)
    rw [szs, List.length_cons, Nat.succ_mul]
    omega
theorem dps_max {n : Nat} : ∀ {ds : List D}, (∀ d ∈ ds, d.dp ≤ n) → dps ds ≤ n
  | [], _ => Nat.zero_le _
  | d :: ds, h => by
    have h1 := h d List.mem_cons_self
    have h2 := dps_max (ds := ds) fun e he => h e (List.mem_cons_of_mem _ he)
    rw [dps]
    omega
end Lc
end

section
/-! t[::-1] of a tuple; slices and sums of tuples of data. -/
namespace Lc
open PySem L2 PyProof.Rows PySem.Spec
variable [Lc.Tbs]
section
variable {prog : Program} {w : World} {A : Around} {E : Value → Shared → Prop} {s : Shared}
theorem back_adjust (n : Nat) : Builtin.Slice.sliceAdjust none none (-1) (n : Int) = ((n : Int) - 1, -1) := by
  unfold Builtin.Slice.sliceAdjust
  simp
theorem back_places (n : Nat) : Builtin.Slice.slicePlaces ((n : Int) - 1) (-1) (-1) = n := by
  unfold Builtin.Slice.slicePlaces
  rw [if_neg (by decide)]
  by_cases h : n = 0
  · subst h
    rfl
  · rw [if_pos (by omega)]
    have e : ((n : Int) - 1 - -1 - 1) / (- -1) + 1 = (n : Int) := by
      rw [show (- -1 : Int) = 1 by decide, Int.ediv_one]
      omega
    rw [e, Int.toNat_natCast]
theorem back_pick (l : List Value) : ((List.range l.length).filterMap fun (k : Nat) => l.toArray[(((l.length : Nat) : Int) - 1 + (k : Int) * (-1)).toNat]?) = l.reverse := by
  have e : ∀ m, m ≤ l.length → ((List.range m).filterMap fun (k : Nat) => l.toArray[(((l.length : Nat) : Int) - 1 + (k : Int) * (-1)).toNat]?) = l.reverse.take m := by
    intro m
    induction m with
    | zero => intro _; rfl
    | succ m ih =>
      intro hm
      have at_ : (((l.length : Nat) : Int) - 1 + (m : Int) * (-1)).toNat = l.length - 1 - m := by omega
      have here : l.reverse[m]? = l[l.length - 1 - m]? := List.getElem?_reverse (by omega)
      have some_ : l[l.length - 1 - m]? = some l[l.length - 1 - m] := List.getElem?_eq_getElem (by omega)
      rw [List.range_succ, List.filterMap_append, ih (by omega), take_one (here.trans some_)]
      congr 1
      rw [List.filterMap_cons, at_, List.getElem?_toArray, some_]
      rfl
  rw [e _ (Nat.le_refl _), List.take_of_length_le (by rw [List.length_reverse]; exact Nat.le_refl _)]
theorem slice_back {sl : Addr} {vl vu vs : Value} {n : Nat} {Q : Int × Int × Nat → Shared → Prop} (hs : s.heap.IsSliceOf sl vl vu vs) (pl : IsPart vl none) (pu : IsPart vu none) (ps : IsPart vs (some (-1)))
    (h : Q ((n : Int) - 1, -1, n) s) : wpAny (model prog w) A (Builtin.Slice.sliceApplied (.ref sl) (pure (n : Int))) Q E s := by
  obtain ⟨o, ho, _, hd⟩ := id hs
  unfold Builtin.Slice.sliceApplied Builtin.Slice.sliceFields
  refine wpAny_bind (wpAny_bind (wpAny_field ho hd (x := vl) rfl (wpAny_bind (wpAny_field ho hd (x := vu) rfl (wpAny_bind (wpAny_field ho hd (x := vs) rfl (wpAny_pure ?_)))))))
  refine wpAny_bind (HT.slicePart_ ps ?_)
  show wpAny _ _ (if ((-1 : Int) == 0) = true then _ else _) _ _ s
  rw [if_neg (by decide)]
  refine wpAny_bind (HT.slicePart_ pl (wpAny_bind (HT.slicePart_ pu (wpAny_bind (wpAny_pure ?_)))))
  show wpAny _ _ (match Builtin.Slice.sliceAdjust none none (-1) (n : Int) with | (x, y) => pure (x, (-1 : Int), Builtin.Slice.slicePlaces x y (-1))) _ _ s
  rw [back_adjust]
  show wpAny _ _ (pure ((n : Int) - 1, (-1 : Int), Builtin.Slice.slicePlaces ((n : Int) - 1) (-1) (-1))) _ _ s
  rw [back_places]
  exact wpAny_pure h
theorem tuple_back {t sl : Addr} {l : List Value} {vl vu vs : Value} {Q : Value → Shared → Prop} (ht : IsTup s.heap t l.toArray) (hs : s.heap.IsSliceOf sl vl vu vs) (pl : IsPart vl none) (pu : IsPart vu none) (ps : IsPart vs (some (-1)))
    (few : l.length ≤ sizeLine) (h : Q (.ref s.heap.objs.size) { s with heap := s.heap.push { cls := .type "tuple", data := .seq l.reverse.toArray } }) : wpAny (model prog w) A (getItem (.ref t) (.ref sl)) Q E s := by
  obtain ⟨o, ho, hc, _⟩ := id hs
  have isS : s.TypeIs (.ref sl) "slice" := ⟨o, ho, hc⟩
  have room : sizeOk (.seq l.reverse.toArray) := by
    show l.reverse.toArray.size ≤ sizeLine
    rw [List.size_toArray, List.length_reverse]
    exact few
  unfold getItem
  try with_reducible refine wpAny_holding ?_
  first | refine wpAny_bind (wpAny_pure ?_) | skip
  refine wpAny_bind (wpAny_sequenceKey ht.typeIs (by decide) ?_)
  refine wpAny_bind (wpAny_callSpecial?_slot (name := Str.ofString "__getitem__") ht.typeIs slot_tuple_getitem (wpAny_call_entry slot_tuple_getitem ht.typeIs entry_tuple_getitem ?_ (args_tuple_getitem _ _)))
  show wpAny _ _ (Builtin.Tuple.tupleItemsOf (.ref t) >>= _) _ _ s
  refine wpAny_bind (tupleItemsOf_ ht (wpAny_bind (wpAny_typeOf isS ?_)))
  rw [if_pos (by decide)]
  have e : l.toArray.size = l.length := List.size_toArray
  rw [e]
  refine wpAny_bind (slice_back hs pl pu ps ?_)
  have no : ¬ (((l.length : Nat) : Int) - 1 == 0 && (-1 : Int) == 1 && l.length == l.length) = true := by simp
  show wpAny _ _ (if (((l.length : Nat) : Int) - 1 == 0 && (-1 : Int) == 1 && l.length == l.length) = true then _ else _) _ _ s
  rw [if_neg no, back_pick]
  first
    | exact wpAny_bind (m := Builtin.Tuple.tupleExact _) (wpAny_newObj_type (wpAny_pure ⟨_, rfl, wpAny_pure h⟩) room)
    | exact wpAny_bind (m := Builtin.Tuple.tupleExact _) (wpAny_newObj_type (wpAny_bind (wpAny_pure (wpAny_pure ⟨_, rfl, wpAny_pure h⟩))) room)
    | exact wpAny_bind (wpAny_bind (m := Builtin.Tuple.tupleExact _) (wpAny_newObj_type (wpAny_pure (wpAny_pure ⟨_, rfl, wpAny_pure h⟩)) room))
end
section
variable {X : Cx} {K : PySem.W.Frag} {σ : L2.St} {H : Hp} {Q : VK}
def tBackT (K : PySem.W.Frag) (te : TE) : TE := fun σ H Q => te σ H fun x H1 => ∃ a xs, x = .ref a ∧ SqT K H1 a xs ∧ ∀ p, H1 p = none → Q (.ref p) (upd H1 p (.tup xs.reverse))
theorem pe_revT {e : Expr} {te : TE} {k : Nat} {p1 p2 p3 pos : Pos} (he : PE X e te) : PE X (.Subscript e (.Slice none none (some (.UnaryOp .USub (.Constant (.int 1) k p1) p2)) p3) pos) (tBackT X.K te) := by
  constructor
  intro pins s σ H Q I h
  refine Subscript_ (thn (he.run pins s σ H _ I h) fun v s1 ⟨x, H1, I1, r1, a, xs, ex, hx, q⟩ => ?_)
  subst ex
  cases r1
  have hst : PO X (some (.UnaryOp .USub (.Constant (.int 1) k p1) p2)) (tPart (tUn (rU fun i => .int (-i)) (tC (.int 1)))) := po_some (pe_un un_neg pe_int)
  refine wpAny_Slice (thn (po_none.run pins s1 σ H1 (fun o G => o = none ∧ G = H1) I1 ⟨rfl, rfl⟩) fun vl s2 ⟨l, H2, I2, pl, el, g2⟩ => ?_)
  subst el g2
  refine thn (po_none.run pins s2 σ H2 (fun o G => o = none ∧ G = H2) I2 ⟨rfl, rfl⟩) fun vu s3 ⟨u, H3, I3, pu, eu, g3⟩ => ?_
  subst eu g3
  refine thn (hst.run pins s3 σ H3 (fun o G => o = some (-1) ∧ G = H3) I3 ⟨1, rfl, -1, rfl, rfl, rfl⟩) fun vs s4 ⟨o, H4, I4, ps, eo, g4⟩ => ?_
  subst eo g4
  have I5 : Inv X pins σ H4 { s4 with heap := s4.heap.push { cls := .type "slice", data := .fields #[vl, vu, vs] } } := I4.kept (t' := s4.toks) fun b ob z => Heap.get?_push_of_some _ z
  obtain ⟨its, r, ht, hz⟩ := I5.tuple hx
  have hlen := r.length
  show wpAny (model X.prog X.w) X.A (subscriptTail e (.Slice none none (some (.UnaryOp .USub (.Constant (.int 1) k p1) p2)) p3) (.ref a) (.ref s4.heap.objs.size)) (EP X pins σ Q) X.xe { s4 with heap := s4.heap.push { cls := .type "slice", data := .fields #[vl, vu, vs] } }
  refine tail_any (ops := [.ref a, .ref s4.heap.objs.size]) ht.typeIs slot_tuple_getitem.lookup ?_ (by with_unfolding_all rfl)
  refine tuple_back ht (Heap.IsSliceOf.new _ vl vu vs) pl pu ps (by omega) ?_
  refine ⟨.ref _, _, I5.laid (t' := s4.toks) (o := .tup xs.reverse) (fun b ob z => Heap.get?_push_of_some _ z) (Nat.le_refl _) ?_, rfl, q _ (I5.hok.fresh (Nat.le_refl _))⟩
  exact ⟨by rw [List.length_reverse]; exact hz, _, r.reverse, _, Heap.get?_push_size _ rfl, rfl, _, rfl⟩
/-- of a tuple of data -/
theorem r_back {te : TE} (h : te σ H fun x H1 => ∃ a xs, x = .ref a ∧ SqT K H1 a xs ∧ ∀ p, H1 p = none → Q (.ref p) (upd H1 p (.tup xs.reverse))) : tBackT K te σ H Q := h
/-- a slice of a tuple of data is one -/
theorem r_slT {a : Addr} {xs : List V} {ds : List D} {lo hi : Option Int} (h1 : H a = some (.tup xs)) (hd : Dts H ds xs) (k : ∀ v es H', Kp [] H H' → KeepT H H' → Dt H' (.tup es) v → (∀ e ∈ es, e ∈ ds) → es.length = (cutV xs lo hi).length → Q v H') :
    rSlA K (.ref a) lo hi H Q := by
  have cut : Dts H ((ds.drop (HT.sIx xs.length 0 lo)).take (HT.sIx xs.length xs.length hi - HT.sIx xs.length 0 lo)) (cutV xs lo hi) := (hd.drop _).take _
  have sub : ∀ e ∈ (ds.drop (HT.sIx xs.length 0 lo)).take (HT.sIx xs.length xs.length hi - HT.sIx xs.length 0 lo), e ∈ ds := fun e he => List.mem_of_mem_drop (List.mem_of_mem_take he)
  refine ⟨a, xs, rfl, SqT.of h1, fun hw => ?_, fun _ p np => ?_⟩
  · have e : cutV xs lo hi = xs := by
      unfold cutV
      rw [hw.1, hw.2, List.drop_zero, Nat.sub_zero, List.take_length]
    rw [e] at cut
    exact k _ _ H (Kp.refl _ _) (fun _ _ z => z) (Dt.tupI h1 cut) sub (by rw [e]; exact cut.len.symm)
  · obtain ⟨k1, t1, d1⟩ := new_tup np cut
    exact k _ _ _ k1 t1 d1 sub cut.len.symm
/-- the sum of two tuples of data is one -/
theorem r_catT {a b : Addr} {xs ys : List V} {ds es : List D} (h1 : H a = some (.tup xs)) (h2 : H b = some (.tup ys)) (hd : Dts H ds xs) (he : Dts H es ys) (few : xs.length + ys.length ≤ 10000)
    (k : ∀ v H', Kp [] H H' → KeepT H H' → Dt H' (.tup (ds ++ es)) v → Q v H') : rCatA K (.ref a) (.ref b) H Q := by
  refine ⟨a, b, xs, ys, rfl, rfl, SqT.of h1, SqT.of h2, Nat.le_trans few (by decide), fun z => ?_, fun _ z => ?_, fun _ _ p np => ?_⟩
  · subst z
    have e : ds = [] := List.eq_nil_of_length_eq_zero hd.len.symm
    subst e
    exact k _ H (Kp.refl _ _) (fun _ _ z => z) (Dt.tupI h2 he)
  · subst z
    have e : es = [] := List.eq_nil_of_length_eq_zero he.len.symm
    subst e
    rw [List.append_nil] at k
    exact k _ H (Kp.refl _ _) (fun _ _ z => z) (Dt.tupI h1 hd)
  · obtain ⟨k1, t1, d1⟩ := new_tup np (hd.app he)
    exact k _ _ k1 t1 d1
theorem last_cut (xs : List V) : (cutV xs (some (-1)) none).length ≤ 1 := by
  unfold cutV
  rw [List.length_take, List.length_drop]
  have e : HT.sIx xs.length 0 (some (-1)) = xs.length - 1 := by
    show (if (-1 : Int) < 0 then ((-1 : Int) + (xs.length : Int)).toNat else min (-1 : Int).toNat xs.length) = _
    rw [if_pos (by decide)]
    omega
  rw [e]
  omega
end
end Lc
end

section
/-! == and != of data of any depth; dict(t) of a tuple of pairs. -/
namespace Lc
open PySem L2 PyProof.Rows PySem.Spec
variable [Lc.Tbs]
mutual
def D.py : D → PyData
  | .tup xs => .tuple (pys xs)
  | .non => .none
  | .bl b => .bool b
  | .int i => .int i
  | .str x => .str x
def pys : List D → List PyData
  | [] => []
  | d :: ds => d.py :: pys ds
end
mutual
theorem Dt.py {K : PySem.W.Frag} {H : Hp} : ∀ {d : D} {v : V}, Dt H d v → Dp K H v d.py
  | .non, v, h => by cases (show v = _ from h); rw [D.py]; exact .non
  | .bl b, v, h => by cases (show v = _ from h); rw [D.py]; exact .bl b
  | .int i, v, h => by cases (show v = _ from h); rw [D.py]; exact .int i
  | .str x, v, h => by cases (show v = _ from h); rw [D.py]; exact .str x
  | .tup ds, v, h => by
    obtain ⟨a, xs, rfl, ha, hs⟩ := h
    rw [D.py]
    exact .tup (SqT.of ha) (Dts.py hs)
theorem Dts.py {K : PySem.W.Frag} {H : Hp} : ∀ {ds : List D} {xs : List V}, Dts H ds xs → DpAll K H xs (pys ds)
  | [], xs, h => by cases (show xs = _ from h); rw [pys]; exact .nil
  | d :: ds, xs, h => by
    obtain ⟨x, r, rfl, h1, h2⟩ := h
    rw [pys]
    exact .cons (Dt.py h1) (Dts.py h2)
end
/-- a text of the data -/
abbrev Tx (x : Str) : Prop := PyData.strOk x = true
mutual
theorem D.can {W : Nat} : ∀ {d : D}, Wd Tx W d → d.py.canLay0 = true
  | .tup xs, h => by
    rw [D.py, PyData.canLay0]
    rw [Wd] at h
    exact pys_can h.2
  | .non, _ => by rw [D.py, PyData.canLay0]
  | .bl b, _ => by rw [D.py, PyData.canLay0]
  | .int i, _ => by rw [D.py, PyData.canLay0]
  | .str x, h => by rw [D.py, PyData.canLay0]; exact h
theorem pys_can {W : Nat} : ∀ {ds : List D}, Wds Tx W ds → PyData.canLayAll0 (pys ds) = true
  | [], _ => by rw [pys, PyData.canLayAll0]
  | d :: ds, h => by
    rw [Wds] at h
    rw [pys, PyData.canLayAll0, D.can h.1, pys_can h.2]
    rfl
end
mutual
theorem D.py_dp : ∀ d : D, d.py.depth ≤ d.dp
  | .tup xs => by
    have := pys_dp xs
    rw [D.py, PyData.depth, D.dp]
    omega
  | .non => Nat.zero_le _
  | .bl b => Nat.zero_le _
  | .int i => Nat.zero_le _
  | .str x => Nat.zero_le _
theorem pys_dp : ∀ ds : List D, PyData.depthAll (pys ds) ≤ dps ds
  | [] => Nat.zero_le _
  | d :: ds => by
    have h1 := D.py_dp d
    have h2 := pys_dp ds
    rw [pys, PyData.depthAll, dps]
    omega
end
def eqD (a b : D) : Bool := PyData.eqv a.py b.py
def eqDs (a b : List D) : Bool := PyData.eqvAll (pys a) (pys b)
theorem eqD_tup (a b : List D) : eqD (.tup a) (.tup b) = eqDs a b := by
  unfold eqD eqDs
  rw [D.py, D.py, PyData.eqv]
theorem eqDs_nil : eqDs [] [] = true := by unfold eqDs; rw [pys, PyData.eqvAll]
theorem eqDs_cons (a b : D) (as bs : List D) : eqDs (a :: as) (b :: bs) = (eqD a b && eqDs as bs) := by unfold eqDs eqD; rw [pys, pys, PyData.eqvAll]
theorem eqDs_nilL (b : D) (bs : List D) : eqDs [] (b :: bs) = false := by unfold eqDs; rw [pys, pys, PyData.eqvAll]
theorem eqDs_nilR (b : D) (bs : List D) : eqDs (b :: bs) [] = false := by unfold eqDs; rw [pys, pys, PyData.eqvAll]
theorem eqD_str (x y : Str) : eqD (.str x) (.str y) = decide (x = y) := by
  unfold eqD
  rw [D.py, D.py, PyData.eqv]
  by_cases h : x = y
  · rw [h, decide_eq_true rfl, beq_self_eq_true]
  · rw [decide_eq_false h]
    exact beq_eq_false_iff_ne.mpr h
theorem eqD_strR {d : D} {y : Str} (h : eqD d (.str y) = true) : d = .str y := by
  cases d with
  | str x => rw [eqD_str] at h; rw [of_decide_eq_true h]
  | non => unfold eqD at h; simp only [D.py, PyData.eqv] at h; cases h
  | bl b => unfold eqD at h; simp only [D.py, PyData.eqv] at h; cases h
  | int b => unfold eqD at h; simp only [D.py, PyData.eqv] at h; cases h
  | tup b => unfold eqD at h; simp only [D.py, PyData.eqv] at h; cases h
theorem eqD_int (x y : Int) : eqD (.int x) (.int y) = decide (x = y) := by
  unfold eqD
  rw [D.py, D.py, PyData.eqv]
  by_cases h : x = y
  · rw [h, decide_eq_true rfl, beq_self_eq_true]
  · rw [decide_eq_false h]
    exact beq_eq_false_iff_ne.mpr h
section
variable {X : Cx}
def rEqA (n : Nat) : R2 := fun x y H Q => ∃ d e W, Dt H d x ∧ Dt H e y ∧ Wd Tx W d ∧ Wd Tx W e ∧ min d.dp e.dp ≤ n ∧ Q (.bl (eqD d e)) H
def rNeA (n : Nat) : R2 := fun x y H Q => ∃ d e W, Dt H d x ∧ Dt H e y ∧ Wd Tx W d ∧ Wd Tx W e ∧ min d.dp e.dp ≤ n ∧ Q (.bl (!eqD d e)) H
theorem op_eqA {n : Nat} (hu : X.A.units + n < cLine) : OpR X (compareOp .Eq) (rEqA n) := by
  intro pins s σ H x y v u Q I rx ry h
  obtain ⟨d, e, W, hd, he, sd, se, hm, q⟩ := h
  obtain ⟨as, r1⟩ := Dp.reads I d.py x v hd.py rx
  obtain ⟨bs, r2⟩ := Dp.reads I e.py y u he.py ry
  refine SeqAt.compareEq_reads r1 r2 (D.can sd) (D.can se) ?_ ⟨.bl _, H, I, rfl, q⟩
  have h1 := d.py_dp
  have h2 := e.py_dp
  omega
theorem op_neA {n : Nat} (hu : X.A.units + n < cLine) : OpR X (compareOp .NotEq) (rNeA n) := by
  intro pins s σ H x y v u Q I rx ry h
  obtain ⟨d, e, W, hd, he, sd, se, hm, q⟩ := h
  obtain ⟨as, r1⟩ := Dp.reads I d.py x v hd.py rx
  obtain ⟨bs, r2⟩ := Dp.reads I e.py y u he.py ry
  refine SeqAt.compareNe_reads r1 r2 (D.can sd) (D.can se) ?_ ⟨.bl _, H, I, rfl, q⟩
  have h1 := d.py_dp
  have h2 := e.py_dp
  omega
theorem u150 {k : Nat} {A : Around} (r : Room k A) : A.units + 150 < cLine := by
  have := r.un
  omega
end

/-! ### dict(t), t a tuple of pairs -/
section
variable {X : Cx}
theorem prs_of {pins : List (Addr × Obj)} {σ : L2.St} {H : Hp} {s : Shared} (I : Inv X pins σ H s) : ∀ {ps : List Addr} {kvs : List (Key × V)}, Paired (fun p kv => SqT X.K H p [kV kv.1, kv.2]) ps kvs →
    ∃ prs : List (Key × Value), ∃ us : List Value, KV kvs prs ∧ prs.length = ps.length ∧ us.length = ps.length ∧ ∀ (j : Nat) (q : Key × Value), prs[j]? = some q → ∃ (b : Addr) (u : Value), ps[j]? = some b ∧ us[j]? = some u ∧ IsTup s.heap b #[u, q.2] ∧ (mixKind X.prog X.w).is q.1 u = true
  | _, _, .nil => ⟨[], [], .nil, rfl, rfl, fun j q e => by simp at e⟩
  | _, _, .cons (a := p) (b := kv) h t => by
    obtain ⟨prs, us, r, hl, hl2, hp⟩ := prs_of I t
    obtain ⟨its, rv, ht, _⟩ := I.tuple h
    obtain ⟨u, y, ei, ru, ry⟩ := vals2 rv
    subst ei
    refine ⟨(kv.1, y) :: prs, u :: us, .cons ⟨rfl, ry⟩ r, by rw [List.length_cons, List.length_cons, hl], by rw [List.length_cons, List.length_cons, hl2], fun j q e => ?_⟩
    cases j with
    | zero =>
      have e' : (kv.1, y) = q := Option.some.inj e
      subst e'
      exact ⟨p, u, rfl, rfl, ht, kV_is (P := X.prog) (w := X.w) ru⟩
    | succ j =>
      obtain ⟨b, u', e1, e2, e3, e4⟩ := hp j q (by simpa using e)
      exact ⟨b, u', by simpa using e1, by simpa using e2, e3, e4⟩
/-- .. of a tuple whose object is known -/
def rDictT (K : PySem.W.Frag) : List V → Hp → VK → Prop := fun xs H Q => ∃ (a : Addr) (ob : Obj) (ps : List Addr) (kvs : List (Key × V)), xs = [.ref a] ∧ H a = some (.frz ob (.tup (ps.map V.ref))) ∧ ob.dict = none ∧ Paired (fun p kv => SqT K H p [kV kv.1, kv.2]) ps kvs ∧ ps.length ≤ 10000 ∧
    ∀ p, H p = none → Q (.ref p) (upd H p (.dK (mergeK [] kvs)))
theorem call_dictTup (hcalm : X.calm = true) : CallR X (.type "dict") (rDictT X.K) := by
  intro pins s σ H xs us Q I r q
  obtain ⟨a, ob, ps, kvs, ex, hq, hno, hp, few, q⟩ := q
  subst ex
  obtain ⟨u, eu, rx⟩ := vals1 r
  subst eu
  cases rx
  obtain ⟨hob, okt⟩ := (show ObjOk X.prog X.w H s.heap a (.frz ob (.tup (ps.map V.ref))) from I.hok a _ hq)
  obtain ⟨hz, its, rv, o, ho, hc, n, hd⟩ := okt
  cases (Option.some.inj (hob.symm.trans ho))
  have ei := refs_at rv
  subst ei
  obtain ⟨prs, ks, rel, hl, hl2, hpr⟩ := prs_of I hp
  have ok : PlainSeq "tuple" s.heap a (ps.map Value.ref).toArray ∧ PairItems s.heap (ps.map Value.ref).toArray (fun j => (ps[j]?).getD 0) (ks.zip (prs.map Prod.snd)) := by
    refine ⟨⟨ob, n, ho, hc, hno, hd⟩, by simp [hl, hl2], fun j k v hj => ?_⟩
    have h1 : j < prs.length := by
      have := (List.getElem?_eq_some_iff.mp hj).1
      simp at this
      omega
    obtain ⟨b, u, e1, e2, e3, e4⟩ := hpr j _ (List.getElem?_eq_getElem h1)
    have hv : (ks.zip (prs.map Prod.snd))[j]? = some (u, prs[j].2) := by
      rw [List.getElem?_zip_eq_some]
      exact ⟨e2, by simp [h1]⟩
    rw [hv] at hj
    cases hj
    refine ⟨by simp [e1], ?_⟩
    show PairAt s.heap ((ps[j]?).getD 0) _ _
    rw [e1]
    exact .inl e3
  refine call_dict_pairs (knd := mixKind X.prog X.w) (kvs := prs) (PairArg.tuple a _ _ _) (I.ok.hd hcalm) ok ⟨by simp [hl, hl2], fun i key v hi => ?_⟩ (by simp [hl, hl2]; exact Nat.le_trans few (by decide)) fun h' tk hd' k => ?_
  · have h1 : i < prs.length := by
      have := (List.getElem?_eq_some_iff.mp hi).1
      simp at this
      omega
    obtain ⟨b, u, e1, e2, e3, e4⟩ := hpr i _ (List.getElem?_eq_getElem h1)
    have hv : (ks.zip (prs.map Prod.snd))[i]? = some (u, prs[i].2) := by
      rw [List.getElem?_zip_eq_some]
      exact ⟨e2, by simp [h1]⟩
    have hi' : (ks.zip (prs.map Prod.snd))[i]? = some (key, v) := hi
    rw [hv] at hi'
    cases hi'
    exact ⟨prs[i].1, List.getElem?_eq_getElem h1, e4⟩
  · have hm : (s.heap.objs.size == sysModules) = false := beq_eq_false_iff_ne.mpr (Nat.ne_of_gt I.big)
    have hlen : (mergeK [] kvs).length ≤ sizeLine := by
      refine Nat.le_trans (length_mergeK kvs []) ?_
      rw [List.length_nil, Nat.zero_add, rel.length, hl]
      exact Nat.le_trans few (by decide)
    exact ⟨.ref s.heap.objs.size, upd H s.heap.objs.size (.dK (mergeK [] kvs)), I.laid (t' := tk) (fun b o e => k b o (by simp) e) (Nat.le_refl _) (show ObjOk X.prog X.w _ _ _ (.dK (mergeK [] kvs)) from ⟨hlen, hm, merged [] prs, KV.merge rel .nil, hd'⟩), rfl, q _ (I.hok.fresh (Nat.le_refl _))⟩
/-- tuple(l): the new object is known -/
def rTupF (K : PySem.W.Frag) : List V → Hp → VK → Prop := fun xs H Q => ∃ p ys, xs = [.ref p] ∧ SqL K H p ys ∧ ∀ l ob, H l = none → ob.dict = none → Q (.ref l) (upd H l (.frz ob (.tup ys)))
theorem call_tuple_frz : CallR X (.type "tuple") (rTupF X.K) := by
  intro pins s σ H xs us Q I r h
  obtain ⟨p, ys, rfl, hq, q⟩ := h
  obtain ⟨u, rfl, rx⟩ := vals1 r
  cases rx
  obtain ⟨its, r', pl, hz⟩ := I.list hq
  have hlen := r'.length
  refine call_tuple_list pl.isList (fun h' kp => ?_) (by simp only [List.size_toArray] <;> omega)
  have I1 : Inv X pins σ H { s with heap := h' } := I.kept (t' := s.toks) kp
  have I2 : Inv X pins σ (upd H h'.objs.size (.frz { cls := .type "tuple", data := .seq its.toArray } (.tup ys))) { s with heap := h'.push { cls := .type "tuple", data := .seq its.toArray } } :=
    I1.laid (t' := s.toks) (fun b o e => Heap.get?_push_of_some _ e) (Nat.le_refl _) (show ObjOk X.prog X.w _ _ _ (.frz _ (.tup ys)) from ⟨Heap.get?_push_size _ rfl, hz, its, r', IsTup.new _ _⟩)
  exact ⟨.ref h'.objs.size, _, I2, rfl, q _ _ (I1.hok.fresh (Nat.le_refl _)) rfl⟩
theorem valV_merge (k : Key) : ∀ (more acc : List (Key × V)), (more.map (·.1)).Nodup → valV (mergeK acc more) k = (valV more k).or (valV acc k)
  | [], acc, _ => by
    show valV acc k = (valV [] k).or (valV acc k)
    rw [valV_nil]
    rfl
  | p :: r, acc, h => by
    rw [List.map_cons, List.nodup_cons] at h
    have ih := valV_merge k r (putK acc p.1 p.2) h.2
    show valV (mergeK (putK acc p.1 p.2) r) k = _
    rw [ih, valV_put]
    by_cases e : p.1 = k
    · rw [valV_pos e, if_pos e.symm]
      have : valV r k = none := by
        cases q : valV r k with
        | none => rfl
        | some v =>
          exfalso
          unfold valV at q
          obtain ⟨x, hx, _⟩ := Option.map_eq_some_iff.mp q
          have m := List.mem_of_find?_eq_some hx
          have m2 : x.1 = k := by
            have z := List.find?_some hx
            exact of_decide_eq_true z
          exact h.1 (e ▸ m2 ▸ List.mem_map.mpr ⟨x, m, rfl⟩)
      rw [this]
      rfl
    · rw [valV_neg e, if_neg fun z => e z.symm]
end
end Lc
end

section
/-! Types and typed terms, told of data. -/
namespace Lc
open PySem L2 PyProof.Rows PySem.Spec
variable [Lc.Tbs]
/-- a type -/
inductive Ty where
  | mk (as : List Ty) (s : Str)
def Ty.as : Ty → List Ty | .mk a _ => a
def Ty.s : Ty → Str | .mk _ s => s
mutual
def Ty.d : Ty → D
  | .mk as s => .tup [.tup (tyds as), .str s]
def tyds : List Ty → List D
  | [] => []
  | t :: ts => t.d :: tyds ts
end
theorem tyds_map : ∀ ts : List Ty, tyds ts = ts.map Ty.d
  | [] => rfl
  | t :: ts => by rw [tyds, List.map_cons, tyds_map ts]
theorem tyds_len (ts : List Ty) : (tyds ts).length = ts.length := by rw [tyds_map, List.length_map]
theorem tyds_app (a b : List Ty) : tyds (a ++ b) = tyds a ++ tyds b := by rw [tyds_map, tyds_map, tyds_map, List.map_append]
theorem tyds_at {ts : List Ty} {i : Nat} {t : Ty} (h : ts[i]? = some t) : (tyds ts)[i]? = some t.d := by rw [tyds_map, List.getElem?_map, h]; rfl
theorem Ty.d_eq (t : Ty) : t.d = .tup [.tup (tyds t.as), .str t.s] := by
  cases t
  rw [Ty.d]
  rfl
/-- texts are texts, at most W arguments -/
abbrev Ty.Ok (W : Nat) (t : Ty) : Prop := Wd Tx W t.d
abbrev TysOk (W : Nat) (ts : List Ty) : Prop := Wds Tx W (tyds ts)
theorem TysOk.at {W : Nat} {ts : List Ty} {t : Ty} (h : TysOk W ts) (m : t ∈ ts) : t.Ok W := Wds.mem.mp h _ (by rw [tyds_map]; exact List.mem_map.mpr ⟨t, m, rfl⟩)
theorem Ty.Ok.as {W : Nat} {t : Ty} (h : t.Ok W) : TysOk W t.as ∧ t.as.length ≤ W ∧ Tx t.s := by
  unfold Ty.Ok at h
  rw [Ty.d_eq, Wd, Wds, Wds, Wd] at h
  exact ⟨h.2.1.2, by have := h.2.1.1; rw [tyds_len] at this; exact this, h.2.2.1⟩
theorem TysOk.app {W : Nat} {a b : List Ty} (h1 : TysOk W a) (h2 : TysOk W b) : TysOk W (a ++ b) := by
  unfold TysOk
  rw [tyds_app]
  exact Wds.app h1 h2
/-! ### what a signature, a head, a term says -/
abbrev Sg := List (Str × Ty)
def sgGet (sg : Sg) (x : Str) : Option Ty := (sg.find? fun r => decide (r.1 = x)).map (·.2)
def hkI (hs own : List Ty) (s : D) (i : Int) : Option Ty :=
  if (eqD s (.str "b") && decide (i < own.length)) = true then own[own.length - 1 - i.toNat]? else
  if (eqD s (.str "h") && decide (i < hs.length)) = true then hs[i.toNat]? else none
def hkM (hs own : List Ty) (s : D) : D → Option Ty
  | .int i => if i < 0 then none else hkI hs own s i
  | _ => none
def hkC (sg : Sg) : D → Option Ty
  | .str x => sgGet sg x
  | _ => none
def hkB (sg : Sg) (hs own : List Ty) (s m : D) : Option Ty := if (eqD s (.str "c") && m.isS) = true then hkC sg m else hkM hs own s m
def hdB (sg : Sg) (hs own : List Ty) : D → Option Ty
  | .tup [s, m] => hkB sg hs own s m
  | _ => none
mutual
def tmB (sg : Sg) (hs own : List Ty) (k : Ty) : D → Bool
  | .tup [.int n, h, .tup ps] => decide (n = k.as.length) && (match hdB sg hs (own ++ k.as) h with
    | none => false
    | some t => decide (t.s = k.s) && decide (t.as.length = ps.length) && tmsB sg hs (own ++ k.as) t.as ps)
  | _ => false
def tmsB (sg : Sg) (hs own : List Ty) (ts : List Ty) : List D → Bool
  | [] => ts.isEmpty
  | p :: ps => match ts with
    | [] => false
    | t :: ts => tmB sg hs own t p && tmsB sg hs own ts ps
end
theorem mem_of_at {α : Type} {l : List α} {i : Nat} {x : α} (h : l[i]? = some x) : x ∈ l := List.mem_of_getElem? h
theorem hkM_int (hs own : List Ty) (s : D) (i : Int) : hkM hs own s (.int i) = if i < 0 then none else hkI hs own s i := rfl
theorem hkC_mem {sg : Sg} {m : D} {t : Ty} (h : hkC sg m = some t) : ∃ x, (x, t) ∈ sg := by
  unfold hkC at h
  split at h
  · unfold sgGet at h
    obtain ⟨r, hr, e⟩ := Option.map_eq_some_iff.mp h
    exact ⟨r.1, e ▸ List.mem_of_find?_eq_some hr⟩
  · exact absurd h (by simp)
theorem hkI_mem {hs own : List Ty} {s : D} {i : Int} {t : Ty} (h : hkI hs own s i = some t) : t ∈ hs ∨ t ∈ own := by
  unfold hkI at h
  split at h
  · exact .inr (mem_of_at h)
  · split at h
    · exact .inl (mem_of_at h)
    · exact absurd h (by simp)
theorem hkM_mem {hs own : List Ty} {s m : D} {t : Ty} (h : hkM hs own s m = some t) : t ∈ hs ∨ t ∈ own := by
  unfold hkM at h
  split at h
  · split at h
    · exact absurd h (by simp)
    · exact hkI_mem h
  · exact absurd h (by simp)
theorem hdB_mem {sg : Sg} {hs own : List Ty} {d : D} {t : Ty} (h : hdB sg hs own d = some t) : (∃ x, (x, t) ∈ sg) ∨ t ∈ hs ∨ t ∈ own := by
  unfold hdB at h
  split at h
  · unfold hkB at h
    split at h
    · exact .inl (hkC_mem h)
    · exact .inr (hkM_mem h)
  · exact absurd h (by simp)
structure SgOk (W : Nat) (sg : Sg) : Prop where
  nd : (sg.map (·.1)).Nodup
  ok : ∀ r ∈ sg, Tx r.1 ∧ r.2.Ok W
theorem hdB_ok {W : Nat} {sg : Sg} {hs own : List Ty} {d : D} {t : Ty} (s : SgOk W sg) (h1 : TysOk W hs) (h2 : TysOk W own) (h : hdB sg hs own d = some t) : t.Ok W := by
  rcases hdB_mem h with ⟨x, m⟩ | m | m
  · exact (s.ok _ m).2
  · exact h1.at m
  · exact h2.at m
def formB (n : Nat) : D → Bool
  | .tup [.int m, _, .tup _] => decide (m = (n : Int))
  | _ => false
theorem formB_len {n : Nat} {ds : List D} (h : formB n (.tup ds) = true) : ds.length = 3 := by
  unfold formB at h
  split at h
  · next e =>
    cases e
    rfl
  · cases h
/-! ### a signature, a dict of one -/
def Prs (H : Hp) (sg : Sg) (ps : List Addr) (kvs : List (Key × V)) : Prop := ps.length = sg.length ∧ kvs.length = sg.length ∧
  ∀ (i : Nat) (r : Str × Ty), sg[i]? = some r → ∃ p v, ps[i]? = some p ∧ kvs[i]? = some (Sum.inr r.1, v) ∧ H p = some (.tup [.str r.1, v]) ∧ Dt H r.2.d v
/-- the value is the signature -/
def SgV (H : Hp) (sg : Sg) (v : V) : Prop := ∃ a ob ps kvs, v = .ref a ∧ H a = some (.frz ob (.tup (ps.map V.ref))) ∧ ob.dict = none ∧ Prs H sg ps kvs
theorem Prs.mono {H H' : Hp} {sg : Sg} {ps : List Addr} {kvs : List (Key × V)} (h : Prs H sg ps kvs) (k : KeepT H H') : Prs H' sg ps kvs :=
  ⟨h.1, h.2.1, fun i r e => by
    obtain ⟨p, v, e1, e2, e3, e4⟩ := h.2.2 i r e
    exact ⟨p, v, e1, e2, k _ _ e3, e4.mono k⟩⟩
theorem SgV.mono {l : List Addr} {H H' : Hp} {sg : Sg} {v : V} (h : SgV H sg v) (k : Kp l H H') (n : ∀ c ∈ l, ∃ xs, H c = some (.lst xs)) : SgV H' sg v := by
  obtain ⟨a, ob, ps, kvs, e, h1, h2, h3⟩ := h
  refine ⟨a, ob, ps, kvs, e, k a _ (fun z => ?_) h1, h2, h3.mono (k.tl fun c m => ?_)⟩
  · obtain ⟨xs, e⟩ := n a z
    rw [h1] at e
    cases e
  · obtain ⟨xs, e⟩ := n c m
    exact NoT.lst e
theorem SgV.mono0 {H H' : Hp} {sg : Sg} {v : V} (h : SgV H sg v) (k : Kp [] H H') : SgV H' sg v := h.mono k fun _ z => nomatch z
theorem SgV.mono1 {H H' : Hp} {sg : Sg} {v : V} {c : Addr} {xs : List V} (h : SgV H sg v) (k : Kp [c] H H') (e : H c = some (.lst xs)) : SgV H' sg v := h.mono k fun b z => ⟨xs, by rw [List.mem_singleton.mp z]; exact e⟩
theorem Prs.paired {K : PySem.W.Frag} {H : Hp} : ∀ {sg : Sg} {ps : List Addr} {kvs : List (Key × V)}, Prs H sg ps kvs → Paired (fun p kv => SqT K H p [kV kv.1, kv.2]) ps kvs
  | [], [], [], _ => .nil
  | [], _ :: _, _, h => by cases h.1
  | [], _, _ :: _, h => by cases h.2.1
  | _ :: _, [], _, h => by cases h.1
  | _ :: _, _, [], h => by cases h.2.1
  | r :: sg, p :: ps, kv :: kvs, h => by
    refine .cons ?_ (Prs.paired (sg := sg) ⟨Nat.succ.inj h.1, Nat.succ.inj h.2.1, fun i r' e => h.2.2 (i + 1) r' (by simpa using e)⟩)
    obtain ⟨p', v, e1, e2, e3, _⟩ := h.2.2 0 r rfl
    cases e1
    cases e2
    exact SqT.of e3
theorem Prs.keys {H : Hp} : ∀ {sg : Sg} {ps : List Addr} {kvs : List (Key × V)}, Prs H sg ps kvs → kvs.map (·.1) = sg.map fun r => Sum.inr r.1
  | [], [], [], _ => rfl
  | [], _ :: _, _, h => by cases h.1
  | [], _, _ :: _, h => by cases h.2.1
  | _ :: _, [], _, h => by cases h.1
  | _ :: _, _, [], h => by cases h.2.1
  | r :: sg, p :: ps, kv :: kvs, h => by
    have ih := Prs.keys (sg := sg) (ps := ps) (kvs := kvs) ⟨Nat.succ.inj h.1, Nat.succ.inj h.2.1, fun i r' e => h.2.2 (i + 1) r' (by simpa using e)⟩
    obtain ⟨p', v, e1, e2, e3, _⟩ := h.2.2 0 r rfl
    cases e2
    rw [List.map_cons, List.map_cons, ih]
theorem Prs.get {H : Hp} : ∀ {sg : Sg} {ps : List Addr} {kvs : List (Key × V)}, Prs H sg ps kvs → ∀ x, match sgGet sg x with | none => valV kvs (.inr x) = none | some t => ∃ v, valV kvs (.inr x) = some v ∧ Dt H t.d v
  | [], [], [], _, x => rfl
  | [], _ :: _, _, h, _ => by cases h.1
  | [], _, _ :: _, h, _ => by cases h.2.1
  | _ :: _, [], _, h, _ => by cases h.1
  | _ :: _, _, [], h, _ => by cases h.2.1
  | r :: sg, p :: ps, kv :: kvs, h, x => by
    have ih := Prs.get (sg := sg) (ps := ps) (kvs := kvs) ⟨Nat.succ.inj h.1, Nat.succ.inj h.2.1, fun i r' e => h.2.2 (i + 1) r' (by simpa using e)⟩ x
    obtain ⟨p', v, e1, e2, e3, e4⟩ := h.2.2 0 r rfl
    cases e2
    by_cases z : r.1 = x
    · have e : sgGet (r :: sg) x = some r.2 := by
        unfold sgGet
        rw [List.find?_cons, decide_eq_true z]
        rfl
      rw [e]
      exact ⟨v, valV_pos (by rw [z]), e4⟩
    · have e : sgGet (r :: sg) x = sgGet sg x := by
        unfold sgGet
        rw [List.find?_cons, decide_eq_false z]
      have e2 : valV ((.inr r.1, v) :: kvs) (.inr x) = valV kvs (.inr x) := valV_neg fun q => z (Sum.inr.inj q)
      rw [e, e2]
      exact ih
/-- at p there is a dict of the signature -/
def SgD (H : Hp) (sg : Sg) (p : Addr) : Prop := ∃ kvs, H p = some (.dK kvs) ∧ ∀ x, match sgGet sg x with | none => valV kvs (.inr x) = none | some t => ∃ v, valV kvs (.inr x) = some v ∧ Dt H t.d v
theorem SgD.mono {l : List Addr} {H H' : Hp} {sg : Sg} {p : Addr} (h : SgD H sg p) (k : Kp l H H') (n : ∀ c ∈ l, ∃ xs, H c = some (.lst xs)) : SgD H' sg p := by
  obtain ⟨kvs, e, g⟩ := h
  have t : KeepT H H' := k.tl fun c m => by
    obtain ⟨xs, e⟩ := n c m
    exact NoT.lst e
  refine ⟨kvs, k p _ (fun z => ?_) e, fun x => ?_⟩
  · obtain ⟨xs, e2⟩ := n p z
    rw [e] at e2
    cases e2
  · have := g x
    cases q : sgGet sg x with
    | none => rw [q] at this; exact this
    | some r =>
      rw [q] at this
      obtain ⟨v, h1, h2⟩ := this
      exact ⟨v, h1, h2.mono t⟩
section
variable {K : PySem.W.Frag} {H : Hp} {Q : VK}
theorem r_dict {W : Nat} {sg : Sg} {v : V} (s : SgV H sg v) (ok : SgOk W sg) (few : sg.length ≤ 1000) (k : ∀ p H', Kp [] H H' → KeepT H H' → H p = none → SgD H' sg p → Q (.ref p) H') : rDictT K [v] H Q := by
  obtain ⟨a, ob, ps, kvs, rfl, h1, h2, h3⟩ := s
  refine ⟨a, ob, ps, kvs, rfl, h1, h2, h3.paired, by rw [h3.1]; omega, fun p np => ?_⟩
  have k1 : Kp [] H (upd H p (.dK (mergeK [] kvs))) := (Kp.refl _ _).up np
  refine k p _ k1 k1.t0 np ⟨_, upd_same, fun x => ?_⟩
  have nd : (kvs.map (·.1)).Nodup := by
    rw [h3.keys]
    have e : (sg.map fun r => (Sum.inr r.1 : Key)) = (sg.map (·.1)).map Sum.inr := by rw [List.map_map]; rfl
    rw [e]
    exact List.Pairwise.map _ (fun a b n z => n (Sum.inr.inj z)) ok.nd
  have e2 : valV (mergeK [] kvs) (.inr x) = valV kvs (.inr x) := by
    rw [valV_merge _ kvs [] nd, valV_nil]
    cases valV kvs (.inr x) <;> rfl
  have g := (h3.mono k1.t0).get x
  cases q : sgGet sg x with
  | none => rw [q] at g; exact e2.trans g
  | some t =>
    rw [q] at g
    obtain ⟨v, g1, g2⟩ := g
    exact ⟨v, e2.trans g1, g2⟩
end
section
variable {K : PySem.W.Frag} {σ : L2.St} {H : Hp} {N : L2.St → Hp → Prop} {t : TG} {u : TGs} {v : V} {r : List V}
/-- a tuple is taken apart -/
theorem r_gtup {n : Nat} {a : Addr} {xs : List V} (h : H a = some (.tup xs)) (l : xs.length = n) (q : u xs σ H N) : gTup K n u (.ref a) σ H N := ⟨a, xs, rfl, SqT.of h, l, q⟩
theorem r_gcons (h : t v σ H fun σ' H' => u r σ' H' N) : gCons t u (v :: r) σ H N := ⟨v, r, rfl, h⟩
theorem r_gnil (h : N σ H) : gNil [] σ H N := ⟨rfl, h⟩
theorem r_dget1 {td ty : TE} {Q : VK} (h : td σ H fun x H1 => ∃ a, x = .ref a ∧ IsD H1 a ∧ ty σ H1 fun y H2 => ∃ o, DGet H2 a y o ∧ Q (o.getD .non) H2) : tDGet1 td ty σ H Q := h
theorem r_dget2 {td ty tx : TE} {Q : VK} (h : td σ H fun x H1 => ∃ a, x = .ref a ∧ IsD H1 a ∧ ty σ H1 fun y H2 => tx σ H2 fun z H3 => ∃ o, DGet H3 a y o ∧ Q (o.getD z) H3) : tDGet2 td ty tx σ H Q := h
theorem u1 {k : Nat} {A : Around} (r : Room k A) : A.units + 1 < cLine := by
  have := r.un
  omega
theorem Dts.ix {ds : List D} {xs : List V} {i : Int} {d : D} (h : Dts H ds xs) (h0 : 0 ≤ i) (e : ds[i.toNat]? = some d) : ∃ x, atI xs i = some x ∧ Dt H d x := by
  obtain ⟨x, hx, q⟩ := h.of e
  refine ⟨x, ?_, q⟩
  have z := atI_nat hx
  rw [Int.toNat_of_nonneg h0] at z
  exact z
end
/-- a test of two parts: what is behind it once -/
theorem if_and2 {A0 A B : Prop} {b c : Bool} (step : b = true → (if c = true then A else B) → A0) (h1 : b = true → c = true → A) (h2 : (b && c) = false → B) : if b = true then A0 else (if false = true then A else B) := by
  cases b with
  | false => exact if_f rfl (if_f rfl (h2 rfl))
  | true =>
    refine if_t rfl (step rfl ?_)
    cases c with
    | true => exact if_t rfl (h1 rfl rfl)
    | false => exact if_f rfl (h2 rfl)
/-! ### what is still to be seen -/
/-- outer binders, type, term -/
abbrev Fr := List Ty × Ty × D
def frB (sg : Sg) (hs : List Ty) (f : Fr) : Bool := tmB sg hs f.1 f.2.1 f.2.2
def frsB (sg : Sg) (hs : List Ty) (fs : List Fr) : Bool := fs.all (frB sg hs)
def frZ (fs : List Fr) : Nat := (fs.map fun f => f.2.2.sz).sum
theorem frsB_app (sg : Sg) (hs : List Ty) (a b : List Fr) : frsB sg hs (a ++ b) = (frsB sg hs a && frsB sg hs b) := List.all_append
theorem frZ_app (a b : List Fr) : frZ (a ++ b) = frZ a + frZ b := by unfold frZ; rw [List.map_append, List.sum_append]
/-- a value that is such a triple -/
def FrV (W : Nat) (H : Hp) (f : Fr) (v : V) : Prop := ∃ a vo vk vt, v = .ref a ∧ H a = some (.tup [vo, vk, vt]) ∧ Dt H (.tup (tyds f.1)) vo ∧ Dt H f.2.1.d vk ∧ Dt H f.2.2 vt ∧
  TysOk W f.1 ∧ f.2.1.Ok W ∧ Wd Tx 1000000 f.2.2 ∧ f.1.length + W * f.2.2.dp ≤ 9000
def FrsV (W : Nat) (H : Hp) (fs : List Fr) (vs : List V) : Prop := vs.length = fs.length ∧ ∀ (i : Nat) (f : Fr), fs[i]? = some f → ∃ v, vs[i]? = some v ∧ FrV W H f v
theorem FrV.mono {W : Nat} {H H' : Hp} {f : Fr} {v : V} (h : FrV W H f v) (k : KeepT H H') : FrV W H' f v := by
  obtain ⟨a, vo, vk, vt, e, h1, h2, h3, h4, h5⟩ := h
  exact ⟨a, vo, vk, vt, e, k _ _ h1, h2.mono k, h3.mono k, h4.mono k, h5⟩
theorem FrsV.mono {W : Nat} {H H' : Hp} {fs : List Fr} {vs : List V} (h : FrsV W H fs vs) (k : KeepT H H') : FrsV W H' fs vs :=
  ⟨h.1, fun i f e => by
    obtain ⟨v, e1, e2⟩ := h.2 i f e
    exact ⟨v, e1, e2.mono k⟩⟩
theorem FrsV.nil {W : Nat} {H : Hp} : FrsV W H [] [] := ⟨rfl, fun i f e => by simp at e⟩
theorem FrsV.snoc {W : Nat} {H : Hp} {fs : List Fr} {vs : List V} {f : Fr} {v : V} (h : FrsV W H fs vs) (g : FrV W H f v) : FrsV W H (fs ++ [f]) (vs ++ [v]) := by
  refine ⟨by rw [List.length_append, List.length_append, h.1]; rfl, fun i f' e => ?_⟩
  rcases Nat.lt_or_ge i fs.length with lt | ge
  · rw [List.getElem?_append_left lt] at e
    obtain ⟨v', e1, e2⟩ := h.2 i f' e
    exact ⟨v', by rw [List.getElem?_append_left (by rw [h.1]; exact lt)]; exact e1, e2⟩
  · rw [List.getElem?_append_right ge] at e
    have i0 : i - fs.length = 0 := by
      have := (List.getElem?_eq_some_iff.mp e).1
      simp at this
      omega
    rw [i0] at e
    cases e
    refine ⟨v, ?_, g⟩
    rw [List.getElem?_append_right (by rw [h.1]; exact ge), h.1, i0]
    rfl
theorem FrsV.app {W : Nat} {H : Hp} {fs : List Fr} {vs : List V} (h : FrsV W H fs vs) : ∀ {gs : List Fr} {us : List V}, FrsV W H gs us → FrsV W H (fs ++ gs) (vs ++ us) := fun {gs us} g => by
  refine ⟨by rw [List.length_append, List.length_append, h.1, g.1], fun i f e => ?_⟩
  rcases Nat.lt_or_ge i fs.length with lt | ge
  · rw [List.getElem?_append_left lt] at e
    obtain ⟨v', e1, e2⟩ := h.2 i f e
    exact ⟨v', by rw [List.getElem?_append_left (by rw [h.1]; exact lt)]; exact e1, e2⟩
  · rw [List.getElem?_append_right ge] at e
    obtain ⟨v', e1, e2⟩ := g.2 _ f e
    exact ⟨v', by rw [List.getElem?_append_right (by rw [h.1]; exact ge), h.1]; exact e1, e2⟩
theorem FrsV.last {W : Nat} {H : Hp} {fs : List Fr} {vs : List V} (h : FrsV W H fs vs) (n : vs ≠ []) : ∃ gs f us v, fs = gs ++ [f] ∧ vs = us ++ [v] ∧ FrsV W H gs us ∧ FrV W H f v := by
  have nf : fs ≠ [] := fun z => by
    have := h.1
    rw [z] at this
    exact n (List.eq_nil_of_length_eq_zero this)
  obtain ⟨gs, f, rfl⟩ : ∃ gs f, fs = gs ++ [f] := ⟨fs.dropLast, fs.getLast nf, (List.dropLast_concat_getLast nf).symm⟩
  obtain ⟨us, v, rfl⟩ : ∃ us v, vs = us ++ [v] := ⟨vs.dropLast, vs.getLast n, (List.dropLast_concat_getLast n).symm⟩
  have hl : us.length = gs.length := by
    have := h.1
    rw [List.length_append, List.length_append] at this
    exact Nat.add_right_cancel this
  refine ⟨gs, f, us, v, rfl, rfl, ⟨hl, fun i f' e => ?_⟩, ?_⟩
  · have lt : i < gs.length := (List.getElem?_eq_some_iff.mp e).1
    obtain ⟨v', e1, e2⟩ := h.2 i f' (by rw [List.getElem?_append_left lt]; exact e)
    rw [List.getElem?_append_left (by rw [hl]; exact lt)] at e1
    exact ⟨v', e1, e2⟩
  · obtain ⟨v', e1, e2⟩ := h.2 gs.length f (by rw [List.getElem?_append_right (Nat.le_refl _), Nat.sub_self]; rfl)
    rw [← hl, List.getElem?_append_right (Nat.le_refl _), Nat.sub_self] at e1
    cases e1
    exact e2
/-- the parts with their types -/
def kids (own : List Ty) (ts : List Ty) (ps : List D) : List Fr := (ts.zip ps).map fun x => (own, x.1, x.2)
theorem kids_len {own ts : List Ty} {ps : List D} (h : ts.length = ps.length) : (kids own ts ps).length = ps.length := by
  unfold kids
  rw [List.length_map, List.length_zip, h, Nat.min_self]
theorem kids_B {sg : Sg} {hs own : List Ty} : ∀ {ts : List Ty} {ps : List D}, ts.length = ps.length → frsB sg hs (kids own ts ps) = tmsB sg hs own ts ps
  | [], [], _ => by rw [tmsB]; rfl
  | t :: ts, p :: ps, h => by
    rw [tmsB]
    show (frB sg hs (own, t, p) && frsB sg hs (kids own ts ps)) = _
    rw [kids_B (Nat.succ.inj h)]
    rfl
theorem kids_Z {own : List Ty} : ∀ {ts : List Ty} {ps : List D}, ts.length = ps.length → frZ (kids own ts ps) = szs ps
  | [], [], _ => rfl
  | t :: ts, p :: ps, h => by
    show p.sz + frZ (kids own ts ps) = _
    rw [kids_Z (Nat.succ.inj h), szs]
theorem kids_at {own ts : List Ty} {ps : List D} {i : Nat} {t : Ty} {p : D} (h1 : ts[i]? = some t) (h2 : ps[i]? = some p) : (kids own ts ps)[i]? = some (own, t, p) := by
  unfold kids
  rw [List.getElem?_map, show (ts.zip ps)[i]? = some (t, p) from List.getElem?_zip_eq_some.mpr ⟨h1, h2⟩]
  rfl
theorem formB_of {n : Nat} {d : D} (h : formB n d = true) : ∃ x ps, d = .tup [.int (n : Nat), x, .tup ps] := by
  unfold formB at h
  split at h
  · next m x ps =>
    exact ⟨x, ps, by rw [of_decide_eq_true h]⟩
  · cases h
theorem tmB_form {sg : Sg} {hs own : List Ty} {k : Ty} {d : D} (h : formB k.as.length d = false) : tmB sg hs own k d = false := by
  unfold tmB
  split
  · next n x ps =>
    have e : formB k.as.length (.tup [.int n, x, .tup ps]) = decide (n = (k.as.length : Int)) := rfl
    rw [e] at h
    rw [h]
    rfl
  · rfl
theorem tmB_eq {sg : Sg} {hs own : List Ty} {k : Ty} {x : D} {ps : List D} : tmB sg hs own k (.tup [.int (k.as.length : Nat), x, .tup ps]) = match hdB sg hs (own ++ k.as) x with
    | none => false
    | some t => decide (t.s = k.s) && decide (t.as.length = ps.length) && tmsB sg hs (own ++ k.as) t.as ps := by
  rw [tmB, decide_eq_true rfl, Bool.true_and]
theorem lst1 {H : Hp} {c : Addr} {xs : List V} (e : H c = some (.lst xs)) : ∀ b ∈ [c], ∃ xs, H b = some (.lst xs) := fun b z => by
  cases List.mem_singleton.mp z
  exact ⟨xs, e⟩
theorem frZ_len (fs : List Fr) : fs.length ≤ frZ fs := by
  induction fs with
  | nil => exact Nat.le_refl _
  | cons f fs ih =>
    have := f.2.2.sz_pos
    have e : frZ (f :: fs) = f.2.2.sz + frZ fs := rfl
    rw [e, List.length_cons]
    omega
theorem Prs.nil {H : Hp} : Prs H [] [] [] := ⟨rfl, rfl, fun i r e => by simp at e⟩
theorem Prs.snoc {H : Hp} {sg : Sg} {ps : List Addr} {kvs : List (Key × V)} {p : Addr} {n : Str} {t : Ty} {v : V} (h : Prs H sg ps kvs) (e : H p = some (.tup [.str n, v])) (d : Dt H t.d v) : Prs H (sg ++ [(n, t)]) (ps ++ [p]) (kvs ++ [(Sum.inr n, v)]) := by
  refine ⟨by rw [List.length_append, List.length_append, h.1]; rfl, by rw [List.length_append, List.length_append, h.2.1]; rfl, fun i r q => ?_⟩
  rcases Nat.lt_or_ge i sg.length with lt | ge
  · rw [List.getElem?_append_left lt] at q
    obtain ⟨p', v', e1, e2, e3⟩ := h.2.2 i r q
    exact ⟨p', v', by rw [List.getElem?_append_left (by rw [h.1]; exact lt)]; exact e1, by rw [List.getElem?_append_left (by rw [h.2.1]; exact lt)]; exact e2, e3⟩
  · rw [List.getElem?_append_right ge] at q
    have i0 : i - sg.length = 0 := by
      have := (List.getElem?_eq_some_iff.mp q).1
      simp at this
      omega
    rw [i0] at q
    cases q
    refine ⟨p, v, ?_, ?_, e, d⟩
    · rw [List.getElem?_append_right (by rw [h.1]; exact ge), h.1, i0]
      rfl
    · rw [List.getElem?_append_right (by rw [h.2.1]; exact ge), h.2.1, i0]
      rfl
def rowD (r : Str × Ty) : D := .tup [.str r.1, r.2.d]
theorem str_app_inj {a x y : Str} (h : a ++ x = a ++ y) : x = y := by
  have e : a.cps.toList ++ x.cps.toList = a.cps.toList ++ y.cps.toList := by
    have z := congrArg (fun s : Str => s.cps.toList) h
    have e1 : (a ++ x).cps.toList = a.cps.toList ++ x.cps.toList := Array.toList_append
    have e2 : (a ++ y).cps.toList = a.cps.toList ++ y.cps.toList := Array.toList_append
    rw [← e1, ← e2]
    exact z
  have e3 := List.append_cancel_left e
  cases x
  cases y
  exact congrArg Str.mk (Array.toList_inj.mp e3)
theorem tx_app {a x : Str} (h1 : Tx a) (h2 : Tx x) : Tx (a ++ x) := by
  have e1 : (a ++ x).cps = a.cps ++ x.cps := rfl
  unfold Tx PyData.strOk at *
  rw [e1, Array.all_append, h1, h2]
  rfl
/-- a test of two parts, one of which is enough -/
theorem if_or2 {A0 A B : Prop} {b c : Bool} (step : b = false → (if c = true then A else B) → A0) (h1 : A) (h2 : b = false → c = false → B) : if b = true then (if true = true then A else B) else A0 := by
  cases b with
  | true => exact if_t rfl (if_t rfl h1)
  | false =>
    refine if_f rfl (step rfl ?_)
    cases c with
    | true => exact if_t rfl h1
    | false => exact if_f rfl (h2 rfl rfl)
theorem hdB_all {p : Ty → Prop} {sg : Sg} {hs own : List Ty} {d : D} {t : Ty} (s : ∀ r ∈ sg, p r.2) (h1 : ∀ t ∈ hs, p t) (h2 : ∀ t ∈ own, p t) (h : hdB sg hs own d = some t) : p t := by
  rcases hdB_mem h with ⟨x, m⟩ | m | m
  · exact s _ m
  · exact h1 t m
  · exact h2 t m
theorem eq_nil_of {as : List Ty} (h : eqD (.tup (tyds as)) (.tup []) = true) : as = [] := by
  cases as with
  | nil => rfl
  | cons t ts =>
    rw [eqD_tup, tyds, eqDs_nilR] at h
    cases h
theorem eq_nil_to : eqD (.tup (tyds [])) (.tup []) = true := by rw [eqD_tup, tyds, eqDs_nil]
theorem kids_snoc {own : List Ty} {ts : List Ty} {ds : List D} {t : Ty} {d : D} (h : ts.length = ds.length) : kids own (ts ++ [t]) (ds ++ [d]) = kids own ts ds ++ [(own, t, d)] := by
  unfold kids
  rw [List.zip_append h, List.map_append]
  rfl
/-! ### long forms -/
abbrev hb (i : Int) : D := .tup [.str "b", .int i]
abbrev hd2 (s : Str) (i : Int) : D := .tup [.str s, .int i]
def raiseH (s : Str) (i n : Int) : D := if s = "b" then hd2 "b" (i + n) else hd2 s i
mutual
def longD (s : Str) (i : Int) : Ty → D
  | .mk as _ => .tup [.int as.length, raiseH s i as.length, .tup (longs as.length 0 as)]
def longs (n j : Nat) : List Ty → List D
  | [] => []
  | t :: ts => longD "b" ((n : Int) - 1 - j) t :: longs n (j + 1) ts
end
theorem longs_len (n : Nat) : ∀ (ts : List Ty) (j : Nat), (longs n j ts).length = ts.length
  | [], _ => rfl
  | t :: ts, j => by rw [longs, List.length_cons, List.length_cons, longs_len n ts]
theorem longs_at (n : Nat) : ∀ (ts : List Ty) (j i : Nat) (t : Ty), ts[i]? = some t → (longs n j ts)[i]? = some (longD "b" ((n : Int) - 1 - (j + i : Nat)) t)
  | [], _, _, _, h => by simp at h
  | u :: ts, j, 0, t, h => by
    have e : u = t := by simpa using h
    subst e
    rw [longs]
    rfl
  | u :: ts, j, i + 1, t, h => by
    rw [longs, List.getElem?_cons_succ, longs_at n ts (j + 1) i t (by simpa using h), show j + 1 + i = j + (i + 1) by omega]
theorem longD_eq (s : Str) (i : Int) (t : Ty) : longD s i t = .tup [.int t.as.length, raiseH s i t.as.length, .tup (longs t.as.length 0 t.as)] := by
  cases t
  rw [longD]
  rfl
theorem ty_dp (t : Ty) : t.d.dp = 1 + max (1 + dps (tyds t.as)) 1 := by
  rw [Ty.d_eq]
  rfl
theorem ty_dp_mem {t u : Ty} (h : u ∈ t.as) : u.d.dp < t.d.dp := by
  have m := dps_mem (show u.d ∈ tyds t.as by rw [tyds_map]; exact List.mem_map.mpr ⟨u, h, rfl⟩)
  rw [ty_dp t]
  omega
end Lc
end

section
/-! The program's defs: heads, terms. -/
namespace K02
open PySem L2 PyProof.Rows PySem.Spec Lc
variable [Lc.Tbs]
local macro_rules | `(tactic| walk_at "rd") => `(tactic| repeat (first
  | with_reducible refine r_seq ?_ | with_reducible refine r_mknx ?_ | with_reducible refine r_mkrt ?_ | with_reducible refine r_asg ?_ | with_reducible refine r_name ?_ | with_reducible refine r_next ?_
  | with_reducible refine r_drop ?_ | with_reducible refine r_ret ?_ | with_reducible refine r_if ?_
  | ((with_reducible refine' r_var ?e ?_); (case e => rfl)) | with_reducible refine r_c ?_ | with_reducible refine r_op ?_ | with_reducible refine r_un ?_ | with_reducible refine r_test ?_ | with_reducible refine r_tb ?_
  | with_reducible refine r_and ?_ | with_reducible refine r_or ?_ | with_reducible refine r_not ?_ | with_reducible refine r_andV ?_ | with_reducible refine r_orV ?_ | with_reducible refine r_notV ?_ | with_reducible refine r_bl ?_
  | with_reducible refine r_cb ?_ | with_reducible refine r_cons ?_ | with_reducible refine r_nil ?_ | with_reducible refine r_tup ?_ | with_reducible refine r_lst ?_ | with_reducible refine r_call ?_
  | with_reducible refine r_i0 ?_ | with_reducible refine r_par ?_ | with_reducible refine r_two ?_ | with_reducible refine r_lc ?_ | with_reducible refine r_iL ?_ | with_reducible refine r_iT ?_ | with_reducible refine r_iS ?_ | with_reducible refine r_i1 ?_ | with_reducible refine r_yes ?_ | with_reducible refine r_chain ?_ | with_reducible refine if_t rfl ?_ | with_reducible refine if_f rfl ?_ | with_reducible refine r_nt ?_ | ((with_reducible refine r_eq ?e ?_); (case e => rfl)) | ((with_reducible refine r_ne ?e ?_); (case e => rfl))
  | with_reducible refine r_sub ?_ | with_reducible refine r_sl ?_ | with_reducible refine r_nopart ?_ | with_reducible refine r_part ?_ | with_reducible refine r_int ?_ | with_reducible refine r_bm ?_ | with_reducible refine r_bm0 ?_ | with_reducible refine r_gcons ?_ | with_reducible refine r_gnil ?_ | with_reducible refine r_dget1 ?_ | with_reducible refine r_dget2 ?_))


local macro_rules | `(tactic| walk_at "dt") => `(tactic| repeat' (first | (show Dt _ _ _; assumption) | exact dt_str | exact dt_int | exact dt_bl | exact dt_non | exact Dts.nil | refine' Dts.cons ?_ ?_ | (refine' Dt.mono ?kk ?_; (case kk => assumption)) | fail))
local macro_rules | `(tactic| walk_at "at") => `(tactic| repeat (first | assumption | (refine' Kp.ge ?kk ?nn ?_; (case kk => assumption); (case nn => intro _ z; cases z)) | fail))
local macro_rules | `(tactic| walk_at "kp") => `(tactic| repeat (first | assumption | exact Kp.refl _ _ | (refine' Kp.trans ?_ ?kk; (case kk => assumption)) | fail))
local macro_rules | `(tactic| walk_at "tup") => `(tactic| (refine' r_tupN ?h ?f ?k; (case h => walk_at "dt"); (case f => simp); skip))
def top (i : Nat) : Stmt := PySem.Challenge.pw_lacuna_k02_what_is_a_term.main.body.getD i (.Pass ⟨0, 0, 0, 0⟩)
/-- no name at the module's top hides a built-in -/
structure Txt (mg : Str → Option Value) : Prop where
  z_type : mg "type" = none
  z_str : mg "str" = none
  z_len : mg "len" = none
  z_all : mg "all" = none
  z_tuple : mg "tuple" = none
  z_list : mg "list" = none
  z_dict : mg "dict" = none
  z_set : mg "set" = none
  z_int : mg "int" = none
  z_max : mg "max" = none
  z_sum : mg "sum" = none
  z_range : mg "range" = none
  z_reversed : mg "reversed" = none
  z_isinstance : mg "isinstance" = none
  z_bool : mg "bool" = none
  z_sorted : mg "sorted" = none
  z_enumerate : mg "enumerate" = none
def pairD : D → Bool
  | .tup xs => decide (xs.length = 2)
  | _ => false
def spPair : Sp := fun vs H Q _ => ∃ v d, vs = [v] ∧ Dt H d v ∧ ∀ H', Kp [] H H' → Q (.bl (pairD d)) H'
def idxD : D → Bool
  | .int i => decide (0 ≤ i)
  | _ => false
def spIndex : Sp := fun vs H Q _ => ∃ v d, vs = [v] ∧ Dt H d v ∧ ∀ H', Kp [] H H' → Q (.bl (idxD d)) H'
def spHeadKind : Sp := fun vs H Q _ => ∃ p hv ov v sg hs own d W, vs = [.ref p, hv, ov, v] ∧ SgD H sg p ∧ Dt H (.tup (tyds hs)) hv ∧ Dt H (.tup (tyds own)) ov ∧ Dt H d v ∧ Wd Tx W d ∧
  ∀ r H', Kp [] H H' → (match hdB sg hs own d with | none => r = .non | some t => Dt H' t.d r) → Q r H'
def spForm : Sp := fun vs H Q _ => ∃ v d n, vs = [v, .int (n : Nat)] ∧ Dt H d v ∧ ∀ H', Kp [] H H' → Q (.bl (formB n d)) H'
abbrev s_is_pair : Stmt := top 1
abbrev N_is_pair : List Str := ["value"]
theorem sc_is_pair : FnScope N_is_pair ["value"] (defScope s_is_pair) := ⟨rfl, rfl, rfl, by decide +kernel, rfl, by decide +kernel, by decide +kernel⟩
abbrev s_is_index : Stmt := top 2
abbrev N_is_index : List Str := ["value"]
theorem sc_is_index : FnScope N_is_index ["value"] (defScope s_is_index) := ⟨rfl, rfl, rfl, by decide +kernel, rfl, by decide +kernel, by decide +kernel⟩
abbrev s_head_kind : Stmt := top 3
abbrev N_head_kind : List Str := ["constants", "holes", "binders", "head", "sign", "mark"]
theorem sc_head_kind : FnScope N_head_kind ["constants", "holes", "binders", "head"] (defScope s_head_kind) := ⟨rfl, rfl, rfl, by decide +kernel, rfl, by decide +kernel, by decide +kernel⟩
abbrev s_has_term_form : Stmt := top 4
abbrev N_has_term_form : List Str := ["value", "n"]
theorem sc_has_term_form : FnScope N_has_term_form ["value", "n"] (defScope s_has_term_form) := ⟨rfl, rfl, rfl, by decide +kernel, rfl, by decide +kernel, by decide +kernel⟩
section
variable {P : Program} {w : World} {K : PySem.W.Frag} {mg : Str → Option Value} {base : Heap}
theorem ok_is_pair (F : Df K mg "is_pair" s_is_pair ["value"]) (T : Txt mg) : Cal P w K mg base "is_pair" ["value"] 1 spPair := by
  refine F.ok sc_is_pair (fun vs H Q E h => ?_) (fun f cdv A outer s H vs Q E hr h => ?_)
  · obtain ⟨v, d, rfl, _⟩ := h
    rfl
  obtain ⟨v, d, rfl, hd, q⟩ := h
  refine ⟨_, (pss_one (ps_ret (pe_and (pe_cmpR op_isTyB (pe_callTy call_type1 (by rfl) T.z_type (by decide +kernel) (pa_cons (pv 0) pa_nil)) (pe_bty (T := "tuple") (by rfl) T.z_tuple (by decide +kernel)) (nomark _)) (pe_one (pe_cmpR op_eq (pe_callB call_len_seq (by rfl) T.z_len (by decide +kernel) (pa_cons (pv 0) pa_nil)) pe_int (nomark _)))))), ?_⟩
  walk_at "rd"
  refine r_ty hd ?_
  walk_at "rd"
  refine ⟨_, _, rfl, rfl, ?_⟩
  walk_at "rd"
  rw [ty_tup]
  refine if_2 (fun c => ?_) (fun c => ?_)
  · obtain ⟨ds, rfl⟩ := D.tup_of c
    obtain ⟨a, xs, rfl, ha, hs⟩ := hd.tup
    walk_at "rd"
    refine ⟨a, xs, rfl, .inr (SqT.of ha), ?_⟩
    walk_at "rd"
    have e : pairD (.tup ds) = decide (V.int (xs.length : Int) = V.int 2) := by
      rw [hs.len]
      show decide _ = _
      congr 1
      refine propext ⟨fun z => by rw [z]; rfl, fun z => ?_⟩
      have := V.int.inj z
      omega
    exact e ▸ q H (Kp.refl _ _)
  · walk_at "rd"
    have e : pairD d = false := by cases d <;> first | rfl | cases c
    exact e ▸ q H (Kp.refl _ _)
theorem ok_is_index (F : Df K mg "is_index" s_is_index ["value"]) (T : Txt mg) : Cal P w K mg base "is_index" ["value"] 1 spIndex := by
  refine F.ok sc_is_index (fun vs H Q E h => ?_) (fun f cdv A outer s H vs Q E hr h => ?_)
  · obtain ⟨v, d, rfl, _⟩ := h
    rfl
  obtain ⟨v, d, rfl, hd, q⟩ := h
  refine ⟨_, (pss_one (ps_ret (pe_and (pe_cmpR op_isTyB (pe_callTy call_type1 (by rfl) T.z_type (by decide +kernel) (pa_cons (pv 0) pa_nil)) (pe_bty (T := "int") (by rfl) T.z_int (by decide +kernel)) (nomark _)) (pe_one (pe_cmpR op_ge (pv 0) pe_int (nomark _)))))), ?_⟩
  walk_at "rd"
  refine r_ty hd ?_
  walk_at "rd"
  refine ⟨_, _, rfl, rfl, ?_⟩
  walk_at "rd"
  rw [ty_int]
  refine if_2 (fun c => ?_) (fun c => ?_)
  · obtain ⟨i, rfl⟩ : ∃ i, d = .int i := by cases d <;> first | exact ⟨_, rfl⟩ | cases c
    cases hd.int
    walk_at "rd"
    exact q H (Kp.refl _ _)
  · walk_at "rd"
    have e : idxD d = false := by cases d <;> first | rfl | cases c
    exact e ▸ q H (Kp.refl _ _)
theorem ok_head_kind (F : Df K mg "head_kind" s_head_kind ["constants", "holes", "binders", "head"]) (T : Txt mg) (C_is_pair : Cal P w K mg base "is_pair" ["value"] 1 spPair) (C_is_index : Cal P w K mg base "is_index" ["value"] 1 spIndex) :
    Cal P w K mg base "head_kind" ["constants", "holes", "binders", "head"] 2 spHeadKind := by
  refine F.ok sc_head_kind (fun vs H Q E h => ?_) (fun f cdv A outer s H vs Q E hr h => ?_)
  · obtain ⟨p, hv, ov, v, sg, hs, own, d, W, rfl, _⟩ := h
    rfl
  obtain ⟨p, hv, ov, v, sg, hs, own, d, W, rfl, hp, hh, ho, hd, hw, q⟩ := h
  refine ⟨_, (pss_cons (ps_if (pt_not (pt_val (pe_cal C_is_pair hr rfl (pa_cons (pv 3) pa_nil)))) (pss_one (ps_ret pe_non)) pss_nil)
      (pss_cons (ps_asg (pv 3) (pg_tup (by rfl) (pgs_cons (pg_name (i := 4) sc_head_kind.nd rfl (.inl rfl)) (pgs_cons (pg_name (i := 5) sc_head_kind.nd rfl (.inl rfl)) pgs_nil))))
      (pss_cons (ps_if (PW.pt (pw_and (pt_cmpR (op_eqA (n := 150) (u150 hr)) (pv 4) pe_str (nomark _)) (pw_and1 (pt_cmpR op_isTyB (pe_callTy call_type1 (by rfl) T.z_type (by decide +kernel) (pa_cons (pv 5) pa_nil)) (pe_bty (T := "str") (by rfl) T.z_str (by decide +kernel)) (nomark _))))) (pss_one (ps_ret (pe_dget1 (u1 hr) (pv 0) (pv 5) ⟨rfl, rfl, rfl, rfl⟩))) pss_nil)
      (pss_cons (ps_if (pt_not (pt_val (pe_cal C_is_index hr rfl (pa_cons (pv 5) pa_nil)))) (pss_one (ps_ret pe_non)) pss_nil)
      (pss_cons (ps_if (PW.pt (pw_and (pt_cmpR (op_eqA (n := 150) (u150 hr)) (pv 4) pe_str (nomark _)) (pw_and1 (pt_cmpR op_lt (pv 5) (pe_callB call_len_seq (by rfl) T.z_len (by decide +kernel) (pa_cons (pv 2) pa_nil)) (nomark _))))) (pss_one (ps_ret (pe_ix ix_tup (pv 2) (pe_op op_sub (pe_op op_sub (pe_callB call_len_seq (by rfl) T.z_len (by decide +kernel) (pa_cons (pv 2) pa_nil)) pe_int) (pv 5)) (fun _ _ => rfl)))) pss_nil)
      (pss_cons (ps_if (PW.pt (pw_and (pt_cmpR (op_eqA (n := 150) (u150 hr)) (pv 4) pe_str (nomark _)) (pw_and1 (pt_cmpR op_lt (pv 5) (pe_callB call_len_seq (by rfl) T.z_len (by decide +kernel) (pa_cons (pv 1) pa_nil)) (nomark _))))) (pss_one (ps_ret (pe_ix ix_tup (pv 1) (pv 5) (fun _ _ => rfl)))) pss_nil)
      (pss_one (ps_ret pe_non)))))))), ?_⟩
  walk_at "rd"
  refine ⟨v, d, rfl, hd, fun H1 k1 => ?_⟩
  walk_at "rd"
  refine if_2 (fun c => ?_) (fun c => ?_)
  · walk_at "rd"
    have e : hdB sg hs own d = none := by
      unfold hdB
      split
      · cases c
      · rfl
    exact q _ H1 k1 (by rw [e])
  obtain ⟨s, m, rfl⟩ : ∃ x y, d = .tup [x, y] := by
    have c' : pairD d = true := by simpa using c
    match d, c' with
    | .tup [x, y], _ => exact ⟨x, y, rfl⟩
  replace hp := hp.mono k1 (fun _ z => nomatch z)
  replace hh := hh.mono k1.t0
  replace ho := ho.mono k1.t0
  replace hd := hd.mono k1.t0
  have q2 : ∀ r H2, Kp [] H1 H2 → (match hkB sg hs own s m with | none => r = .non | some t => Dt H2 t.d r) → Q r H2 := fun r H2 k2 z => q r H2 (k1.trans k2) z
  replace q : ∀ r, (match hkB sg hs own s m with | none => r = .non | some t => Dt H1 t.d r) → Q r H1 := fun r z => q2 r H1 (Kp.refl _ _) z
  obtain ⟨a, xs, rfl, ha, hsm⟩ := hd.tup
  obtain ⟨vs, r1, rfl, hvs, vm, r2, rfl, hm, rfl⟩ := hsm
  obtain ⟨ah, hx, rfl, hah, hhs⟩ := hh.tup
  obtain ⟨ao, ox, rfl, hao, hos⟩ := ho.tup
  have lh : hx.length = hs.length := by rw [hhs.len, tyds_len]
  have lo : ox.length = own.length := by rw [hos.len, tyds_len]
  have ws : Wd Tx W s := hw.2.1
  walk_at "rd"
  refine r_gtup ha rfl ?_
  walk_at "rd"
  refine ⟨s, .str "c", W, hvs, rfl, ws, (by decide +kernel : Tx "c"), Nat.le_trans (Nat.min_le_right _ _) (by decide), ?_⟩
  walk_at "rd"
  refine if_and2 (c := m.isS) (fun c1 z => ?_) (fun c1 c2 => ?_) (fun c1 => ?_)
  · walk_at "rd"
    refine r_ty hm ?_
    walk_at "rd"
    refine ⟨_, _, rfl, rfl, ?_⟩
    walk_at "rd"
    rw [ty_str]
    exact z
  · obtain ⟨x, rfl⟩ := D.str_of c2
    cases hm.str
    walk_at "rd"
    obtain ⟨kvs, hkv, hget⟩ := hp
    refine ⟨p, rfl, .inl ⟨kvs, Rd.of hkv⟩, ?_⟩
    walk_at "rd"
    refine ⟨valV kvs (.inr x), DGet.k (k := .inr x) hkv, q _ ?_⟩
    have e : hkB sg hs own s (.str x) = sgGet sg x := by
      unfold hkB
      rw [c1]
      rfl
    rw [e]
    have g := hget x
    cases z : sgGet sg x with
    | none => rw [z] at g; rw [g]; rfl
    | some t =>
      rw [z] at g
      obtain ⟨v, g1, g2⟩ := g
      rw [g1]
      exact g2
  have e1 : hkB sg hs own s m = hkM hs own s m := by
    unfold hkB
    rw [if_neg (by rw [c1]; decide)]
  walk_at "rd"
  refine ⟨vm, m, rfl, hm, fun H2 k2 => ?_⟩
  walk_at "rd"
  refine if_2 (fun c2 => ?_) (fun c2 => ?_)
  · walk_at "rd"
    have e : hkB sg hs own s m = none := by
      rw [e1]
      cases m with
      | int i => 
        have c3 : idxD (.int i) = false := by simpa using c2
        have := of_decide_eq_false c3
        rw [hkM_int, if_pos (by omega)]
      | _ => rfl
    exact q2 _ H2 k2 (by rw [e])
  obtain ⟨i, rfl⟩ : ∃ i, m = .int i := by cases m <;> first | exact ⟨_, rfl⟩ | cases c2
  cases hm.int
  have i0 : 0 ≤ i := by
    have c3 : idxD (.int i) = true := by simpa using c2
    exact of_decide_eq_true c3
  rw [hkM_int, if_neg (by omega)] at e1
  unfold hkI at e1
  replace hhs := hhs.mono k2.t0
  replace hos := hos.mono k2.t0
  replace hah := k2.get hah
  replace hao := k2.get hao
  replace hvs := hvs.mono k2.t0
  walk_at "rd"
  refine ⟨s, .str "b", W, hvs, rfl, ws, (by decide +kernel : Tx "b"), Nat.le_trans (Nat.min_le_right _ _) (by decide), ?_⟩
  walk_at "rd"
  refine if_and2 (c := decide (i < own.length)) (fun c3 z => ?_) (fun c3 c4 => ?_) (fun c3 => ?_)
  · walk_at "rd"
    refine ⟨ao, ox, rfl, .inr (SqT.of hao), ?_⟩
    walk_at "rd"
    rw [lo]
    exact z
  · walk_at "rd"
    refine ⟨ao, ox, rfl, .inr (SqT.of hao), ?_⟩
    walk_at "rd"
    have il := of_decide_eq_true c4
    rw [c3, c4] at e1
    have e2 : hkB sg hs own s (.int i) = own[own.length - 1 - i.toNat]? := e1
    have lt : own.length - 1 - i.toNat < own.length := by omega
    rw [List.getElem?_eq_getElem lt] at e2
    obtain ⟨x, hx, hd⟩ := hos.of (tyds_at (List.getElem?_eq_getElem lt))
    have z := atI_nat hx
    have iz : ((own.length - 1 - i.toNat : Nat) : Int) = (ox.length : Int) - 1 - i := by omega
    rw [iz] at z
    refine r_ixT hao z (q2 _ H2 k2 ?_)
    rw [e2]
    exact hd
  rw [c3] at e1
  replace e1 : hkB sg hs own s (.int i) = if (eqD s (.str "h") && decide (i < hs.length)) = true then hs[i.toNat]? else none := e1
  walk_at "rd"
  refine ⟨s, .str "h", W, hvs, rfl, ws, (by decide +kernel : Tx "h"), Nat.le_trans (Nat.min_le_right _ _) (by decide), ?_⟩
  walk_at "rd"
  refine if_and2 (c := decide (i < hs.length)) (fun c4 z => ?_) (fun c4 c5 => ?_) (fun c4 => ?_)
  · walk_at "rd"
    refine ⟨ah, hx, rfl, .inr (SqT.of hah), ?_⟩
    walk_at "rd"
    rw [lh]
    exact z
  · walk_at "rd"
    have il := of_decide_eq_true c5
    rw [c4, c5] at e1
    have e2 : hkB sg hs own s (.int i) = hs[i.toNat]? := e1
    have lt : i.toNat < hs.length := by omega
    rw [List.getElem?_eq_getElem lt] at e2
    obtain ⟨x, hx, hd⟩ := hhs.ix i0 (tyds_at (List.getElem?_eq_getElem lt))
    refine r_ixT hah hx (q2 _ H2 k2 ?_)
    rw [e2]
    exact hd
  · walk_at "rd"
    rw [c4] at e1
    exact q2 _ H2 k2 (by rw [e1]; rfl)
theorem ok_form (F : Df K mg "has_term_form" s_has_term_form ["value", "n"]) (T : Txt mg) (C_is_index : Cal P w K mg base "is_index" ["value"] 1 spIndex) :
    Cal P w K mg base "has_term_form" ["value", "n"] 2 spForm := by
  refine F.ok sc_has_term_form (fun vs H Q E h => ?_) (fun f cdv A outer s H vs Q E hr h => ?_)
  · obtain ⟨v, d, n, rfl, _⟩ := h
    rfl
  obtain ⟨v, d, n, rfl, hd, q⟩ := h
  refine ⟨_, (pss_cons (ps_if (PW.pt (pw_or (pt_cmpR op_notTyB (pe_callTy call_type1 (by rfl) T.z_type (by decide +kernel) (pa_cons (pv 0) pa_nil)) (pe_bty (T := "tuple") (by rfl) T.z_tuple (by decide +kernel)) (nomark _)) (pw_or1 (pt_cmpR op_ne (pe_callB call_len_seq (by rfl) T.z_len (by decide +kernel) (pa_cons (pv 0) pa_nil)) pe_int (nomark _))))) (pss_one (ps_ret pe_bl)) pss_nil)
      (pss_one (ps_ret (pe_and (pe_cal C_is_index hr rfl (pa_cons (pe_ix ix_tup (pv 0) pe_int (fun _ _ => rfl)) pa_nil)) (pe_and (pe_cmpR op_eq (pe_ix ix_tup (pv 0) pe_int (fun _ _ => rfl)) (pv 1) (nomark _)) (pe_one (pe_cmpR op_isTyB (pe_callTy call_type1 (by rfl) T.z_type (by decide +kernel) (pa_cons (pe_ix ix_tup (pv 0) pe_int (fun _ _ => rfl)) pa_nil)) (pe_bty (T := "tuple") (by rfl) T.z_tuple (by decide +kernel)) (nomark _)))))))), ?_⟩
  walk_at "rd"
  refine r_ty hd ?_
  walk_at "rd"
  rw [ty_tup]
  refine if_2 (fun c => ?_) (fun c => ?_)
  · walk_at "rd"
    have e : formB n d = false := by cases d <;> first | rfl | cases c
    exact e ▸ q H (Kp.refl _ _)
  obtain ⟨ds, rfl⟩ := D.tup_of (by simpa using c)
  obtain ⟨a, xs, rfl, ha, hs⟩ := hd.tup
  walk_at "rd"
  refine ⟨a, xs, rfl, .inr (SqT.of ha), ?_⟩
  walk_at "rd"
  refine if_2 (fun c2 => ?_) (fun c2 => ?_)
  · walk_at "rd"
    have e : formB n (.tup ds) = false := by
      cases z : formB n (.tup ds) with
      | false => rfl
      | true =>
        have l := formB_len z
        rw [hs.len, l] at c2
        cases c2
    exact e ▸ q H (Kp.refl _ _)
  obtain ⟨d1, d2, d3, rfl⟩ : ∃ d1 d2 d3, ds = [d1, d2, d3] := by
    have c' : (xs.length : Int) = 3 := by simpa using c2
    rw [hs.len] at c'
    match ds, c' with
    | [x, y, z], _ => exact ⟨x, y, z, rfl⟩
    | [], l => simp at l
    | [_], l => simp at l
    | [_, _], l => simp at l
    | _ :: _ :: _ :: _ :: _, l => simp at l; omega
  obtain ⟨v1, r1, rfl, h1, v2, r2, rfl, h2, v3, r3, rfl, h3, rfl⟩ := hs
  walk_at "rd"
  refine r_ixT ha rfl ?_
  walk_at "rd"
  refine ⟨v1, d1, rfl, h1, fun H1 k1 => ?_⟩
  walk_at "rd"
  have ha1 := k1.get ha
  refine if_2 (fun c1 => ?_) (fun c1 => ?_)
  · obtain ⟨i, rfl⟩ : ∃ i, d1 = .int i := by cases d1 <;> first | exact ⟨_, rfl⟩ | cases c1
    cases h1.int
    try clear c2
    walk_at "rd"
    refine r_ixT ha1 rfl ?_
    walk_at "rd"
    refine if_2 (fun c2 => ?_) (fun c2 => ?_)
    · walk_at "rd"
      refine r_ixT ha1 rfl ?_
      walk_at "rd"
      refine r_ty (h3.mono k1.t0) ?_
      walk_at "rd"
      refine ⟨_, _, rfl, rfl, ?_⟩
      walk_at "rd"
      rw [ty_tup]
      have ei : i = (n : Int) := V.int.inj (of_decide_eq_true c2)
      have e : formB n (.tup [.int i, d2, d3]) = d3.isT := by
        cases d3 <;> first | rfl | exact decide_eq_true ei
      exact e ▸ q H1 k1
    · walk_at "rd"
      have ei : i ≠ (n : Int) := fun z => of_decide_eq_false c2 (by rw [z])
      have e : formB n (.tup [.int i, d2, d3]) = false := by
        cases d3 <;> first | rfl | exact decide_eq_false ei
      exact e ▸ q H1 k1
  · walk_at "rd"
    have e : formB n (.tup [d1, d2, d3]) = false := by
      cases d1 with
      | int i =>
        cases d3 <;> first | rfl | skip
        have c1' := of_decide_eq_false c1
        exact decide_eq_false (by omega)
      | non => rfl
      | bl _ => rfl
      | str _ => rfl
      | tup _ => rfl
    exact e ▸ q H1 k1
end
end K02
end

section
/-! The program's defs: is_term. -/
namespace K02
open PySem L2 PyProof.Rows PySem.Spec Lc
variable [Lc.Tbs]
local macro_rules | `(tactic| walk_at "rd") => `(tactic| repeat (first
  | with_reducible refine r_seq ?_ | with_reducible refine r_mknx ?_ | with_reducible refine r_mkrt ?_ | with_reducible refine r_asg ?_ | with_reducible refine r_name ?_ | with_reducible refine r_next ?_
  | with_reducible refine r_drop ?_ | with_reducible refine r_ret ?_ | with_reducible refine r_if ?_
  | ((with_reducible refine' r_var ?e ?_); (case e => rfl)) | with_reducible refine r_c ?_ | with_reducible refine r_op ?_ | with_reducible refine r_un ?_ | with_reducible refine r_test ?_ | with_reducible refine r_tb ?_
  | with_reducible refine r_and ?_ | with_reducible refine r_or ?_ | with_reducible refine r_not ?_ | with_reducible refine r_andV ?_ | with_reducible refine r_orV ?_ | with_reducible refine r_notV ?_ | with_reducible refine r_bl ?_
  | with_reducible refine r_cb ?_ | with_reducible refine r_cons ?_ | with_reducible refine r_nil ?_ | with_reducible refine r_tup ?_ | with_reducible refine r_lst ?_ | with_reducible refine r_call ?_
  | with_reducible refine r_i0 ?_ | with_reducible refine r_par ?_ | with_reducible refine r_two ?_ | with_reducible refine r_lc ?_ | with_reducible refine r_iL ?_ | with_reducible refine r_iT ?_ | with_reducible refine r_iS ?_ | with_reducible refine r_i1 ?_ | with_reducible refine r_yes ?_ | with_reducible refine r_chain ?_ | with_reducible refine if_t rfl ?_ | with_reducible refine if_f rfl ?_ | with_reducible refine r_nt ?_ | ((with_reducible refine r_eq ?e ?_); (case e => rfl)) | ((with_reducible refine r_ne ?e ?_); (case e => rfl))
  | with_reducible refine r_sub ?_ | with_reducible refine r_sl ?_ | with_reducible refine r_nopart ?_ | with_reducible refine r_part ?_ | with_reducible refine r_int ?_ | with_reducible refine r_bm ?_ | with_reducible refine r_bm0 ?_ | with_reducible refine r_gcons ?_ | with_reducible refine r_gnil ?_ | with_reducible refine r_dget1 ?_ | with_reducible refine r_dget2 ?_))


local macro_rules | `(tactic| walk_at "dt") => `(tactic| repeat' (first | (show Dt _ _ _; assumption) | exact dt_str | exact dt_int | exact dt_bl | exact dt_non | exact Dts.nil | refine' Dts.cons ?_ ?_ | (refine' Dt.mono ?kk ?_; (case kk => assumption)) | fail))
local macro_rules | `(tactic| walk_at "at") => `(tactic| repeat (first | assumption | (refine' Kp.ge ?kk ?nn ?_; (case kk => assumption); (case nn => intro _ z; cases z)) | fail))
local macro_rules | `(tactic| walk_at "kp") => `(tactic| repeat (first | assumption | exact Kp.refl _ _ | (refine' Kp.trans ?_ ?kk; (case kk => assumption)) | fail))
local macro_rules | `(tactic| walk_at "tup") => `(tactic| (refine' r_tupN ?h ?f ?k; (case h => walk_at "dt"); (case f => simp); skip))

def spIsTerm : Sp := fun vs H Q _ => ∃ sv hv pv kv v sg hs own k d W, vs = [sv, hv, pv, kv, v] ∧ SgV H sg sv ∧ SgOk W sg ∧ sg.length ≤ 1000 ∧ Dt H (.tup (tyds hs)) hv ∧ TysOk W hs ∧ Dt H (.tup (tyds own)) pv ∧ TysOk W own ∧
  Dt H k.d kv ∧ k.Ok W ∧ Dt H d v ∧ Wd Tx 1000000 d ∧ d.sz ≤ 1000000 ∧ W ≤ 1000 ∧ own.length + W * d.dp ≤ 9000 ∧ ∀ H', Kp [] H H' → Q (.bl (tmB sg hs own k d)) H'
abbrev s_is_term : Stmt := top 5
abbrev N_is_term : List Str := ["signature", "holes", "prefix", "kind", "value", "constants", "todo", "binders", "needed", "outer", "term", "arguments", "sort", "j"]
theorem sc_is_term : FnScope N_is_term ["signature", "holes", "prefix", "kind", "value"] (defScope s_is_term) := ⟨rfl, rfl, rfl, by decide +kernel, rfl, by decide +kernel, by decide +kernel⟩
section
variable {P : Program} {w : World} {K : PySem.W.Frag} {mg : Str → Option Value} {base : Heap}
theorem ok_is_term (F : Df K mg "is_term" s_is_term ["signature", "holes", "prefix", "kind", "value"]) (T : Txt mg) (C_has_term_form : Cal P w K mg base "has_term_form" ["value", "n"] 2 spForm) (C_head_kind : Cal P w K mg base "head_kind" ["constants", "holes", "binders", "head"] 2 spHeadKind) :
    Cal P w K mg base "is_term" ["signature", "holes", "prefix", "kind", "value"] 3 spIsTerm := by
  refine F.ok sc_is_term (fun vs H Q E h => ?_) (fun f cdv A outer s H vs Q E hr h => ?_)
  · obtain ⟨sv, hv, xv, kv, v, sg, hs, own, k, d, W, rfl, _⟩ := h
    rfl
  obtain ⟨sv, hv, xv, kv, v, sg, hs, own, k, d, W, rfl, hsg, osg, fsg, hh, oh, hp, op, hk, ok, hd, wd, zd, hW, far, q⟩ := h
  refine ⟨_, (pss_cons (ps_set (i := 5) sc_is_term.nd rfl (Or.inl rfl) (pe_callTy (call_dictTup rfl) (by rfl) T.z_dict (by decide +kernel) (pa_cons (pv 0) pa_nil)))
      (pss_cons (ps_set (i := 6) sc_is_term.nd rfl (Or.inl rfl) (pe_lst (pa_cons (pe_tup (pa_cons (pv 2) (pa_cons (pv 3) (pa_cons (pv 4) pa_nil)))) pa_nil)))
      (pss_cons (ps_while PassesOwn.never (pt_truth (pv 6) (by intro _; rfl)) (pss_cons (ps_asg (pe_bm0 PySem.F.plainAttrs_list PySem.F.slot_list_pop PySem.F.type_list_pop mt_pop (pv 6)) (pg_tup (by rfl) (pgs_cons (pg_name (i := 9) sc_is_term.nd rfl (.inl rfl)) (pgs_cons (pg_tup (by rfl) (pgs_cons (pg_name (i := 11) sc_is_term.nd rfl (.inl rfl)) (pgs_cons (pg_name (i := 12) sc_is_term.nd rfl (.inl rfl)) pgs_nil))) (pgs_cons (pg_name (i := 10) sc_is_term.nd rfl (.inr rfl)) pgs_nil)))))
      (pss_cons (ps_if (pt_not (pt_val (pe_cal C_has_term_form hr rfl (pa_cons (pv 10) (pa_cons (pe_callB call_len_seq (by rfl) T.z_len (by decide +kernel) (pa_cons (pv 11) pa_nil)) pa_nil))))) (pss_one (ps_ret pe_bl)) pss_nil)
      (pss_cons (ps_set (i := 7) sc_is_term.nd rfl (Or.inr rfl) (pe_op op_catA (pv 9) (pv 11)))
      (pss_cons (ps_set (i := 8) sc_is_term.nd rfl (Or.inr rfl) (pe_cal C_head_kind hr rfl (pa_cons (pv 5) (pa_cons (pv 1) (pa_cons (pv 7) (pa_cons (pe_ix ix_tup (pv 10) pe_int (fun _ _ => rfl)) pa_nil))))))
      (pss_cons (ps_if (PW.pt (pw_or (pt_cmpR op_isN (pv 8) pe_non (nomark _)) (pw_or (pt_cmpR op_ne (pe_ix ix_tup (pv 8) pe_int (fun _ _ => rfl)) (pv 12) (nomark _)) (pw_or1 (pt_cmpR op_ne (pe_callB call_len_seq (by rfl) T.z_len (by decide +kernel) (pa_cons (pe_ix ix_tup (pv 8) pe_int (fun _ _ => rfl)) pa_nil)) (pe_callB call_len_seq (by rfl) T.z_len (by decide +kernel) (pa_cons (pe_ix ix_tup (pv 10) pe_int (fun _ _ => rfl)) pa_nil)) (nomark _)))))) (pss_one (ps_ret pe_bl)) pss_nil)
      (pss_one (ps_expr (pe_bm PySem.F.plainAttrs_list PySem.F.slot_list_extend PySem.F.type_list_extend mt_extend (pv 6) (pa_cons (pe_lc (own := [("j", 13)]) (g := gName 13) rfl sc_is_term.nd (pi_range1 rfl T.z_range (pa_cons (pe_callB call_len_seq (by rfl) T.z_len (by decide +kernel) (pa_cons (pe_ix ix_tup (pv 8) pe_int (fun _ _ => rfl)) pa_nil)) pa_nil)) (blkOk_by (N := N_is_term) (sc := defScope s_is_term) (by decide +kernel)) (fun _ _ _ _ _ => (pg_name (i := 13) sc_is_term.nd rfl (Or.inl rfl))) (fun _ _ _ _ _ => pts_nil) (fun _ _ _ _ _ => (pe_tup (pa_cons (pv 7) (pa_cons (pe_ix (r := rIxT K) ix_tup (pe_ix (r := rIxT K) ix_tup (pv 8) pe_int (fun _ _ => rfl)) (pv 13) (fun _ _ => rfl)) (pa_cons (pe_ix (r := rIxT K) ix_tup (pe_ix (r := rIxT K) ix_tup (pv 10) pe_int (fun _ _ => rfl)) (pv 13) (fun _ _ => rfl)) pa_nil)))))) pa_nil))))))))))
      (pss_one (ps_ret pe_bl))))), ?_⟩
  walk_at "rd"
  refine r_dict hsg osg fsg fun pc H1 k1 t1 n1 hc1 => ?_
  walk_at "rd"
  refine ⟨Nat.le_trans (show 3 ≤ 10000 by decide) (by decide), fun pt np => ?_⟩
  walk_at "rd"
  have k2 : Kp [] H1 (upd H1 pt (.tup [xv, kv, v])) := (Kp.refl _ _).up np
  refine r_lstN (show 1 ≤ 10000 by decide) fun L H3 k3 t3 nL hL => ?_
  walk_at "rd"
  have k03 : Kp [] H H3 := k1.trans (k2.trans k3)
  have hL0 : H L = none := (k1.trans k2).none nL
  have hc3 : SgD H3 sg pc := hc1.mono (k2.trans k3) fun _ z => nomatch z
  refine ⟨fun m σ H' => ∃ fs zs v7 v8 v9 v10 v11 v12 v13, σ = [some sv, some hv, some xv, some kv, some v, some (.ref pc), some (.ref L), v7, v8, v9, v10, v11, v12, v13] ∧ Kp [] H H' ∧ SgD H' sg pc ∧ H' L = some (.lst zs) ∧ FrsV W H' fs zs ∧ frZ fs ≤ 1000000 ∧ tmB sg hs own k d = frsB sg hs fs ∧ m = frZ fs,
    ⟨_, [(own, k, d)], [.ref pt], none, none, none, none, none, none, none, rfl, k03, hc3, hL, ?_, ?_, ?_, rfl⟩, ?_⟩
  · refine FrsV.nil.snoc ⟨pt, xv, kv, v, rfl, k3.get upd_same, hp.mono k03.t0, hk.mono k03.t0, hd.mono k03.t0, op, ok, wd, far⟩
  · unfold frZ
    simpa using zd
  · unfold frsB frB
    simp
  rintro m σ H4 ⟨fs, zs, v7, v8, v9, v10, v11, v12, v13, rfl, k4, hc4, hL4, hfs, zfs, etm, rfl⟩
  walk_at "rd"
  refine ⟨_, .inl ⟨zs, SqL.of hL4, rfl⟩, if_2 (fun c1 => ?_) (fun c1 => ?_)⟩
  · obtain ⟨gs, fr, us, y, rfl, rfl, hgs, a, vo, vk, vt, rfl, ha, ho, hk', ht, oo, okk, wt, fart⟩ := hfs.last (by rintro rfl; cases c1)
    obtain ⟨ow, ⟨as, srt⟩, tm⟩ := fr
    refine ⟨_, fun _ _ z => z, ?_⟩
    walk_at "rd"
    have k5 : Kp [] H (upd H4 L (.lst us)) := k4.own hL0
    have t5 : KeepT H4 (upd H4 L (.lst us)) := fun p xs z => by rw [upd_ne (ne_of z hL4 (fun q => by cases q))]; exact z
    have hc5 : SgD (upd H4 L (.lst us)) sg pc := hc4.mono (l := [L]) ((Kp.refl _ _).at (List.mem_singleton.mpr rfl)) (lst1 hL4)
    refine ⟨.inl ⟨rfl, _, SqL.of hL4⟩, L, _, _, rfl, rfl, hL4, at_last us _, ?_⟩
    rw [drop_last]
    refine r_gtup (t5 _ _ ha) rfl ?_
    walk_at "rd"
    replace hk' : Dt H4 (Ty.mk as srt).d vk := hk'
    rw [Ty.d] at hk'
    obtain ⟨a2, x2, rfl, ha2, va, r2, rfl, hva, vs2, r3, rfl, hvs2, rfl⟩ := hk'
    cases hvs2.str
    refine r_gtup (t5 _ _ ha2) rfl ?_
    walk_at "rd"
    obtain ⟨a3, x3, rfl, ha3, hs3⟩ := hva
    have l3 : x3.length = as.length := by rw [hs3.len, tyds_len]
    refine ⟨a3, x3, rfl, .inr (SqT.of (t5 _ _ ha3)), ?_⟩
    walk_at "rd"
    rw [l3]
    refine ⟨vt, tm, as.length, rfl, ht.mono t5, fun H6 k6 => ?_⟩
    walk_at "rd"
    have ebs : tmB sg hs own k d = (frsB sg hs gs && tmB sg hs ow (.mk as srt) tm) := by
      rw [etm, frsB_app]
      show (frsB sg hs gs && (frB sg hs (ow, Ty.mk as srt, tm) && true)) = _
      rw [Bool.and_true]
      rfl
    have k06 : Kp [] H H6 := k5.trans k6
    refine if_2 (fun c2 => ?_) (fun c2 => ?_)
    · walk_at "rd"
      have e : tmB sg hs own k d = false := by
        have c3 : formB (Ty.mk as srt).as.length tm = false := (show formB as.length tm = false by simpa using c2)
        rw [ebs, tmB_form c3, Bool.and_false]
      exact e ▸ q H6 k06
    obtain ⟨hd2, ps, rfl⟩ := formB_of (by simpa using c2)
    have t6 : KeepT H4 H6 := t5.trans k6.t0
    obtain ⟨at4, x4, rfl, ha4, hs4⟩ := (show Dt H4 (.tup [.int (as.length : Nat), hd2, .tup ps]) vt from ht)
    obtain ⟨y1, r1, rfl, hy1, y2, r2, rfl, hy2, y3, r3, rfl, hy3, rfl⟩ := hs4
    cases hy1.int
    obtain ⟨ap, xp, rfl, hap, hsp⟩ := hy3
    obtain ⟨ao, xo, rfl, hao, hso⟩ := (show Dt H4 (.tup (tyds ow)) vo from ho)
    have lo : xo.length = ow.length := by rw [hso.len, tyds_len]
    have oas : TysOk W as ∧ as.length ≤ W ∧ Tx srt := Ty.Ok.as (t := .mk as srt) okk
    have zt : (D.tup [.int (as.length : Nat), hd2, .tup ps]).dp = 1 + max 1 (max hd2.dp (max (1 + dps ps) 0)) := rfl
    have fart' : ow.length + W * (D.tup [.int (as.length : Nat), hd2, .tup ps]).dp ≤ 9000 := fart
    have fw : ow.length ≤ 9000 := Nat.le_trans (Nat.le_add_right _ _) fart'
    walk_at "rd"
    refine r_catT (t6 _ _ hao) (t6 _ _ ha3) (hso.mono t6) (hs3.mono t6) (by omega) fun vb H7 k7 t7 hb => ?_
    rw [← tyds_app] at hb
    have t47 : KeepT H4 H7 := t6.trans t7
    have k07 := k06.trans k7
    have hc7 := hc5.mono (k6.trans k7) fun _ z => nomatch z
    walk_at "rd"
    refine r_ixT (t47 _ _ ha4) rfl ?_
    walk_at "rd"
    refine ⟨pc, hv, vb, y2, sg, hs, ow ++ as, hd2, 1000000, rfl, hc7, hh.mono k07.t0, hb, hy2.mono t47, (show Wd Tx 1000000 hd2 from wt.2.2.1), fun r H8 k8 hr8 => ?_⟩
    have t48 : KeepT H4 H8 := t47.trans k8.t0
    have k08 := k07.trans k8
    walk_at "rd"
    refine ⟨rfl, ?_⟩
    walk_at "rd"
    have etm2 := tmB_eq (sg := sg) (hs := hs) (own := ow) (k := .mk as srt) (x := hd2) (ps := ps)
    replace etm2 : tmB sg hs ow (.mk as srt) (.tup [.int (as.length : Nat), hd2, .tup ps]) = match hdB sg hs (ow ++ as) hd2 with
      | none => false
      | some t => decide (t.s = srt) && decide (t.as.length = ps.length) && tmsB sg hs (ow ++ as) t.as ps := etm2
    cases eh : hdB sg hs (ow ++ as) hd2 with
    | none =>
      rw [eh] at hr8 etm2
      subst hr8
      refine if_t rfl ?_
      walk_at "rd"
      have e : tmB sg hs own k d = false := by rw [ebs, etm2, Bool.and_false]
      exact e ▸ q H8 k08
    | some t =>
      rw [eh] at hr8 etm2
      replace hr8 : Dt H8 t.d r := hr8
      have okt : t.Ok W := hdB_ok osg oh (oo.app oas.1) eh
      rw [Ty.d_eq] at hr8
      obtain ⟨ar, xr, rfl, har, w1, r2, rfl, hw1, w2, r3, rfl, hw2, rfl⟩ := hr8
      cases hw2.str
      obtain ⟨a9, x9, rfl, ha9, hs9⟩ := hw1
      have l9 : x9.length = t.as.length := by rw [hs9.len, tyds_len]
      have lp : xp.length = ps.length := hsp.len
      refine if_f rfl ?_
      walk_at "rd"
      refine r_ixT har rfl ?_
      walk_at "rd"
      refine if_2 (fun c3 => ?_) (fun c3 => ?_)
      · walk_at "rd"
        have ne : t.s ≠ srt := fun z => by rw [z] at c3; simp at c3
        have e : tmB sg hs own k d = false := by
          rw [ebs, etm2]
          simp [ne]
        exact e ▸ q H8 k08
      have es : t.s = srt := by simpa using c3
      walk_at "rd"
      refine r_ixT har rfl ?_
      walk_at "rd"
      refine ⟨a9, x9, rfl, .inr (SqT.of ha9), ?_⟩
      walk_at "rd"
      refine r_ixT (t48 _ _ ha4) rfl ?_
      walk_at "rd"
      refine ⟨ap, xp, rfl, .inr (SqT.of (t48 _ _ hap)), ?_⟩
      walk_at "rd"
      rw [l9, lp]
      refine if_2 (fun c4 => ?_) (fun c4 => ?_)
      · walk_at "rd"
        have ne : t.as.length ≠ ps.length := fun z => by rw [z] at c4; simp at c4
        have e : tmB sg hs own k d = false := by
          rw [ebs, etm2]
          simp [ne]
        exact e ▸ q H8 k08
      have el : t.as.length = ps.length := by
        have z : V.int (t.as.length : Nat) = V.int (ps.length : Nat) := by simpa using c4
        have := V.int.inj z
        omega
      have k58 : Kp [] (upd H4 L (.lst us)) H8 := k6.trans (k7.trans k8)
      have hL8 : H8 L = some (.lst us) := k58.get upd_same
      have etm3 : tmB sg hs own k d = frsB sg hs (gs ++ kids (ow ++ as) t.as ps) := by
        rw [ebs, etm2, frsB_app, kids_B el]
        simp [es, el]
      have zps : szs ps + 2 ≤ (D.tup [.int (as.length : Nat), hd2, .tup ps]).sz := by
        have e : (D.tup [.int (as.length : Nat), hd2, .tup ps]).sz = 1 + (1 + (hd2.sz + ((1 + szs ps) + 0))) := rfl
        omega
      have zall : frZ (gs ++ [(ow, Ty.mk as srt, D.tup [.int (as.length : Nat), hd2, .tup ps])]) = frZ gs + (D.tup [.int (as.length : Nat), hd2, .tup ps]).sz := by
        rw [frZ_app]
        simp [frZ]
      have wps : Wds Tx 1000000 ps := wt.2.2.2.1.2
      walk_at "rd"
      refine ⟨.inl ⟨rfl, _, SqL.of hL8⟩, ?_⟩
      walk_at "rd"
      refine r_ixT har rfl ?_
      walk_at "rd"
      refine ⟨a9, x9, rfl, .inr (SqT.of ha9), ?_⟩
      walk_at "rd"
      rw [l9]
      have lps := szs_len ps
      have zsz : szs ps ≤ 1000000 := by omega
      refine ⟨_, rfl, by omega, by omega, fun L2 nL2 => lc_it walk_range (fun i H' => ∃ ys, H' L2 = some (.lst ys) ∧ FrsV W H' ((kids (ow ++ as) t.as ps).take i) ys ∧ Kp [] H8 H')
        ⟨[], upd_same, FrsV.nil, (Kp.refl _ _).up nL2⟩ (fun _ _ _ _ => trivial) ?_ ?_⟩
      · rintro i y H0 H9 hi9 ⟨ys, eL2, hys, k9⟩ ⟨rfl, rfl⟩
        have hi : i < t.as.length := by simpa using hi9
        have hip : i < ps.length := by omega
        walk_at "rd"
        refine ⟨rfl, ?_⟩
        walk_at "rd"
        have t49 := t48.trans k9.t0
        obtain ⟨w3, hw3, hdw3⟩ := (hs9.mono k9.t0).of (tyds_at (List.getElem?_eq_getElem hi))
        obtain ⟨w4, hw4, hdw4⟩ := (hsp.mono t49).of (List.getElem?_eq_getElem hip)
        refine r_ixT (k9.get har) rfl ?_
        walk_at "rd"
        refine r_ixT (k9.get ha9) (by simpa using atI_nat hw3) ?_
        walk_at "rd"
        refine r_ixT (t49 _ _ ha4) rfl ?_
        walk_at "rd"
        refine r_ixT (t49 _ _ hap) (by simpa using atI_nat hw4) ?_
        walk_at "rd"
        refine ⟨Nat.le_trans (show 3 ≤ 10000 by decide) (by decide), fun pn npn => ?_⟩
        walk_at "rd"
        have kn : Kp [] H9 (upd H9 pn (.tup [vb, w3, w4])) := (Kp.refl _ _).up npn
        refine ⟨ys, kn.get eL2, ?_, _, upd_same, ?_, (k9.trans kn).own nL2⟩
        · rw [hys.1, List.length_take]
          exact Nat.lt_of_le_of_lt (show _ ≤ 1000000 by omega) (by decide)
        · have ek := kids_at (own := ow ++ as) (List.getElem?_eq_getElem hi) (List.getElem?_eq_getElem hip)
          rw [take_one ek]
          have tn : KeepT H9 (upd (upd H9 pn (.tup [vb, w3, w4])) L2 (.lst (ys ++ [.ref pn]))) := kn.t0.trans fun p xs z => by rw [upd_ne (ne_of z (kn.get eL2) (fun q => by cases q))]; exact z
          have hpn : upd (upd H9 pn (.tup [vb, w3, w4])) L2 (.lst (ys ++ [.ref pn])) pn = some (.tup [vb, w3, w4]) := by
            rw [upd_ne (ne_of upd_same (kn.get eL2) (fun q => by cases q))]
            exact upd_same
          refine (hys.mono tn).snoc ⟨pn, vb, w3, w4, rfl, hpn, (hb.mono (k8.trans k9).t0).mono tn, hdw3.mono tn, hdw4.mono tn, oo.app oas.1, okt.as.1.at (List.getElem_mem hi), Wds.mem.mp wps _ (List.getElem_mem hip), ?_⟩
          have m1 := dps_mem (List.getElem_mem hip)
          have m2 : W * (1 + (ps[i]).dp) ≤ W * (D.tup [.int (as.length : Nat), hd2, .tup ps]).dp := Nat.mul_le_mul_left _ (by omega)
          rw [Nat.mul_add, Nat.mul_one] at m2
          have := oas.2.1
          show (ow ++ as).length + W * (ps[i]).dp ≤ 9000
          rw [List.length_append]
          omega
      · rintro H9 ⟨ys, eL2, hys, k9⟩
        rw [List.take_of_length_le (by rw [kids_len el]; simp; omega)] at hys
        have hL9 : H9 L = some (.lst us) := k9.get hL8
        have lys : ys.length = ps.length := by rw [hys.1, kids_len el]
        have lus : us.length ≤ 1000000 := by
          have := frZ_len gs
          rw [hgs.1]
          omega
        refine ⟨L, L2, us, ys, rfl, rfl, hL9, eL2, Nat.le_trans (show _ ≤ 2000000 by omega) (by decide), ?_⟩
        have t9 : KeepT H9 (upd H9 L (.lst (us ++ ys))) := fun p xs z => by rw [upd_ne (ne_of z hL9 (fun q => by cases q))]; exact z
        walk_at "rd"
        refine ⟨frZ (gs ++ kids (ow ++ as) t.as ps), ?_, gs ++ kids (ow ++ as) t.as ps, us ++ ys, _, _, _, _, _, _, _, rfl, (k08.trans k9).own hL0, (hc7.mono (k8.trans k9) fun _ z => nomatch z).mono (l := [L]) ((Kp.refl _ _).at (List.mem_singleton.mpr rfl)) (lst1 hL9), upd_same, ((hgs.mono (t48.trans k9.t0)).app hys).mono t9, ?_, etm3, rfl⟩
        · rw [zall, frZ_app, kids_Z el]
          omega
        · rw [frZ_app, kids_Z el]
          omega
  · walk_at "rd"
    have e0 : zs = [] := by
      cases zs with
      | nil => rfl
      | cons _ _ => cases c1
    subst e0
    have e1 : fs = [] := List.eq_nil_of_length_eq_zero hfs.1.symm
    subst e1
    have e2 : tmB sg hs own k d = true := etm
    exact e2 ▸ q H4 k4
end
end K02
end

section
/-! what is drawn. -/
namespace K02
open PySem L2 PyProof.Rows PySem.Spec Lc
variable [Lc.Tbs]
local macro_rules | `(tactic| walk_at "rd") => `(tactic| repeat (first
  | with_reducible refine r_seq ?_ | with_reducible refine r_mknx ?_ | with_reducible refine r_mkrt ?_ | with_reducible refine r_asg ?_ | with_reducible refine r_name ?_ | with_reducible refine r_next ?_
  | with_reducible refine r_drop ?_ | with_reducible refine r_ret ?_ | with_reducible refine r_if ?_
  | ((with_reducible refine' r_var ?e ?_); (case e => rfl)) | with_reducible refine r_c ?_ | with_reducible refine r_op ?_ | with_reducible refine r_un ?_ | with_reducible refine r_test ?_ | with_reducible refine r_tb ?_
  | with_reducible refine r_and ?_ | with_reducible refine r_or ?_ | with_reducible refine r_not ?_ | with_reducible refine r_andV ?_ | with_reducible refine r_orV ?_ | with_reducible refine r_notV ?_ | with_reducible refine r_bl ?_
  | with_reducible refine r_cb ?_ | with_reducible refine r_cons ?_ | with_reducible refine r_nil ?_ | with_reducible refine r_tup ?_ | with_reducible refine r_lst ?_ | with_reducible refine r_call ?_
  | with_reducible refine r_i0 ?_ | with_reducible refine r_par ?_ | with_reducible refine r_two ?_ | with_reducible refine r_lc ?_ | with_reducible refine r_iL ?_ | with_reducible refine r_iT ?_ | with_reducible refine r_iS ?_ | with_reducible refine r_i1 ?_ | with_reducible refine r_yes ?_ | with_reducible refine r_chain ?_ | with_reducible refine if_t rfl ?_ | with_reducible refine if_f rfl ?_ | with_reducible refine r_nt ?_ | ((with_reducible refine r_eq ?e ?_); (case e => rfl)) | ((with_reducible refine r_ne ?e ?_); (case e => rfl))
  | with_reducible refine r_sub ?_ | with_reducible refine r_sl ?_ | with_reducible refine r_nopart ?_ | with_reducible refine r_part ?_ | with_reducible refine r_int ?_ | with_reducible refine r_bm ?_ | with_reducible refine r_bm0 ?_ | with_reducible refine r_gcons ?_ | with_reducible refine r_gnil ?_ | with_reducible refine r_dget1 ?_ | with_reducible refine r_dget2 ?_))


local macro_rules | `(tactic| walk_at "dt") => `(tactic| repeat' (first | (show Dt _ _ _; assumption) | exact dt_str | exact dt_int | exact dt_bl | exact dt_non | exact Dts.nil | refine' Dts.cons ?_ ?_ | (refine' Dt.mono ?kk ?_; (case kk => assumption)) | fail))
local macro_rules | `(tactic| walk_at "at") => `(tactic| repeat (first | assumption | (refine' Kp.ge ?kk ?nn ?_; (case kk => assumption); (case nn => intro _ z; cases z)) | fail))
local macro_rules | `(tactic| walk_at "kp") => `(tactic| repeat (first | assumption | exact Kp.refl _ _ | (refine' Kp.trans ?_ ?kk; (case kk => assumption)) | fail))
local macro_rules | `(tactic| walk_at "tup") => `(tactic| (refine' r_tupN ?h ?f ?k; (case h => walk_at "dt"); (case f => simp); skip))



/-! ### the draws' state -/
/-- at c stand the script's ints, how many are taken, the digits left, a count, and one thing more -/
def CS (a : Addr) (H : Hp) (c : Addr) : Prop := ∃ (ns : List Int) (i d k z : Int), H c = some (.lst [.ref a, .int i, .int d, .int k, .int z]) ∧ H a = some (.lst (ns.map V.int)) ∧ 0 ≤ i ∧ a ≠ c
theorem CS.keep {a : Addr} {H H' : Hp} {c : Addr} (h : CS a H c) (k : Kp [] H H') : CS a H' c := by
  obtain ⟨ns, i, d, n, z, h1, h2, h3, h4⟩ := h
  exact ⟨ns, i, d, n, z, k c _ (fun q => nomatch q) h1, k a _ (fun q => nomatch q) h2, h3, h4⟩
theorem CS.noT {a : Addr} {H : Hp} {c : Addr} (h : CS a H c) : NoT H c := by
  obtain ⟨ns, i, d, n, z, h1, _⟩ := h
  exact NoT.lst h1
theorem CS.t {a : Addr} {H H' : Hp} {c : Addr} (h : CS a H c) (k : Kp [c] H H') : KeepT H H' := k.t1 h.noT
/-- a new object is none of the state's -/
theorem CS.ne {a : Addr} {H : Hp} {c l : Addr} (h : CS a H c) (n : H l = none) : l ≠ c ∧ l ≠ a := by
  obtain ⟨ns, i, d, m, z, h1, h2, _⟩ := h
  exact ⟨fun q => (by rw [q, h1] at n; cases n), fun q => (by rw [q, h2] at n; cases n)⟩
theorem CS.own {a : Addr} {H : Hp} {c l : Addr} {o : HO} (h : CS a H c) (n : l ≠ c ∧ l ≠ a) : CS a (upd H l o) c := by
  obtain ⟨ns, i, d, m, z, h1, h2, h3, h4⟩ := h
  exact ⟨ns, i, d, m, z, by rw [upd_ne n.1.symm]; exact h1, by rw [upd_ne n.2.symm]; exact h2, h3, h4⟩
def spFill : Sp := fun vs H Q _ => ∃ c a, vs = [.ref c] ∧ CS a H c ∧ ∀ (d : Int) H', Kp [c] H H' → CS a H' c → Q (.int d) H'
def spTake : Sp := fun vs H Q _ => ∃ (c a : Addr) (m : Int), vs = [.ref c, .int m] ∧ CS a H c ∧ 0 < m ∧ m < 1073741824 ∧ ∀ (d : Int) H', 0 ≤ d → d < m → Kp [c] H H' → CS a H' c → Q (.int d) H'
theorem at_ints {ns : List Int} {i : Int} (h0 : 0 ≤ i) (h : i < ((ns.map V.int).length : Nat)) : ∃ v, atI (ns.map V.int) i = some (.int v) := by
  have e : i = ((i.toNat : Nat) : Int) := by omega
  have hk : i.toNat < ns.length := by
    rw [List.length_map] at h
    omega
  refine ⟨ns[i.toNat], at_of e ?_⟩
  rw [List.getElem?_map, List.getElem?_eq_getElem hk]
  rfl
theorem last_int {ns : List Int} (h : (ns.map V.int).isEmpty = false) : ∃ v, atI (ns.map V.int) (-1) = some (.int v) := by
  have n : ns ≠ [] := by
    rintro rfl
    cases h
  refine ⟨ns.getLast n, ?_⟩
  have e : ns.map V.int = ns.dropLast.map V.int ++ [V.int (ns.getLast n)] := by
    rw [← List.map_singleton (f := V.int), ← List.map_append, List.dropLast_concat_getLast]
  rw [e]
  exact atI_last _ _

abbrev s_law_fill : Stmt := top 16
abbrev N_law_fill : List Str := ["c", "number"]
theorem sc_law_fill : FnScope N_law_fill ["c"] (defScope s_law_fill) := ⟨rfl, rfl, rfl, by decide +kernel, rfl, by decide +kernel, by decide +kernel⟩
abbrev s_law_take : Stmt := top 17
abbrev N_law_take : List Str := ["c", "many", "digit"]
theorem sc_law_take : FnScope N_law_take ["c", "many"] (defScope s_law_take) := ⟨rfl, rfl, rfl, by decide +kernel, rfl, by decide +kernel, by decide +kernel⟩
section
variable {P : Program} {w : World} {K : PySem.W.Frag} {mg : Str → Option Value} {base : Heap}
theorem ok_fill (F : Df K mg "_law_fill" s_law_fill ["c"]) (T : Txt mg) : Cal P w K mg base "_law_fill" ["c"] 1 spFill := by
  refine F.ok sc_law_fill (fun vs H Q E h => ?_) (fun f cdv A outer s H vs Q E hr h => ?_)
  · obtain ⟨c, a, rfl, _⟩ := h
    rfl
  obtain ⟨c, a, rfl, ⟨ns, i, d, k, z, hc, ha, h0, hne⟩, q⟩ := h
  refine ⟨_, (pss_cons (ps_asg (pe_op op_add (pe_ix ix_list (pv 0) pe_int (fun _ _ => rfl)) pe_int) (pg_sub (pv 0) pe_int set_list))
      (pss_cons (ps_set (i := 1) sc_law_fill.nd rfl (Or.inl rfl) (pe_op op_add (pe_op op_mul (pe_ix ix_list (pv 0) pe_int (fun _ _ => rfl)) pe_int) pe_int))
      (Evl.pss_cut (ps_if (pt_cmpR op_lt (pe_ix ix_list (pv 0) pe_int (fun _ _ => rfl)) (pe_callB call_len_seq (by rfl) T.z_len (by decide +kernel) (pa_cons (pe_ix ix_list (pv 0) pe_int (fun _ _ => rfl)) pa_nil)) (nomark _)) (pss_cons (ps_set (i := 1) sc_law_fill.nd rfl (Or.inl rfl) (pe_callB (call_max2 rfl) (by rfl) T.z_max (by decide +kernel) (pa_cons (pe_ix ix_list (pe_ix ix_list (pv 0) pe_int (fun _ _ => rfl)) (pe_ix ix_list (pv 0) pe_int (fun _ _ => rfl)) (fun _ _ => rfl)) (pa_cons (pe_op op_sub (pe_op op_sub pe_int pe_int) (pe_ix ix_list (pe_ix ix_list (pv 0) pe_int (fun _ _ => rfl)) (pe_ix ix_list (pv 0) pe_int (fun _ _ => rfl)) (fun _ _ => rfl))) pa_nil))))
      (pss_cons (ps_asg (pe_op op_add (pe_ix ix_list (pv 0) pe_int (fun _ _ => rfl)) pe_int) (pg_sub (pv 0) pe_int set_list))
      (pss_one (ps_if (pt_cmpR op_ge (pv 1) (pe_op op_pow pe_int pe_int) (nomark _)) (pss_one (ps_ret (pv 1))) pss_nil)))) pss_nil)
      (Evl.pss_cut (ps_if (PW.pt (pw_and (pt_truth (pe_ix ix_list (pv 0) pe_int (fun _ _ => rfl)) (by intro _; rfl)) (pw_and1 (pt_cmpR op_ge (pe_ix ix_list (pv 0) pe_int (fun _ _ => rfl)) (pe_callB call_len_seq (by rfl) T.z_len (by decide +kernel) (pa_cons (pe_ix ix_list (pv 0) pe_int (fun _ _ => rfl)) pa_nil)) (nomark _))))) (pss_one (ps_set (i := 1) sc_law_fill.nd rfl (Or.inl rfl) (pe_op op_add (pv 1) (pe_op op_modN (pe_callTy call_int1 (by rfl) T.z_int (by decide +kernel) (pa_cons (pe_ix ix_list (pe_ix ix_list (pv 0) pe_int (fun _ _ => rfl)) (pe_un un_neg pe_int) (fun _ _ => rfl)) pa_nil)) pe_int)))) pss_nil)
      (pss_cons (ps_set (i := 1) sc_law_fill.nd rfl (Or.inl rfl) (pe_op op_modN (pe_callTy call_int1 (by rfl) T.z_int (by decide +kernel) (pa_cons (pe_op op_add (pe_op op_mul (pv 1) pe_int) (pe_op op_mul (pe_ix ix_list (pv 0) pe_int (fun _ _ => rfl)) pe_int)) pa_nil)) pe_int))
      (pss_one (ps_ret (pe_op op_add (pe_op op_fdivN (pe_callTy call_int1 (by rfl) T.z_int (by decide +kernel) (pa_cons (pe_op op_add (pe_op op_add (pe_op op_mul (pv 1) (pv 1)) (pe_op op_mul (pe_ix ix_list (pv 0) pe_int (fun _ _ => rfl)) pe_int)) pe_int) pa_nil)) pe_int) pe_int)))))))), ?_⟩
  walk_at "rd"
  refine r_ixL hc rfl ?_
  walk_at "rd"
  refine r_set hc rfl ?_
  walk_at "rd"
  refine r_ixL upd_same rfl ?_
  walk_at "rd"
  refine r_i (.inr (by decide)) ?_
  walk_at "rd"
  refine r_cut (fun σ H' => ∃ (n : Int) (i' : Int), σ = [some (.ref c), some (.int n)] ∧ Kp [c] H H' ∧ H' c = some (.lst [.ref a, .int i', .int d, .int (k + 1), .int z]) ∧ H' a = some (.lst (ns.map V.int)) ∧ 0 ≤ i') ?_ ?_
  · walk_at "rd"
    refine r_ixL upd_same rfl ?_
    walk_at "rd"
    have ha1 : (upd H c (.lst [.ref a, .int i, .int d, .int (k + 1), .int z])) a = some (.lst (ns.map V.int)) := by rw [upd_ne hne]; exact ha
    have k1 : Kp [c] H (upd H c (.lst [.ref a, .int i, .int d, .int (k + 1), .int z])) := (Kp.refl _ _).at (by simp)
    refine r_ixL upd_same rfl ?_
    walk_at "rd"
    refine ⟨a, _, rfl, .inl (SqL.of ha1), ?_⟩
    walk_at "rd"
    refine if_2 (fun c1 => ?_) (fun c1 => ?_)
    · obtain ⟨v, hv⟩ := at_ints h0 (by simpa using c1)
      walk_at "rd"
      refine r_ixL upd_same rfl ?_
      walk_at "rd"
      refine r_ixL upd_same rfl ?_
      walk_at "rd"
      refine r_ixL ha1 hv ?_
      walk_at "rd"
      refine r_ixL upd_same rfl ?_
      walk_at "rd"
      refine r_ixL upd_same rfl ?_
      walk_at "rd"
      refine r_ixL ha1 hv ?_
      walk_at "rd"
      refine ⟨_, _, rfl, ?_⟩
      walk_at "rd"
      refine r_ixL upd_same rfl ?_
      walk_at "rd"
      refine r_set upd_same rfl ?_
      have k2 : Kp [c] H (upd (upd H c (.lst [.ref a, .int i, .int d, .int (k + 1), .int z])) c (.lst [.ref a, .int (i + 1), .int d, .int (k + 1), .int z])) := k1.at (by simp)
      have ha2 : (upd (upd H c (.lst [.ref a, .int i, .int d, .int (k + 1), .int z])) c (.lst [.ref a, .int (i + 1), .int d, .int (k + 1), .int z])) a = some (.lst (ns.map V.int)) := by rw [upd_ne hne]; exact ha1
      walk_at "rd"
      refine r_i ⟨by decide, by decide, by decide⟩ ?_
      walk_at "rd"
      refine if_2 (fun c2 => ?_) (fun c2 => ?_)
      · walk_at "rd"
        exact q _ _ k2 ⟨ns, i + 1, d, k + 1, z, upd_same, ha2, by omega, hne⟩
      · walk_at "rd"
        exact ⟨_, i + 1, rfl, k2, upd_same, ha2, by omega⟩
    · walk_at "rd"
      exact ⟨_, i, rfl, k1, upd_same, ha1, h0⟩
  · rintro σ H1 ⟨n, j, rfl, k1, hc1, ha1, hj⟩
    have cs : CS a H1 c := ⟨ns, j, d, k + 1, z, hc1, ha1, hj, hne⟩
    refine r_cut (fun σ H' => ∃ (n : Int), σ = [some (.ref c), some (.int n)] ∧ H' = H1) ?_ ?_
    · walk_at "rd"
      refine r_ixL hc1 rfl ?_
      walk_at "rd"
      refine ⟨_, .inl ⟨_, SqL.of ha1, rfl⟩, if_2 (fun c1 => ?_) (fun c1 => ?_)⟩
      · walk_at "rd"
        refine r_ixL hc1 rfl ?_
        walk_at "rd"
        refine r_ixL hc1 rfl ?_
        walk_at "rd"
        refine ⟨a, _, rfl, .inl (SqL.of ha1), ?_⟩
        walk_at "rd"
        refine if_2 (fun c2 => ?_) (fun c2 => ?_)
        · obtain ⟨v, hv⟩ := last_int (by simpa using c1)
          walk_at "rd"
          refine r_ixL hc1 rfl ?_
          walk_at "rd"
          refine ⟨1, rfl, ?_⟩
          walk_at "rd"
          refine r_ixL ha1 hv ?_
          walk_at "rd"
          refine .inl ⟨_, rfl, ?_⟩
          walk_at "rd"
          refine r_i (by decide) ?_
          walk_at "rd"
          exact ⟨_, rfl, rfl⟩
        · walk_at "rd"
          exact ⟨_, rfl, rfl⟩
      · walk_at "rd"
        exact ⟨_, rfl, rfl⟩
    · rintro σ H2 ⟨n2, rfl, rfl⟩
      walk_at "rd"
      refine r_i (.inr (by decide)) ?_
      walk_at "rd"
      refine r_ixL hc1 rfl ?_
      walk_at "rd"
      refine r_i (.inr (by decide)) ?_
      walk_at "rd"
      refine .inl ⟨_, rfl, ?_⟩
      walk_at "rd"
      refine r_i (by decide) ?_
      walk_at "rd"
      have lo := Int.fmod_nonneg_of_pos (n2 * 48271 + (k + 1) * 69621) (show (0 : Int) < 2147483647 by decide)
      have hi := Int.fmod_lt_of_pos (n2 * 48271 + (k + 1) * 69621) (show (0 : Int) < 2147483647 by decide)
      generalize (n2 * 48271 + (k + 1) * 69621).fmod 2147483647 = g at lo hi ⊢
      refine r_i (.inl ⟨by omega, by omega⟩) ?_
      walk_at "rd"
      refine r_ixL hc1 rfl ?_
      walk_at "rd"
      refine r_i (.inr (by decide)) ?_
      walk_at "rd"
      refine .inl ⟨_, rfl, ?_⟩
      walk_at "rd"
      refine r_i ⟨by decide, by decide⟩ ?_
      walk_at "rd"
      exact q _ _ k1 cs
theorem ok_take (F : Df K mg "_law_take" s_law_take ["c", "many"]) (T : Txt mg) (C_law_fill : Cal P w K mg base "_law_fill" ["c"] 1 spFill) : Cal P w K mg base "_law_take" ["c", "many"] 2 spTake := by
  refine F.ok sc_law_take (fun vs H Q E h => ?_) (fun f cdv A outer s H vs Q E hr h => ?_)
  · obtain ⟨c, a, m, rfl, _⟩ := h
    rfl
  obtain ⟨c, a, m, rfl, cs, hm, hm2, q⟩ := h
  obtain ⟨ns, i, d, k, z, hc, ha, h0, hne⟩ := id cs
  refine ⟨_, (Evl.pss_cut (ps_if (pt_cmpR op_lt (pe_ix ix_list (pv 0) pe_int (fun _ _ => rfl)) (pv 1) (nomark _)) (pss_one (ps_asg (pe_cal C_law_fill hr rfl (pa_cons (pv 0) pa_nil)) (pg_sub (pv 0) pe_int set_list))) pss_nil)
      (pss_cons (ps_set (i := 2) sc_law_take.nd rfl (Or.inl rfl) (pe_op op_modN (pe_callTy call_int1 (by rfl) T.z_int (by decide +kernel) (pa_cons (pe_ix ix_list (pv 0) pe_int (fun _ _ => rfl)) pa_nil)) (pv 1)))
      (pss_cons (ps_asg (pe_op op_fdivN (pe_ix ix_list (pv 0) pe_int (fun _ _ => rfl)) (pv 1)) (pg_sub (pv 0) pe_int set_list))
      (pss_one (ps_ret (pv 2)))))), ?_⟩
  refine r_cut (fun σ H' => σ = [some (.ref c), some (.int m), none] ∧ Kp [c] H H' ∧ CS a H' c) ?_ ?_
  · walk_at "rd"
    refine r_ixL hc rfl ?_
    walk_at "rd"
    refine if_2 (fun c1 => ?_) (fun c1 => ?_)
    · walk_at "rd"
      refine ⟨c, a, rfl, cs, fun d' H1 k1 cs1 => ?_⟩
      obtain ⟨ns1, i1, d1, n1, z1, hc1, ha1, h01, hne1⟩ := id cs1
      walk_at "rd"
      refine r_set hc1 rfl ?_
      exact ⟨rfl, k1.at (by simp), ns1, i1, d', n1, z1, upd_same, by rw [upd_ne hne1]; exact ha1, h01, hne1⟩
    · walk_at "rd"
      exact ⟨rfl, Kp.refl _ _, cs⟩
  · rintro σ H1 ⟨rfl, k1, cs1⟩
    obtain ⟨ns1, i1, d1, n1, z1, hc1, ha1, h01, hne1⟩ := id cs1
    walk_at "rd"
    refine r_ixL hc1 rfl ?_
    walk_at "rd"
    refine .inl ⟨_, rfl, ?_⟩
    walk_at "rd"
    refine r_i (by omega) ?_
    walk_at "rd"
    refine r_ixL hc1 rfl ?_
    walk_at "rd"
    refine r_i ⟨by omega, by omega⟩ ?_
    walk_at "rd"
    refine r_set hc1 rfl ?_
    walk_at "rd"
    exact q _ _ (Int.fmod_nonneg_of_pos d1 hm) (Int.fmod_lt_of_pos d1 hm) (k1.at (by simp)) ⟨ns1, i1, _, n1, z1, upd_same, by rw [upd_ne hne1]; exact ha1, h01, hne1⟩
end
end K02
end

section
/-! the start, a drawn type, a drawn signature. -/
namespace K02
open PySem L2 PyProof.Rows PySem.Spec Lc
variable [Lc.Tbs]
local macro_rules | `(tactic| walk_at "rd") => `(tactic| repeat (first
  | with_reducible refine r_seq ?_ | with_reducible refine r_mknx ?_ | with_reducible refine r_mkrt ?_ | with_reducible refine r_asg ?_ | with_reducible refine r_name ?_ | with_reducible refine r_next ?_
  | with_reducible refine r_drop ?_ | with_reducible refine r_ret ?_ | with_reducible refine r_if ?_
  | ((with_reducible refine' r_var ?e ?_); (case e => rfl)) | with_reducible refine r_c ?_ | with_reducible refine r_op ?_ | with_reducible refine r_un ?_ | with_reducible refine r_test ?_ | with_reducible refine r_tb ?_
  | with_reducible refine r_and ?_ | with_reducible refine r_or ?_ | with_reducible refine r_not ?_ | with_reducible refine r_andV ?_ | with_reducible refine r_orV ?_ | with_reducible refine r_notV ?_ | with_reducible refine r_bl ?_
  | with_reducible refine r_cb ?_ | with_reducible refine r_cons ?_ | with_reducible refine r_nil ?_ | with_reducible refine r_tup ?_ | with_reducible refine r_lst ?_ | with_reducible refine r_call ?_
  | with_reducible refine r_i0 ?_ | with_reducible refine r_par ?_ | with_reducible refine r_two ?_ | with_reducible refine r_lc ?_ | with_reducible refine r_iL ?_ | with_reducible refine r_iT ?_ | with_reducible refine r_iS ?_ | with_reducible refine r_i1 ?_ | with_reducible refine r_yes ?_ | with_reducible refine r_chain ?_ | with_reducible refine if_t rfl ?_ | with_reducible refine if_f rfl ?_ | with_reducible refine r_nt ?_ | ((with_reducible refine r_eq ?e ?_); (case e => rfl)) | ((with_reducible refine r_ne ?e ?_); (case e => rfl))
  | with_reducible refine r_sub ?_ | with_reducible refine r_sl ?_ | with_reducible refine r_nopart ?_ | with_reducible refine r_part ?_ | with_reducible refine r_int ?_ | with_reducible refine r_bm ?_ | with_reducible refine r_bm0 ?_ | with_reducible refine r_gcons ?_ | with_reducible refine r_gnil ?_ | with_reducible refine r_dget1 ?_ | with_reducible refine r_dget2 ?_))


local macro_rules | `(tactic| walk_at "dt") => `(tactic| repeat' (first | (show Dt _ _ _; assumption) | exact dt_str | exact dt_int | exact dt_bl | exact dt_non | exact Dts.nil | refine' Dts.cons ?_ ?_ | (refine' Dt.mono ?kk ?_; (case kk => assumption)) | fail))
local macro_rules | `(tactic| walk_at "at") => `(tactic| repeat (first | assumption | (refine' Kp.ge ?kk ?nn ?_; (case kk => assumption); (case nn => intro _ z; cases z)) | fail))
local macro_rules | `(tactic| walk_at "kp") => `(tactic| repeat (first | assumption | exact Kp.refl _ _ | (refine' Kp.trans ?_ ?kk; (case kk => assumption)) | fail))
local macro_rules | `(tactic| walk_at "tup") => `(tactic| (refine' r_tupN ?h ?f ?k; (case h => walk_at "dt"); (case f => simp); skip))



def spStart (K : PySem.W.Frag) : Sp := fun vs H Q _ => ∃ (s : Addr) (ns : List Int), vs = [.ref s] ∧ SqL K H s (ns.map V.int) ∧ ns.length ≤ 63 ∧ ∀ c a H', Kp [] H H' → H c = none → CS a H' c → Q (.ref c) H'
def AB (x : Str) : Prop := x = "a" ∨ x = "b"
theorem AB.tx {x : Str} (h : AB x) : Tx x := by
  rcases h with rfl | rfl
  all_goals decide +kernel
theorem tys_of : ∀ {ds : List D}, (∀ d ∈ ds, ∃ t : Lc.Ty, d = t.d) → ∃ ts, ds = tyds ts
  | [], _ => ⟨[], rfl⟩
  | d :: ds, h => by
    obtain ⟨t, rfl⟩ := h d List.mem_cons_self
    obtain ⟨ts, rfl⟩ := tys_of (ds := ds) fun e he => h e (List.mem_cons_of_mem _ he)
    exact ⟨t :: ts, rfl⟩
structure KindOk (h : Nat) (d : D) : Prop where
  wd : Wd AB 3 d
  dp : d.dp ≤ 2 * h + 2
  sz : d.sz ≤ 4 ^ (h + 1)
  ty : ∃ t : Lc.Ty, d = t.d
theorem KindOk.up {h j : Nat} {d : D} (k : KindOk h d) (l : h ≤ j) : KindOk j d :=
  ⟨k.wd, Nat.le_trans k.dp (by omega), Nat.le_trans k.sz (Nat.pow_le_pow_right (by decide) (by omega)), k.ty⟩
theorem kind_ok {h : Nat} {ds : List D} {x : Str} (hx : AB x) (few : ds.length ≤ 3) (hh : h = 0 → ds = []) (all : ∀ d ∈ ds, KindOk (h - 1) d) : KindOk h (.tup [.tup ds, .str x]) := by
  have e1 : (D.tup [.tup ds, .str x]).dp = 1 + max (1 + dps ds) (max 1 0) := rfl
  have e2 : (D.tup [.tup ds, .str x]).sz = 1 + ((1 + szs ds) + (1 + 0)) := rfl
  have a1 : dps ds ≤ 2 * (h - 1) + 2 := dps_max fun d hd => (all d hd).dp
  have a2 : szs ds ≤ ds.length * 4 ^ (h - 1 + 1) := szs_max fun d hd => (all d hd).sz
  refine ⟨⟨by show 2 ≤ 3; decide, ⟨few, Wds.mem.mpr fun d hd => (all d hd).wd⟩, hx, trivial⟩, ?_, ?_, ?_⟩
  · by_cases z : h = 0
    · subst z
      rw [e1, hh rfl]
      decide
    · omega
  · by_cases z : h = 0
    · subst z
      rw [e2, hh rfl]
      decide
    · have e3 : h - 1 + 1 = h := by omega
      rw [e3] at a2
      have a3 : ds.length * 4 ^ h ≤ 3 * 4 ^ h := Nat.mul_le_mul_right _ few
      have a4 : 4 ^ (h + 1) = 4 ^ h * 4 := Nat.pow_succ ..
      have a5 : 4 ≤ 4 ^ h := by
        have := Nat.pow_le_pow_right (n := 4) (by decide) (show 1 ≤ h by omega)
        simpa using this
      omega
  · obtain ⟨ts, rfl⟩ := tys_of fun d hd => (all d hd).ty
    exact ⟨.mk ts x, by rw [Ty.d]⟩
def spKind (n : Nat) : Sp := fun vs H Q _ => ∃ (c a : Addr) (h : Nat), vs = [.ref c, .int h] ∧ h < n ∧ CS a H c ∧ ∀ v d H', Kp [c] H H' → CS a H' c → Dt H' d v → KindOk h d → Q v H'

abbrev s_law_start : Stmt := top 15
abbrev N_law_start : List Str := ["script", "cell"]
theorem sc_law_start : FnScope N_law_start ["script"] (defScope s_law_start) := ⟨rfl, rfl, rfl, by decide +kernel, rfl, by decide +kernel, by decide +kernel⟩
abbrev s_law_kind : Stmt := top 19
abbrev N_law_kind : List Str := ["c", "high", "sort", "many", "k"]
theorem sc_law_kind : FnScope N_law_kind ["c", "high"] (defScope s_law_kind) := ⟨rfl, rfl, rfl, by decide +kernel, rfl, by decide +kernel, by decide +kernel⟩
section
variable {P : Program} {w : World} {K : PySem.W.Frag} {mg : Str → Option Value} {base : Heap}
theorem ok_start (F : Df K mg "_law_start" s_law_start ["script"]) (T : Txt mg) : Cal P w K mg base "_law_start" ["script"] 1 (spStart K) := by
  refine F.ok sc_law_start (fun vs H Q E h => ?_) (fun f cdv A outer s H vs Q E hr h => ?_)
  · obtain ⟨c, ns, rfl, _⟩ := h
    rfl
  obtain ⟨sa, ns, rfl, hS, hl, q⟩ := h
  refine ⟨_, (pss_one (ps_ret (pe_lst (pa_cons (pe_lc (own := [("cell", 1)]) (g := gName 1) rfl sc_law_start.nd (pi_list (pe_slice sl_list (pv 0) po_none (po_some pe_int))) (blkOk_by (N := N_law_start) (sc := defScope s_law_start) (by decide +kernel)) (fun _ _ _ _ _ => (pg_name (i := 1) sc_law_start.nd rfl (Or.inl rfl))) (fun _ _ _ _ _ => pts_nil) (fun _ _ _ _ _ => (pe_callTy call_int1 (by rfl) T.z_int (by decide +kernel) (pa_cons (pv 1) pa_nil)))) (pa_cons pe_int (pa_cons pe_int (pa_cons pe_int (pa_cons pe_int pa_nil)))))))), ?_⟩
  walk_at "rd"
  refine ⟨sa, _, rfl, hS, fun p np => ?_⟩
  obtain ⟨ms, em, lm⟩ := cut_map (f := V.int) ns none (some 63)
  rw [em]
  have k1 : Kp [] H (upd H p (.lst (ms.map V.int))) := (Kp.refl _ _).up np
  refine ⟨p, rfl, ⟨_, SqL.of upd_same⟩, fun L nL => lc_it (walk_list (K := K) (a := p) (xs := ms.map V.int)) (fun i H' => Kp [] (upd H p (.lst (ms.map V.int))) H' ∧ H' L = some (.lst ((ms.take i).map V.int))) ⟨(Kp.refl _ _).up nL, upd_same⟩ (fun i H' _ k => SqL.of (k.1 p _ (fun z => nomatch z) upd_same)) ?_ ?_⟩
  · rintro i y H1 H2 hi ⟨k2, hL⟩ ⟨rfl, hy⟩
    rw [List.getElem?_map] at hy
    obtain ⟨n, hn, rfl⟩ := Option.map_eq_some_iff.mp hy
    walk_at "rd"
    refine ⟨rfl, ?_⟩
    walk_at "rd"
    refine .inl ⟨n, rfl, _, hL, ?_, k2.own nL, ?_⟩
    · rw [List.length_map]
      have := List.length_take_le i ms
      rw [List.length_map] at hi
      exact Nat.lt_of_le_of_lt (show _ ≤ 1000 by omega) (by decide)
    · rw [upd_same, take_one hn, List.map_append]
      rfl
  · rintro H1 ⟨k2, hL⟩
    walk_at "rd"
    refine r_lstN (by simp) fun c H2 k3 _ nc hc => ?_
    rw [List.length_map, List.take_length] at hL
    refine q c L H2 ((k1.trans k2).trans k3) ?_ ?_
    · exact (k1.trans k2).none nc
    · have hL2 := k3 L _ (fun z => nomatch z) hL
      exact ⟨ms, 0, 0, 0, 20, hc, hL2, Int.le_refl _, fun z => by rw [z, nc] at hL; cases hL⟩
theorem ok_kind0 {k n : Nat} (F : Df K mg "_law_kind" s_law_kind ["c", "high"]) (T : Txt mg) (hk : 2 ≤ k) (C_law_take : Cal P w K mg base "_law_take" ["c", "many"] 2 spTake) (C_law_kind : Cal P w K mg base "_law_kind" ["c", "high"] k (spKind n)) :
    Cal P w K mg base "_law_kind" ["c", "high"] (k + 1) (spKind (n + 1)) := by
  replace C_law_take := C_law_take.mono hk
  refine F.ok sc_law_kind (fun vs H Q E h => ?_) (fun f cdv A outer s H vs Q E hr h => ?_)
  · obtain ⟨c, a, h, rfl, _⟩ := h
    rfl
  obtain ⟨c, a, h, rfl, hn, cs, q⟩ := h
  refine ⟨_, (pss_cons (ps_set (i := 2) sc_law_kind.nd rfl (Or.inl rfl) (pe_ix ix_list (pe_lst (pa_cons pe_str (pa_cons pe_str (pa_cons pe_str pa_nil)))) (pe_cal C_law_take hr rfl (pa_cons (pv 0) (pa_cons pe_int pa_nil))) (fun _ _ => rfl)))
      (pss_cons (ps_if (pt_cmpR op_eq (pv 1) pe_int (nomark _)) (pss_one (ps_ret (pe_tup (pa_cons (pe_tup pa_nil) (pa_cons (pv 2) pa_nil))))) pss_nil)
      (pss_cons (ps_set (i := 3) sc_law_kind.nd rfl (Or.inl rfl) (pe_ix ix_list (pe_lst (pa_cons pe_int (pa_cons pe_int (pa_cons pe_int (pa_cons pe_int (pa_cons pe_int pa_nil)))))) (pe_cal C_law_take hr rfl (pa_cons (pv 0) (pa_cons pe_int pa_nil))) (fun _ _ => rfl)))
      (pss_one (ps_ret (pe_tup (pa_cons (pe_callTy call_tuple_of (by rfl) T.z_tuple (by decide +kernel) (pa_cons (pe_lc (own := [("k", 4)]) (g := gName 4) rfl sc_law_kind.nd (pi_range1 rfl T.z_range (pa_cons (pv 3) pa_nil)) (blkOk_by (N := N_law_kind) (sc := defScope s_law_kind) (by decide +kernel)) (fun _ _ _ _ _ => (pg_name (i := 4) sc_law_kind.nd rfl (Or.inl rfl))) (fun _ _ _ _ _ => pts_nil) (fun _ _ _ _ _ => (pe_cal C_law_kind hr rfl (pa_cons (pv 0) (pa_cons (pe_ix (r := rIxL K) ix_list (pe_lst (pa_cons (pe_op op_sub (pv 1) pe_int) (pa_cons pe_int pa_nil))) (pe_callTy call_int1 (by rfl) T.z_int (by decide +kernel) (pa_cons (pe_cmpR op_ne (pe_cal C_law_take hr rfl (pa_cons (pv 0) (pa_cons pe_int pa_nil))) pe_int (nomark _)) pa_nil)) (fun _ _ => rfl)) pa_nil))))) pa_nil)) (pa_cons (pv 2) pa_nil)))))))), ?_⟩
  walk_at "rd"
  refine r_lstN (by decide) fun l1 H1 k1 t1 n1 h1 => ?_
  walk_at "rd"
  refine ⟨c, a, 3, rfl, cs.keep k1, by decide, by decide, fun i H2 lo hi k2 cs2 => ?_⟩
  have ne1 : l1 ≠ c := (cs.ne n1).1
  obtain ⟨v, hv, mv, _⟩ := at_mem (xs := [.str "a", .str "a", .str "b"]) lo hi
  have kc2 : Kp [c] H H2 := (k1.of0).trans k2
  walk_at "rd"
  refine r_ixL (k2 l1 _ (by simpa using ne1) h1) hv ?_
  walk_at "rd"
  obtain ⟨x, rfl, ox⟩ : ∃ x, v = .str x ∧ AB x := by
    simp only [List.mem_cons, List.not_mem_nil, or_false] at mv
    rcases mv with rfl | rfl | rfl
    · exact ⟨_, rfl, .inl rfl⟩
    · exact ⟨_, rfl, .inl rfl⟩
    · exact ⟨_, rfl, .inr rfl⟩
  refine if_2 (fun c1 => ?_) (fun c1 => ?_)
  · have h0 : h = 0 := by
      have := V.int.inj (of_decide_eq_true c1)
      omega
    subst h0
    walk_at "rd"
    refine r_tupN Dts.nil (by decide) fun p1 H3 k3 t3 n3 e3 d3 => ?_
    walk_at "rd"
    refine r_tupN (ds := [.tup [], .str x]) (by walk_at "dt") (by simp) fun p2 H4 k4 t4 n4 e4 d4 => ?_
    walk_at "rd"
    exact q _ _ H4 (kc2.trans (k3.trans k4).of0) (cs2.keep (k3.trans k4)) d4 (kind_ok ox (by decide) (fun _ => rfl) (fun d hd => nomatch hd))
  have h0 : h ≠ 0 := fun z => by
    subst z
    exact absurd rfl (of_decide_eq_false c1)
  walk_at "rd"
  refine r_lstN (by decide) fun l2 H3 k3 t3 n3 e3 => ?_
  walk_at "rd"
  refine ⟨c, a, 5, rfl, cs2.keep k3, by decide, by decide, fun j H4 lo2 hi2 k4 cs4 => ?_⟩
  have ne2 : l2 ≠ c := (cs2.ne n3).1
  obtain ⟨v2, hv2, mv2, _⟩ := at_mem (xs := [.int 0, .int 1, .int 1, .int 2, .int 3]) lo2 hi2
  have kc4 : Kp [c] H H4 := (kc2.trans k3.of0).trans k4
  walk_at "rd"
  refine r_ixL (k4 l2 _ (by simpa using ne2) e3) hv2 ?_
  walk_at "rd"
  obtain ⟨m, rfl, om⟩ : ∃ m : Nat, v2 = .int m ∧ m ≤ 3 := by
    simp only [List.mem_cons, List.not_mem_nil, or_false] at mv2
    rcases mv2 with rfl | rfl | rfl | rfl | rfl
    · exact ⟨0, rfl, by decide⟩
    · exact ⟨1, rfl, by decide⟩
    · exact ⟨1, rfl, by decide⟩
    · exact ⟨2, rfl, by decide⟩
    · exact ⟨3, rfl, by decide⟩
  refine ⟨_, rfl, by omega, by omega, fun L nL => lc_it walk_range (fun i H' => ∃ ys ds, H' L = some (.lst ys) ∧ Dts H' ds ys ∧ ds.length = i ∧ Kp [c] H4 H' ∧ CS a H' c ∧ ∀ d ∈ ds, KindOk (h - 1) d)
    ⟨[], [], upd_same, rfl, rfl, (Kp.refl _ _).up nL, cs4.keep ((Kp.refl _ _).up nL), fun d hd => nomatch hd⟩ (fun _ _ _ _ => trivial) ?_ ?_⟩
  · rintro i y H0 H5 hi5 ⟨ys, ds, eL, hds, ldn, k5, cs5, all⟩ ⟨rfl, rfl⟩
    have neL : L ≠ c := (cs4.ne nL).1
    walk_at "rd"
    refine ⟨rfl, ?_⟩
    walk_at "rd"
    refine r_lstN (by simp) fun l3 H6 k6 t6 n6 e6 => ?_
    walk_at "rd"
    refine ⟨c, a, 3, rfl, cs5.keep k6, by decide, by decide, fun g H7 lo3 hi3 k7 cs7 => ?_⟩
    have ne3 : l3 ≠ c := (cs5.ne n6).1
    walk_at "rd"
    refine .inr ⟨_, rfl, ?_⟩
    obtain ⟨g2, hg2, lg2⟩ : ∃ g2 : Nat, atI [V.int ((h : Int) - 1), .int 0] (if (!decide (V.int g = V.int 0)) = true then 1 else 0) = some (.int (g2 : Nat)) ∧ g2 ≤ h - 1 := by
      cases (!decide (V.int g = V.int 0)) with
      | true => exact ⟨0, rfl, Nat.zero_le _⟩
      | false => exact ⟨h - 1, by show some (V.int ((h : Int) - 1)) = _; rw [show ((h : Int) - 1) = ((h - 1 : Nat) : Int) by omega], Nat.le_refl _⟩
    refine r_ixL (k7 l3 _ (by simpa using ne3) e6) hg2 ?_
    walk_at "rd"
    refine ⟨c, a, g2, rfl, by omega, cs7, fun v8 d8 H8 k8 cs8 hd8 ok8 => ?_⟩
    have kk : Kp [c] H5 H8 := (k6.of0.trans k7).trans k8
    have eL8 : H8 L = some (.lst ys) := kk L _ (by simpa using neL) eL
    have tt : KeepT H5 H8 := cs5.t kk
    refine ⟨ys, eL8, ?_, ys ++ [v8], ds ++ [d8], upd_same, ?_, ?_, ?_, ?_, ?_⟩
    · have := hds.len
      exact Nat.lt_of_le_of_lt (show _ ≤ 1000 by omega) (by decide)
    · exact Dts.mono (fun p xs z => by rw [upd_ne (ne_of z eL8 (fun q => by cases q))]; exact z) ((hds.mono tt).snoc hd8)
    · rw [List.length_append, ldn]
      rfl
    · exact (k5.trans kk).own nL
    · exact cs8.own (cs4.ne nL)
    · intro d hd
      rcases List.mem_append.mp hd with hd | hd
      · exact all d hd
      · rw [List.mem_singleton.mp hd]
        exact ok8.up lg2
  · rintro H5 ⟨ys, ds, eL, hds, ldn, k5, cs5, all⟩
    walk_at "rd"
    refine ⟨L, ys, rfl, .inl ⟨SqL.of eL, fun l nl => ?_⟩⟩
    obtain ⟨k6, t6, d6⟩ := new_tup nl hds
    walk_at "rd"
    refine r_tupN (ds := [.tup ds, .str x]) (by walk_at "dt") (by simp) fun p2 H7 k7 t7 n7 e7 d7 => ?_
    walk_at "rd"
    have few : ds.length ≤ 3 := by
      rw [ldn]
      omega
    exact q _ _ H7 ((kc4.trans k5).trans (k6.trans k7).of0) (cs5.keep (k6.trans k7)) d7 (kind_ok ox few (fun z => absurd z h0) all)
end
end K02
end

section
/-! The law's own is_int, needed, is_term. -/
namespace K02
open PySem L2 PyProof.Rows PySem.Spec Lc
variable [Lc.Tbs]
local macro_rules | `(tactic| walk_at "rd") => `(tactic| repeat (first
  | with_reducible refine r_seq ?_ | with_reducible refine r_mknx ?_ | with_reducible refine r_mkrt ?_ | with_reducible refine r_asg ?_ | with_reducible refine r_name ?_ | with_reducible refine r_next ?_
  | with_reducible refine r_drop ?_ | with_reducible refine r_ret ?_ | with_reducible refine r_if ?_
  | ((with_reducible refine' r_var ?e ?_); (case e => rfl)) | with_reducible refine r_c ?_ | with_reducible refine r_op ?_ | with_reducible refine r_un ?_ | with_reducible refine r_test ?_ | with_reducible refine r_tb ?_
  | with_reducible refine r_and ?_ | with_reducible refine r_or ?_ | with_reducible refine r_not ?_ | with_reducible refine r_andV ?_ | with_reducible refine r_orV ?_ | with_reducible refine r_notV ?_ | with_reducible refine r_bl ?_
  | with_reducible refine r_cb ?_ | with_reducible refine r_cons ?_ | with_reducible refine r_nil ?_ | with_reducible refine r_tup ?_ | with_reducible refine r_lst ?_ | with_reducible refine r_call ?_
  | with_reducible refine r_i0 ?_ | with_reducible refine r_par ?_ | with_reducible refine r_two ?_ | with_reducible refine r_lc ?_ | with_reducible refine r_iL ?_ | with_reducible refine r_iT ?_ | with_reducible refine r_iS ?_ | with_reducible refine r_i1 ?_ | with_reducible refine r_yes ?_ | with_reducible refine r_chain ?_ | with_reducible refine if_t rfl ?_ | with_reducible refine if_f rfl ?_ | with_reducible refine r_nt ?_ | ((with_reducible refine r_eq ?e ?_); (case e => rfl)) | ((with_reducible refine r_ne ?e ?_); (case e => rfl))
  | with_reducible refine r_sub ?_ | with_reducible refine r_sl ?_ | with_reducible refine r_nopart ?_ | with_reducible refine r_part ?_ | with_reducible refine r_int ?_ | with_reducible refine r_bm ?_ | with_reducible refine r_bm0 ?_ | with_reducible refine r_gcons ?_ | with_reducible refine r_gnil ?_ | with_reducible refine r_dget1 ?_ | with_reducible refine r_dget2 ?_))


local macro_rules | `(tactic| walk_at "dt") => `(tactic| repeat' (first | (show Dt _ _ _; assumption) | exact dt_str | exact dt_int | exact dt_bl | exact dt_non | exact Dts.nil | refine' Dts.cons ?_ ?_ | (refine' Dt.mono ?kk ?_; (case kk => assumption)) | fail))
local macro_rules | `(tactic| walk_at "at") => `(tactic| repeat (first | assumption | (refine' Kp.ge ?kk ?nn ?_; (case kk => assumption); (case nn => intro _ z; cases z)) | fail))
local macro_rules | `(tactic| walk_at "kp") => `(tactic| repeat (first | assumption | exact Kp.refl _ _ | (refine' Kp.trans ?_ ?kk; (case kk => assumption)) | fail))
local macro_rules | `(tactic| walk_at "tup") => `(tactic| (refine' r_tupN ?h ?f ?k; (case h => walk_at "dt"); (case f => simp); skip))
def intD : D → Bool
  | .int _ => true
  | _ => false
def spIsInt : Sp := fun vs H Q _ => ∃ v d, vs = [v] ∧ Dt H d v ∧ ∀ H', Kp [] H H' → Q (.bl (intD d)) H'
def spNeeded : Sp := fun vs H Q _ => ∃ sv hv ov v sg hs own d W W2, vs = [sv, hv, ov, v] ∧ SgV H sg sv ∧ SgOk W sg ∧ sg.length ≤ 1000 ∧ Dt H (.tup (tyds hs)) hv ∧ Dt H (.tup (tyds own)) ov ∧ Dt H d v ∧ Wd Tx W2 d ∧
  ∀ r H', Kp [] H H' → (match hdB sg hs own d with | none => r = .non | some t => Dt H' t.d r) → Q r H'
def spIsTermL (n : Nat) : Sp := fun vs H Q _ => ∃ sv hv pv kv v sg hs own k d W, vs = [sv, hv, pv, kv, v] ∧ SgV H sg sv ∧ SgOk W sg ∧ sg.length ≤ 1000 ∧ Dt H (.tup (tyds hs)) hv ∧ TysOk W hs ∧ Dt H (.tup (tyds own)) pv ∧ TysOk W own ∧
  Dt H k.d kv ∧ k.Ok W ∧ Dt H d v ∧ Wd Tx 1000000 d ∧ d.sz ≤ 1000000 ∧ W ≤ 1000 ∧ own.length + W * d.dp ≤ 9000 ∧ d.dp < n ∧ ∀ H', Kp [] H H' → Q (.bl (tmB sg hs own k d)) H'
abbrev s_law_is_int : Stmt := top 22
abbrev N_law_is_int : List Str := ["value"]
theorem sc_law_is_int : FnScope N_law_is_int ["value"] (defScope s_law_is_int) := ⟨rfl, rfl, rfl, by decide +kernel, rfl, by decide +kernel, by decide +kernel⟩
abbrev s_law_needed : Stmt := top 23
abbrev N_law_needed : List Str := ["signature", "holes", "own", "head"]
theorem sc_law_needed : FnScope N_law_needed ["signature", "holes", "own", "head"] (defScope s_law_needed) := ⟨rfl, rfl, rfl, by decide +kernel, rfl, by decide +kernel, by decide +kernel⟩
abbrev s_law_is_term : Stmt := top 24
abbrev N_law_is_term : List Str := ["signature", "holes", "prefix", "kind", "value", "own", "needed", "j"]
theorem sc_law_is_term : FnScope N_law_is_term ["signature", "holes", "prefix", "kind", "value"] (defScope s_law_is_term) := ⟨rfl, rfl, rfl, by decide +kernel, rfl, by decide +kernel, by decide +kernel⟩
section
variable {P : Program} {w : World} {K : PySem.W.Frag} {mg : Str → Option Value} {base : Heap}
theorem ok_law_is_int (F : Df K mg "_law_is_int" s_law_is_int ["value"]) (T : Txt mg) : Cal P w K mg base "_law_is_int" ["value"] 1 spIsInt := by
  refine F.ok sc_law_is_int (fun vs H Q E h => ?_) (fun f cdv A outer s H vs Q E hr h => ?_)
  · obtain ⟨v, d, rfl, _⟩ := h
    rfl
  obtain ⟨v, d, rfl, hd, q⟩ := h
  refine ⟨_, (pss_one (ps_ret (pe_and (pe_callB call_isi (by rfl) T.z_isinstance (by decide +kernel) (pa_cons (pv 0) (pa_cons (pe_bty (T := "int") (by rfl) T.z_int (by decide +kernel)) pa_nil))) (pe_one (pe_not (pe_callB call_isi (by rfl) T.z_isinstance (by decide +kernel) (pa_cons (pv 0) (pa_cons (pe_bty (T := "bool") (by rfl) T.z_bool (by decide +kernel)) pa_nil)))))))), ?_⟩
  walk_at "rd"
  refine r_isI hd ?_
  walk_at "rd"
  refine if_2 (fun c => ?_) (fun c => ?_)
  · walk_at "rd"
    refine r_isB hd ?_
    walk_at "rd"
    have e : intD d = !d.isB := by cases d <;> first | rfl | cases c
    exact e ▸ q H (Kp.refl _ _)
  · walk_at "rd"
    have e : intD d = false := by cases d <;> first | rfl | cases c
    exact e ▸ q H (Kp.refl _ _)
theorem ok_needed (F : Df K mg "_law_needed" s_law_needed ["signature", "holes", "own", "head"]) (T : Txt mg) (C_law_is_int : Cal P w K mg base "_law_is_int" ["value"] 1 spIsInt) :
    Cal P w K mg base "_law_needed" ["signature", "holes", "own", "head"] 2 spNeeded := by
  refine F.ok sc_law_needed (fun vs H Q E h => ?_) (fun f cdv A outer s H vs Q E hr h => ?_)
  · obtain ⟨sv, hv, ov, v, sg, hs, own, d, W, W2, rfl, _⟩ := h
    rfl
  obtain ⟨sv, hv, ov, v, sg, hs, own, d, W, W2, rfl, hsg, osg, fsg, hh, ho, hd, hw, q⟩ := h
  refine ⟨_, (pss_cons (ps_if (PW.pt (pw_or (pt_not (pt_val (pe_callB call_isi (by rfl) T.z_isinstance (by decide +kernel) (pa_cons (pv 3) (pa_cons (pe_bty (T := "tuple") (by rfl) T.z_tuple (by decide +kernel)) pa_nil))))) (pw_or1 (pt_cmpR op_ne (pe_callB call_len_seq (by rfl) T.z_len (by decide +kernel) (pa_cons (pv 3) pa_nil)) pe_int (nomark _))))) (pss_one (ps_ret pe_non)) pss_nil)
      (pss_cons (ps_if (PW.pt (pw_and (pt_cmpR (op_eqA (n := 150) (u150 hr)) (pe_ix ix_tup (pv 3) pe_int (fun _ _ => rfl)) pe_str (nomark _)) (pw_and1 (pt_val (pe_callB call_isi (by rfl) T.z_isinstance (by decide +kernel) (pa_cons (pe_ix ix_tup (pv 3) pe_int (fun _ _ => rfl)) (pa_cons (pe_bty (T := "str") (by rfl) T.z_str (by decide +kernel)) pa_nil))))))) (pss_one (ps_ret (pe_dget2 (u1 hr) (pe_callTy (call_dictTup rfl) (by rfl) T.z_dict (by decide +kernel) (pa_cons (pv 0) pa_nil)) (pe_ix ix_tup (pv 3) pe_int (fun _ _ => rfl)) pe_non ⟨rfl, rfl, rfl, rfl⟩))) pss_nil)
      (Evl.pss_cut (ps_if (PW.pt (pw_and (pt_cmpR (op_eqA (n := 150) (u150 hr)) (pe_ix ix_tup (pv 3) pe_int (fun _ _ => rfl)) pe_str (nomark _)) (pw_and (pt_val (pe_cal C_law_is_int hr rfl (pa_cons (pe_ix ix_tup (pv 3) pe_int (fun _ _ => rfl)) pa_nil))) (pw_and (pt_cmpR op_ge (pe_ix ix_tup (pv 3) pe_int (fun _ _ => rfl)) pe_int (nomark _)) (pw_and1 (pt_cmpR op_lt (pe_ix ix_tup (pv 3) pe_int (fun _ _ => rfl)) (pe_callB call_len_seq (by rfl) T.z_len (by decide +kernel) (pa_cons (pv 2) pa_nil)) (nomark _))))))) (pss_one (ps_ret (pe_ix ix_tup (pv 2) (pe_op op_sub (pe_op op_sub (pe_callB call_len_seq (by rfl) T.z_len (by decide +kernel) (pa_cons (pv 2) pa_nil)) pe_int) (pe_ix ix_tup (pv 3) pe_int (fun _ _ => rfl))) (fun _ _ => rfl)))) pss_nil)
      (Evl.pss_cut (ps_if (PW.pt (pw_and (pt_cmpR (op_eqA (n := 150) (u150 hr)) (pe_ix ix_tup (pv 3) pe_int (fun _ _ => rfl)) pe_str (nomark _)) (pw_and (pt_val (pe_cal C_law_is_int hr rfl (pa_cons (pe_ix ix_tup (pv 3) pe_int (fun _ _ => rfl)) pa_nil))) (pw_and (pt_cmpR op_ge (pe_ix ix_tup (pv 3) pe_int (fun _ _ => rfl)) pe_int (nomark _)) (pw_and1 (pt_cmpR op_lt (pe_ix ix_tup (pv 3) pe_int (fun _ _ => rfl)) (pe_callB call_len_seq (by rfl) T.z_len (by decide +kernel) (pa_cons (pv 1) pa_nil)) (nomark _))))))) (pss_one (ps_ret (pe_ix ix_tup (pv 1) (pe_ix ix_tup (pv 3) pe_int (fun _ _ => rfl)) (fun _ _ => rfl)))) pss_nil)
      (pss_one (ps_ret pe_non)))))), ?_⟩
  walk_at "rd"
  refine r_isT hd ?_
  walk_at "rd"
  have none_of : (∀ s m, d ≠ .tup [s, m]) → hdB sg hs own d = none := fun n => by
    unfold hdB
    split
    · exact absurd rfl (n _ _)
    · rfl
  refine if_2 (fun c => ?_) (fun c => ?_)
  · walk_at "rd"
    have e := none_of fun s m z => by
      subst z
      cases c
    exact q _ H (Kp.refl _ _) (by rw [e])
  obtain ⟨ds, rfl⟩ := D.tup_of (by simpa using c)
  obtain ⟨a, xs, rfl, ha, hsm⟩ := hd.tup
  walk_at "rd"
  refine ⟨a, xs, rfl, .inr (SqT.of ha), ?_⟩
  walk_at "rd"
  refine if_2 (fun cc2 => ?_) (fun cc2 => ?_)
  · walk_at "rd"
    have e := none_of fun s m z => by
      cases z
      rw [hsm.len] at cc2
      cases cc2
    exact q _ H (Kp.refl _ _) (by rw [e])
  obtain ⟨s, m, rfl⟩ : ∃ x y, ds = [x, y] := by
    have c' : V.int (xs.length : Nat) = V.int 2 := by simpa using cc2
    have c3 := V.int.inj c'
    rw [hsm.len] at c3
    match ds, c3 with
    | [x, y], _ => exact ⟨x, y, rfl⟩
    | [], l => simp at l
    | [_], l => simp at l
    | _ :: _ :: _ :: _, l => simp at l; omega
  replace q : ∀ r H', Kp [] H H' → (match hkB sg hs own s m with | none => r = .non | some t => Dt H' t.d r) → Q r H' := q
  obtain ⟨vs, r1, rfl, hvs, vm, r2, rfl, hm, rfl⟩ := hsm
  obtain ⟨ah, hx, rfl, hah, hhs⟩ := hh.tup
  obtain ⟨ao, ox, rfl, hao, hos⟩ := ho.tup
  have lh : hx.length = hs.length := by rw [hhs.len, tyds_len]
  have lo : ox.length = own.length := by rw [hos.len, tyds_len]
  have ws : Wd Tx W2 s := hw.2.1
  walk_at "rd"
  refine r_ixT ha rfl ?_
  walk_at "rd"
  refine ⟨s, .str "c", W2, hvs, rfl, ws, (by decide +kernel : Tx "c"), Nat.le_trans (Nat.min_le_right _ _) (by decide), ?_⟩
  walk_at "rd"
  refine if_and2 (c := m.isS) (fun c1 z => ?_) (fun c1 c2 => ?_) (fun c1 => ?_)
  · walk_at "rd"
    refine r_ixT ha rfl ?_
    walk_at "rd"
    refine r_isS hm ?_
    walk_at "rd"
    exact z
  · obtain ⟨x, rfl⟩ := D.str_of c2
    cases hm.str
    walk_at "rd"
    refine r_dict hsg osg fsg fun pc H1 k1 t1 n1 hc1 => ?_
    obtain ⟨kvs, hkv, hget⟩ := hc1
    refine ⟨pc, rfl, .inl ⟨kvs, Rd.of hkv⟩, ?_⟩
    walk_at "rd"
    refine r_ixT (k1.get ha) rfl ?_
    walk_at "rd"
    refine ⟨valV kvs (.inr x), DGet.k (k := .inr x) hkv, q _ H1 k1 ?_⟩
    have e : hkB sg hs own s (.str x) = sgGet sg x := by
      unfold hkB
      rw [c1]
      rfl
    rw [e]
    have g := hget x
    cases z : sgGet sg x with
    | none => rw [z] at g; rw [g]; rfl
    | some t =>
      rw [z] at g
      obtain ⟨v, g1, g2⟩ := g
      rw [g1]
      exact g2
  have e1 : hkB sg hs own s m = hkM hs own s m := by
    unfold hkB
    rw [if_neg (by rw [c1]; decide)]
  walk_at "rd"
  refine r_cut (fun σ H' => σ = [some sv, some (.ref ah), some (.ref ao), some (.ref a)] ∧ Kp [] H H' ∧ ¬ (∃ i, m = .int i ∧ 0 ≤ i ∧ (eqD s (.str "b") && decide (i < own.length)) = true)) ?_ ?_
  · walk_at "rd"
    refine r_ixT ha rfl ?_
    walk_at "rd"
    refine ⟨s, .str "b", W2, hvs, rfl, ws, (by decide +kernel : Tx "b"), Nat.le_trans (Nat.min_le_right _ _) (by decide), ?_⟩
    walk_at "rd"
    refine if_2 (fun c2 => ?_) (fun c2 => ?_)
    · walk_at "rd"
      refine r_ixT ha rfl ?_
      walk_at "rd"
      refine ⟨vm, m, rfl, hm, fun H1 k1 => ?_⟩
      walk_at "rd"
      have ha1 := k1.get ha
      refine if_2 (fun c3 => ?_) (fun c3 => ?_)
      · obtain ⟨i, rfl⟩ : ∃ i, m = .int i := by cases m <;> first | exact ⟨_, rfl⟩ | cases c3
        cases hm.int
        walk_at "rd"
        refine r_ixT ha1 rfl ?_
        walk_at "rd"
        refine if_2 (fun c4 => ?_) (fun c4 => ?_)
        · have i0 := of_decide_eq_true c4
          walk_at "rd"
          refine r_ixT ha1 rfl ?_
          walk_at "rd"
          refine ⟨ao, ox, rfl, .inr (SqT.of (k1.get hao)), ?_⟩
          walk_at "rd"
          rw [lo]
          refine if_2 (fun c5 => ?_) (fun c5 => ?_)
          · have il := of_decide_eq_true c5
            walk_at "rd"
            refine ⟨ao, ox, rfl, .inr (SqT.of (k1.get hao)), ?_⟩
            walk_at "rd"
            refine r_ixT ha1 rfl ?_
            walk_at "rd"
            have e2 : hkB sg hs own s (.int i) = own[own.length - 1 - i.toNat]? := by
              rw [e1, hkM_int, if_neg (by omega)]
              unfold hkI
              rw [c2, c5]
              rfl
            have lt : own.length - 1 - i.toNat < own.length := by omega
            rw [List.getElem?_eq_getElem lt] at e2
            obtain ⟨x, hx, hd⟩ := (hos.mono k1.t0).of (tyds_at (List.getElem?_eq_getElem lt))
            have z := atI_nat hx
            have iz : ((own.length - 1 - i.toNat : Nat) : Int) = (ox.length : Int) - 1 - i := by omega
            rw [iz] at z
            refine r_ixT (k1.get hao) z (q _ H1 k1 ?_)
            rw [e2]
            exact hd
          · walk_at "rd"
            refine ⟨rfl, k1, ?_⟩
            rintro ⟨j, ej, _, z⟩
            cases ej
            rw [c5, Bool.and_false] at z
            cases z
        · have i0 := of_decide_eq_false c4
          walk_at "rd"
          refine ⟨rfl, k1, ?_⟩
          rintro ⟨j, ej, z, _⟩
          cases ej
          exact i0 z
      · walk_at "rd"
        refine ⟨rfl, k1, ?_⟩
        rintro ⟨j, ej, _⟩
        subst ej
        cases c3
    · walk_at "rd"
      refine ⟨rfl, Kp.refl _ _, ?_⟩
      rintro ⟨j, ej, _, z⟩
      rw [c2, Bool.false_and] at z
      cases z
  rintro _ H1 ⟨rfl, k1, nb⟩
  have ha1 := k1.get ha
  refine r_cut (fun σ H' => Kp [] H H' ∧ ¬ (∃ i, m = .int i ∧ 0 ≤ i ∧ (eqD s (.str "h") && decide (i < hs.length)) = true)) ?_ ?_
  · walk_at "rd"
    refine r_ixT ha1 rfl ?_
    walk_at "rd"
    refine ⟨s, .str "h", W2, hvs.mono k1.t0, rfl, ws, (by decide +kernel : Tx "h"), Nat.le_trans (Nat.min_le_right _ _) (by decide), ?_⟩
    walk_at "rd"
    refine if_2 (fun c2 => ?_) (fun c2 => ?_)
    · walk_at "rd"
      refine r_ixT ha1 rfl ?_
      walk_at "rd"
      refine ⟨vm, m, rfl, hm.mono k1.t0, fun H2 k2 => ?_⟩
      walk_at "rd"
      have k02 := k1.trans k2
      have ha2 := k02.get ha
      refine if_2 (fun c3 => ?_) (fun c3 => ?_)
      · obtain ⟨i, rfl⟩ : ∃ i, m = .int i := by cases m <;> first | exact ⟨_, rfl⟩ | cases c3
        cases hm.int
        walk_at "rd"
        refine r_ixT ha2 rfl ?_
        walk_at "rd"
        refine if_2 (fun c4 => ?_) (fun c4 => ?_)
        · have i0 := of_decide_eq_true c4
          walk_at "rd"
          refine r_ixT ha2 rfl ?_
          walk_at "rd"
          refine ⟨ah, hx, rfl, .inr (SqT.of (k02.get hah)), ?_⟩
          walk_at "rd"
          rw [lh]
          refine if_2 (fun c5 => ?_) (fun c5 => ?_)
          · have il := of_decide_eq_true c5
            walk_at "rd"
            refine r_ixT ha2 rfl ?_
            walk_at "rd"
            have nb2 : ¬ (eqD s (.str "b") && decide (i < own.length)) = true := fun z => nb ⟨i, rfl, i0, z⟩
            have e2 : hkB sg hs own s (.int i) = hs[i.toNat]? := by
              rw [e1, hkM_int, if_neg (by omega)]
              unfold hkI
              rw [if_neg nb2, c2, c5]
              rfl
            have lt : i.toNat < hs.length := by omega
            rw [List.getElem?_eq_getElem lt] at e2
            obtain ⟨x, hx, hd⟩ := (hhs.mono k02.t0).ix i0 (tyds_at (List.getElem?_eq_getElem lt))
            refine r_ixT (k02.get hah) hx (q _ H2 k02 ?_)
            rw [e2]
            exact hd
          · walk_at "rd"
            refine ⟨k02, ?_⟩
            rintro ⟨j, ej, _, z⟩
            cases ej
            rw [c5, Bool.and_false] at z
            cases z
        · have i0 := of_decide_eq_false c4
          walk_at "rd"
          refine ⟨k02, ?_⟩
          rintro ⟨j, ej, z, _⟩
          cases ej
          exact i0 z
      · walk_at "rd"
        refine ⟨k02, ?_⟩
        rintro ⟨j, ej, _⟩
        subst ej
        cases c3
    · walk_at "rd"
      refine ⟨k1, ?_⟩
      rintro ⟨j, ej, _, z⟩
      rw [c2, Bool.false_and] at z
      cases z
  rintro _ H2 ⟨k2, nh⟩
  walk_at "rd"
  refine q _ H2 k2 ?_
  have e : hkB sg hs own s m = none := by
    rw [e1]
    unfold hkM
    split
    · next i =>
      split
      · rfl
      · next i0 =>
        unfold hkI
        rw [if_neg (fun z => nb ⟨i, rfl, by omega, z⟩), if_neg (fun z => nh ⟨i, rfl, by omega, z⟩)]
    · rfl
  rw [e]
theorem ok_law_is_term0 {k n : Nat} (F : Df K mg "_law_is_term" s_law_is_term ["signature", "holes", "prefix", "kind", "value"]) (T : Txt mg) (hk : 2 ≤ k) (C_law_is_int : Cal P w K mg base "_law_is_int" ["value"] 1 spIsInt)
    (C_law_needed : Cal P w K mg base "_law_needed" ["signature", "holes", "own", "head"] 2 spNeeded) (C_law_is_term : Cal P w K mg base "_law_is_term" ["signature", "holes", "prefix", "kind", "value"] k (spIsTermL n)) :
    Cal P w K mg base "_law_is_term" ["signature", "holes", "prefix", "kind", "value"] (k + 1) (spIsTermL (n + 1)) := by
  replace C_law_is_int := C_law_is_int.mono (show 1 ≤ k by omega)
  replace C_law_needed := C_law_needed.mono hk
  refine F.ok sc_law_is_term (fun vs H Q E h => ?_) (fun f cdv A outer s H vs Q E hr h => ?_)
  · obtain ⟨sv, hv, pv, kv, v, sg, hs, own, k, d, W, rfl, _⟩ := h
    rfl
  obtain ⟨sv, hv, xv, kv, v, sg, hs, own, kd, d, W, rfl, hsg, osg, fsg, hh, oh, hp, op, hkd, okk, hd, wd, zd, hW, far, dn, q⟩ := h
  obtain ⟨as, srt⟩ := kd
  refine ⟨_, (pss_cons (ps_if (PW.pt (pw_or (pt_not (pt_val (pe_callB call_isi (by rfl) T.z_isinstance (by decide +kernel) (pa_cons (pv 4) (pa_cons (pe_bty (T := "tuple") (by rfl) T.z_tuple (by decide +kernel)) pa_nil))))) (pw_or (pt_cmpR op_ne (pe_callB call_len_seq (by rfl) T.z_len (by decide +kernel) (pa_cons (pv 4) pa_nil)) pe_int (nomark _)) (pw_or (pt_not (pt_val (pe_cal C_law_is_int hr rfl (pa_cons (pe_ix ix_tup (pv 4) pe_int (fun _ _ => rfl)) pa_nil)))) (pw_or1 (pt_cmpR op_ne (pe_ix ix_tup (pv 4) pe_int (fun _ _ => rfl)) (pe_callB call_len_seq (by rfl) T.z_len (by decide +kernel) (pa_cons (pe_ix ix_tup (pv 3) pe_int (fun _ _ => rfl)) pa_nil)) (nomark _))))))) (pss_one (ps_ret pe_bl)) pss_nil)
      (pss_cons (ps_set (i := 5) sc_law_is_term.nd rfl (Or.inr rfl) (pe_op op_catA (pv 2) (pe_ix ix_tup (pv 3) pe_int (fun _ _ => rfl))))
      (pss_cons (ps_set (i := 6) sc_law_is_term.nd rfl (Or.inr rfl) (pe_cal C_law_needed hr rfl (pa_cons (pv 0) (pa_cons (pv 1) (pa_cons (pv 5) (pa_cons (pe_ix ix_tup (pv 4) pe_int (fun _ _ => rfl)) pa_nil))))))
      (pss_cons (ps_if (PW.pt (pw_or (pt_cmpR op_isN (pv 6) pe_non (nomark _)) (pw_or (pt_cmpR op_ne (pe_ix ix_tup (pv 6) pe_int (fun _ _ => rfl)) (pe_ix ix_tup (pv 3) pe_int (fun _ _ => rfl)) (nomark _)) (pw_or (pt_not (pt_val (pe_callB call_isi (by rfl) T.z_isinstance (by decide +kernel) (pa_cons (pe_ix ix_tup (pv 4) pe_int (fun _ _ => rfl)) (pa_cons (pe_bty (T := "tuple") (by rfl) T.z_tuple (by decide +kernel)) pa_nil))))) (pw_or1 (pt_cmpR op_ne (pe_callB call_len_seq (by rfl) T.z_len (by decide +kernel) (pa_cons (pe_ix ix_tup (pv 4) pe_int (fun _ _ => rfl)) pa_nil)) (pe_callB call_len_seq (by rfl) T.z_len (by decide +kernel) (pa_cons (pe_ix ix_tup (pv 6) pe_int (fun _ _ => rfl)) pa_nil)) (nomark _))))))) (pss_one (ps_ret pe_bl)) pss_nil)
      (pss_one (ps_ret (pe_callB (cr_all rfl) (by rfl) T.z_all (by decide +kernel) (pa_cons (pe_lc (own := [("j", 7)]) (g := gName 7) rfl sc_law_is_term.nd (pi_range1 rfl T.z_range (pa_cons (pe_callB call_len_seq (by rfl) T.z_len (by decide +kernel) (pa_cons (pe_ix ix_tup (pv 6) pe_int (fun _ _ => rfl)) pa_nil)) pa_nil)) (blkOk_by (N := N_law_is_term) (sc := defScope s_law_is_term) (by decide +kernel)) (fun _ _ _ _ _ => (pg_name (i := 7) sc_law_is_term.nd rfl (Or.inl rfl))) (fun _ _ _ _ _ => pts_nil) (fun _ _ _ _ _ => (pe_cal C_law_is_term hr rfl (pa_cons (pv 0) (pa_cons (pv 1) (pa_cons (pv 5) (pa_cons (pe_ix (r := rIxT K) ix_tup (pe_ix (r := rIxT K) ix_tup (pv 6) pe_int (fun _ _ => rfl)) (pv 7) (fun _ _ => rfl)) (pa_cons (pe_ix (r := rIxT K) ix_tup (pe_ix (r := rIxT K) ix_tup (pv 4) pe_int (fun _ _ => rfl)) (pv 7) (fun _ _ => rfl)) pa_nil)))))))) pa_nil)))))))), ?_⟩
  walk_at "rd"
  refine r_isT hd ?_
  walk_at "rd"
  have no : formB as.length d = false → tmB sg hs own (.mk as srt) d = false := fun z => tmB_form (k := .mk as srt) z
  refine if_2 (fun c => ?_) (fun c => ?_)
  · walk_at "rd"
    have e := no (by cases d <;> first | rfl | cases c)
    exact e ▸ q H (Kp.refl _ _)
  obtain ⟨ds, rfl⟩ := D.tup_of (by simpa using c)
  obtain ⟨a, xs, rfl, ha, hds⟩ := hd.tup
  walk_at "rd"
  refine ⟨a, xs, rfl, .inr (SqT.of ha), ?_⟩
  walk_at "rd"
  refine if_2 (fun cc => ?_) (fun cc => ?_)
  · walk_at "rd"
    have e := no (by
      cases z : formB as.length (.tup ds) with
      | false => rfl
      | true =>
        have l := formB_len z
        rw [hds.len, l] at cc
        cases cc)
    exact e ▸ q H (Kp.refl _ _)
  obtain ⟨d1, d2, d3, rfl⟩ : ∃ d1 d2 d3, ds = [d1, d2, d3] := by
    have c1 : V.int (xs.length : Nat) = V.int 3 := by simpa using cc
    have c' := V.int.inj c1
    rw [hds.len] at c'
    match ds, c' with
    | [x, y, z], _ => exact ⟨x, y, z, rfl⟩
    | [], l => simp at l
    | [_], l => simp at l
    | [_, _], l => simp at l
    | _ :: _ :: _ :: _ :: _, l => simp at l; omega
  obtain ⟨v1, r1, rfl, h1, v2, r2, rfl, h2, v3, r3, rfl, h3, rfl⟩ := hds
  rw [Ty.d] at hkd
  obtain ⟨ak, xk, rfl, hak, va, r2, rfl, hva, vs2, r3, rfl, hvs2, rfl⟩ := hkd
  cases hvs2.str
  obtain ⟨a3, x3, rfl, ha3, hs3⟩ := hva
  have l3 : x3.length = as.length := by rw [hs3.len, tyds_len]
  walk_at "rd"
  refine r_ixT ha rfl ?_
  walk_at "rd"
  refine ⟨v1, d1, rfl, h1, fun H1 k1 => ?_⟩
  walk_at "rd"
  refine if_2 (fun c1 => ?_) (fun c1 => ?_)
  · walk_at "rd"
    have e := no (by cases d1 <;> first | rfl | cases c1)
    exact e ▸ q H1 k1
  obtain ⟨i, rfl⟩ : ∃ i, d1 = .int i := by cases d1 <;> first | exact ⟨_, rfl⟩ | cases c1
  cases h1.int
  walk_at "rd"
  refine r_ixT (k1.get ha) rfl ?_
  walk_at "rd"
  refine r_ixT (k1.get hak) rfl ?_
  walk_at "rd"
  refine ⟨a3, x3, rfl, .inr (SqT.of (k1.get ha3)), ?_⟩
  walk_at "rd"
  rw [l3]
  refine if_2 (fun c4 => ?_) (fun c4 => ?_)
  · walk_at "rd"
    have ne : i ≠ (as.length : Nat) := fun z => by rw [z] at c4; simp at c4
    have e := no (by cases d3 <;> first | rfl | exact decide_eq_false ne)
    exact e ▸ q H1 k1
  have ei : i = (as.length : Nat) := by
    have z : V.int i = V.int (as.length : Nat) := by simpa using c4
    exact V.int.inj z
  subst ei
  obtain ⟨ao, xo, rfl, hao, hso⟩ := hp.tup
  have lo : xo.length = own.length := by rw [hso.len, tyds_len]
  have oas : TysOk W as ∧ as.length ≤ W ∧ Tx srt := Ty.Ok.as (t := .mk as srt) okk
  walk_at "rd"
  refine r_ixT (k1.get hak) rfl ?_
  walk_at "rd"
  refine r_catT (k1.get hao) (k1.get ha3) (hso.mono k1.t0) (hs3.mono k1.t0) (by omega) fun vb H2 k2 t2 hb => ?_
  rw [← tyds_app] at hb
  have k02 := k1.trans k2
  walk_at "rd"
  refine r_ixT (k02.get ha) rfl ?_
  walk_at "rd"
  refine ⟨sv, hv, vb, v2, sg, hs, own ++ as, d2, W, 1000000, rfl, hsg.mono0 k02, osg, fsg, hh.mono k02.t0, hb, h2.mono k02.t0, (show Wd Tx 1000000 d2 from wd.2.2.1), fun r H3 k3 hr3 => ?_⟩
  have k03 := k02.trans k3
  walk_at "rd"
  refine ⟨rfl, ?_⟩
  walk_at "rd"
  have notup : d3.isT = false → tmB sg hs own (.mk as srt) (.tup [.int (as.length : Nat), d2, d3]) = false := fun z => no (by cases d3 <;> first | rfl | cases z)
  have etm : ∀ ps, d3 = .tup ps → tmB sg hs own (.mk as srt) (.tup [.int (as.length : Nat), d2, d3]) = match hdB sg hs (own ++ as) d2 with
      | none => false
      | some t => decide (t.s = srt) && decide (t.as.length = ps.length) && tmsB sg hs (own ++ as) t.as ps := fun ps e => by
    subst e
    exact tmB_eq (sg := sg) (hs := hs) (own := own) (k := .mk as srt) (x := d2) (ps := ps)
  cases eh : hdB sg hs (own ++ as) d2 with
  | none =>
    rw [eh] at hr3
    subst hr3
    refine if_t rfl (if_t rfl ?_)
    walk_at "rd"
    have e : tmB sg hs own (.mk as srt) (.tup [.int (as.length : Nat), d2, d3]) = false := by
      cases z : d3.isT with
      | false => exact notup z
      | true =>
        obtain ⟨ps, rfl⟩ := D.tup_of z
        rw [etm ps rfl, eh]
    exact e ▸ q H3 k03
  | some t =>
    rw [eh] at hr3
    replace hr3 : Dt H3 t.d r := hr3
    have okt : t.Ok W := hdB_ok osg oh (op.app oas.1) eh
    rw [Ty.d_eq] at hr3
    obtain ⟨ar, xr, rfl, har, w1, r2, rfl, hw1, w2, r3, rfl, hw2, rfl⟩ := hr3
    cases hw2.str
    obtain ⟨a9, x9, rfl, ha9, hs9⟩ := hw1
    have l9 : x9.length = t.as.length := by rw [hs9.len, tyds_len]
    refine if_f rfl ?_
    walk_at "rd"
    refine r_ixT har rfl ?_
    walk_at "rd"
    refine r_ixT (k03.get hak) rfl ?_
    walk_at "rd"
    refine if_2 (fun c3 => ?_) (fun c3 => ?_)
    · walk_at "rd"
      have ne : t.s ≠ srt := fun z => by rw [z] at c3; simp at c3
      have e : tmB sg hs own (.mk as srt) (.tup [.int (as.length : Nat), d2, d3]) = false := by
        cases z : d3.isT with
        | false => exact notup z
        | true =>
          obtain ⟨ps, rfl⟩ := D.tup_of z
          rw [etm ps rfl, eh]
          simp [ne]
      exact e ▸ q H3 k03
    have es : t.s = srt := by simpa using c3
    walk_at "rd"
    refine r_ixT (k03.get ha) rfl ?_
    walk_at "rd"
    refine r_isT (h3.mono k03.t0) ?_
    walk_at "rd"
    refine if_2 (fun c5 => ?_) (fun c5 => ?_)
    · walk_at "rd"
      have e := notup (by simpa using c5)
      exact e ▸ q H3 k03
    obtain ⟨ps, rfl⟩ := D.tup_of (by simpa using c5)
    obtain ⟨ap, xp, rfl, hap, hsp⟩ := h3.tup
    have lp : xp.length = ps.length := hsp.len
    walk_at "rd"
    refine r_ixT (k03.get ha) rfl ?_
    walk_at "rd"
    refine ⟨ap, xp, rfl, .inr (SqT.of (k03.get hap)), ?_⟩
    walk_at "rd"
    refine r_ixT har rfl ?_
    walk_at "rd"
    refine ⟨a9, x9, rfl, .inr (SqT.of ha9), ?_⟩
    walk_at "rd"
    rw [l9, lp]
    refine if_2 (fun c4 => ?_) (fun c4 => ?_)
    · walk_at "rd"
      have ne : t.as.length ≠ ps.length := fun z => by rw [z] at c4; simp at c4
      have e : tmB sg hs own (.mk as srt) (.tup [.int (as.length : Nat), d2, .tup ps]) = false := by
        rw [etm ps rfl, eh]
        simp [ne]
      exact e ▸ q H3 k03
    have el : t.as.length = ps.length := by
      have z : V.int (ps.length : Nat) = V.int (t.as.length : Nat) := by simpa using c4
      have := V.int.inj z
      omega
    have efin : tmB sg hs own (.mk as srt) (.tup [.int (as.length : Nat), d2, .tup ps]) = ((kids (own ++ as) t.as ps).map (frB sg hs)).all id := by
      rw [etm ps rfl, eh]
      simp only [es, el, decide_eq_true, Bool.true_and]
      rw [← kids_B el]
      unfold frsB
      rw [List.all_map]
      rfl
    have wps : Wds Tx 1000000 ps := wd.2.2.2.1.2
    have lps := szs_len ps
    have zps : szs ps + 2 ≤ (D.tup [.int (as.length : Nat), d2, .tup ps]).sz := by
      have e : (D.tup [.int (as.length : Nat), d2, .tup ps]).sz = 1 + (1 + (d2.sz + ((1 + szs ps) + 0))) := rfl
      omega
    have dpt : (D.tup [.int (as.length : Nat), d2, .tup ps]).dp = 1 + max 1 (max d2.dp (max (1 + dps ps) 0)) := rfl
    walk_at "rd"
    refine r_ixT har rfl ?_
    walk_at "rd"
    refine ⟨a9, x9, rfl, .inr (SqT.of ha9), ?_⟩
    walk_at "rd"
    rw [l9]
    refine ⟨_, rfl, by omega, by omega, fun L nL => lc_it walk_range (fun i H' => Kp [] H3 H' ∧ H' L = some (.lst ((((kids (own ++ as) t.as ps).map (frB sg hs)).take i).map V.bl)))
      ⟨(Kp.refl _ _).up nL, upd_same⟩ (fun _ _ _ _ => trivial) ?_ ?_⟩
    · rintro i y H0 H4 hi4 ⟨k4, hL⟩ ⟨rfl, rfl⟩
      have hi : i < t.as.length := by simpa using hi4
      have hip : i < ps.length := by omega
      have k04 := k03.trans k4
      walk_at "rd"
      refine ⟨rfl, ?_⟩
      walk_at "rd"
      obtain ⟨w3, hw3, hdw3⟩ := (hs9.mono k4.t0).of (tyds_at (List.getElem?_eq_getElem hi))
      obtain ⟨w4, hw4, hdw4⟩ := (hsp.mono k04.t0).of (List.getElem?_eq_getElem hip)
      refine r_ixT (k4.get har) rfl ?_
      walk_at "rd"
      refine r_ixT (k4.get ha9) (by simpa using atI_nat hw3) ?_
      walk_at "rd"
      refine r_ixT (k04.get ha) rfl ?_
      walk_at "rd"
      refine r_ixT (k04.get hap) (by simpa using atI_nat hw4) ?_
      walk_at "rd"
      have m1 := dps_mem (List.getElem_mem hip)
      have m3 := szs_mem (List.getElem_mem hip)
      have m2 : W * (1 + (ps[i]).dp) ≤ W * (D.tup [.int (as.length : Nat), d2, .tup ps]).dp := Nat.mul_le_mul_left _ (by omega)
      rw [Nat.mul_add, Nat.mul_one] at m2
      have la := oas.2.1
      refine ⟨sv, hv, vb, w3, w4, sg, hs, own ++ as, t.as[i], ps[i], W, rfl, hsg.mono0 k04, osg, fsg, hh.mono k04.t0, oh, hb.mono (k3.trans k4).t0, op.app oas.1, hdw3, okt.as.1.at (List.getElem_mem hi), hdw4, Wds.mem.mp wps _ (List.getElem_mem hip), by omega, hW, ?_, by omega, fun H5 k5 => ?_⟩
      · rw [List.length_append]
        omega
      · have ek : ((kids (own ++ as) t.as ps).map (frB sg hs))[i]? = some (tmB sg hs (own ++ as) t.as[i] ps[i]) := by
          rw [List.getElem?_map, kids_at (List.getElem?_eq_getElem hi) (List.getElem?_eq_getElem hip)]
          rfl
        refine ⟨_, k5.get hL, ?_, (k4.trans k5).own nL ⟨_, k5.get hL, rfl⟩, ?_⟩
        · rw [List.length_map]
          have n2 := List.length_take_le' i ((kids (own ++ as) t.as ps).map (frB sg hs))
          rw [List.length_map, kids_len el] at n2
          exact Nat.lt_of_le_of_lt (show _ ≤ 1000000 by omega) (by decide)
        · rw [upd_same, take_one ek, List.map_append]
          rfl
    · rintro H4 ⟨k4, hL⟩
      rw [List.take_of_length_le (by rw [List.length_map, kids_len el]; simp; omega)] at hL
      walk_at "rd"
      refine ⟨L, _, rfl, SqL.of hL, ?_⟩
      rw [efin] at q
      exact q H4 (k03.trans k4)
end
end K02
end

section
/-! The drawn signature. -/
namespace K02
open PySem L2 PyProof.Rows PySem.Spec Lc
variable [Lc.Tbs]
local macro_rules | `(tactic| walk_at "rd") => `(tactic| repeat (first
  | with_reducible refine r_seq ?_ | with_reducible refine r_mknx ?_ | with_reducible refine r_mkrt ?_ | with_reducible refine r_asg ?_ | with_reducible refine r_name ?_ | with_reducible refine r_next ?_
  | with_reducible refine r_drop ?_ | with_reducible refine r_ret ?_ | with_reducible refine r_if ?_
  | ((with_reducible refine' r_var ?e ?_); (case e => rfl)) | with_reducible refine r_c ?_ | with_reducible refine r_op ?_ | with_reducible refine r_un ?_ | with_reducible refine r_test ?_ | with_reducible refine r_tb ?_
  | with_reducible refine r_and ?_ | with_reducible refine r_or ?_ | with_reducible refine r_not ?_ | with_reducible refine r_andV ?_ | with_reducible refine r_orV ?_ | with_reducible refine r_notV ?_ | with_reducible refine r_bl ?_
  | with_reducible refine r_cb ?_ | with_reducible refine r_cons ?_ | with_reducible refine r_nil ?_ | with_reducible refine r_tup ?_ | with_reducible refine r_lst ?_ | with_reducible refine r_call ?_
  | with_reducible refine r_i0 ?_ | with_reducible refine r_par ?_ | with_reducible refine r_two ?_ | with_reducible refine r_lc ?_ | with_reducible refine r_iL ?_ | with_reducible refine r_iT ?_ | with_reducible refine r_iS ?_ | with_reducible refine r_i1 ?_ | with_reducible refine r_yes ?_ | with_reducible refine r_chain ?_ | with_reducible refine if_t rfl ?_ | with_reducible refine if_f rfl ?_ | with_reducible refine r_nt ?_ | ((with_reducible refine r_eq ?e ?_); (case e => rfl)) | ((with_reducible refine r_ne ?e ?_); (case e => rfl))
  | with_reducible refine r_sub ?_ | with_reducible refine r_sl ?_ | with_reducible refine r_nopart ?_ | with_reducible refine r_part ?_ | with_reducible refine r_int ?_ | with_reducible refine r_bm ?_ | with_reducible refine r_bm0 ?_ | with_reducible refine r_gcons ?_ | with_reducible refine r_gnil ?_ | with_reducible refine r_dget1 ?_ | with_reducible refine r_dget2 ?_))


local macro_rules | `(tactic| walk_at "dt") => `(tactic| repeat' (first | (show Dt _ _ _; assumption) | exact dt_str | exact dt_int | exact dt_bl | exact dt_non | exact Dts.nil | refine' Dts.cons ?_ ?_ | (refine' Dt.mono ?kk ?_; (case kk => assumption)) | fail))
local macro_rules | `(tactic| walk_at "at") => `(tactic| repeat (first | assumption | (refine' Kp.ge ?kk ?nn ?_; (case kk => assumption); (case nn => intro _ z; cases z)) | fail))
local macro_rules | `(tactic| walk_at "kp") => `(tactic| repeat (first | assumption | exact Kp.refl _ _ | (refine' Kp.trans ?_ ?kk; (case kk => assumption)) | fail))
local macro_rules | `(tactic| walk_at "tup") => `(tactic| (refine' r_tupN ?h ?f ?k; (case h => walk_at "dt"); (case f => simp); skip))
def tyA : Lc.Ty := .mk [] "a"
def tyB : Lc.Ty := .mk [] "b"
def tyO : Lc.Ty := .mk [tyA] "a"
/-- the constants that are drawn from -/
def tab : Sg := [("c", tyA), ("f", .mk [tyA, tyA] "a"), ("g", tyO), ("lam", .mk [tyO] "a"), ("e", tyB), ("k", .mk [tyA, tyB] "b"), ("d", tyA), ("w", .mk [.mk [tyA, tyA] "a"] "b"), ("m", .mk [tyO, tyB] "a")]
def tabR : Sg := (tab.drop 1).take 3 ++ tab.drop 5
abbrev rC : Str × Lc.Ty := ("c", tyA)
abbrev rE : Str × Lc.Ty := ("e", tyB)
def tabA : Sg := [rC, rE] ++ tabR
theorem at_mem' {α : Type} {xs : List α} {i : Int} (h0 : 0 ≤ i) (h : i < (xs.length : Nat)) : ∃ v, atI xs i = some v ∧ v ∈ xs ∧ xs[i.toNat]? = some v := by
  have hk : i.toNat < xs.length := by omega
  obtain ⟨v, hv⟩ := at_any h0 h
  have q := atI_nat (List.getElem?_eq_getElem hk)
  rw [Int.toNat_of_nonneg h0] at q
  exact ⟨_, q, List.getElem_mem hk, List.getElem?_eq_getElem hk⟩
def kindB (d : D) : Bool := wdB (fun x => decide (x = "a") || decide (x = "b")) 3 d && decide (d.dp ≤ 8) && decide (d.sz ≤ 256)
theorem kindB_ok {t : Lc.Ty} (h : kindB t.d = true) : KindOk 3 t.d := by
  unfold kindB at h
  simp only [Bool.and_eq_true] at h
  refine ⟨wd_of (fun x hx => ?_) h.1.1, of_decide_eq_true h.1.2, of_decide_eq_true h.2, t, rfl⟩
  rcases (Bool.or_eq_true _ _).mp hx with z | z
  · exact .inl (of_decide_eq_true z)
  · exact .inr (of_decide_eq_true z)
theorem tabA_ok : ∀ r ∈ tabA, Tx r.1 ∧ r.1.length ≤ 10 ∧ KindOk 3 r.2.d := by
  have h : (tabA.all fun r => PyData.strOk r.1 && decide (r.1.length ≤ 10) && kindB r.2.d) = true := by decide +kernel
  intro r hr
  have z := List.all_eq_true.mp h r hr
  simp only [Bool.and_eq_true] at z
  exact ⟨z.1.1, of_decide_eq_true z.1.2, kindB_ok z.2⟩
theorem tabA_nd : (tabA.map (·.1)).Nodup := by decide +kernel
/-- a drawn signature -/
structure SgG (sg : Sg) : Prop where
  ok : SgOk 3 sg
  kinds : ∀ r ∈ sg, KindOk 3 r.2.d
  few : sg.length ≤ 20
  short : ∀ r ∈ sg, r.1.length ≤ 20
  cons : ∀ x, AB x → ∃ n, (n, Lc.Ty.mk [] x) ∈ sg
theorem sgG_of {front : Str} {sub : Sg} (hf : Tx front) (lf : front.length ≤ 3) (h : sub.Sublist tabA) (hc : rC ∈ sub) (he : rE ∈ sub) : SgG (sub.map fun r => (front ++ r.1, r.2)) := by
  have ok : ∀ r ∈ sub, Tx r.1 ∧ r.1.length ≤ 10 ∧ KindOk 3 r.2.d := fun r hr => tabA_ok r (h.subset hr)
  have ln : sub.length ≤ 9 := h.length_le
  refine ⟨⟨?_, ?_⟩, ?_, ?_, ?_, ?_⟩
  · rw [List.map_map]
    have nd : (sub.map (·.1)).Nodup := tabA_nd.sublist (h.map _)
    have e : sub.map ((fun x => x.1) ∘ fun r => (front ++ r.1, r.2)) = (sub.map (·.1)).map (front ++ ·) := by
      rw [List.map_map]
      rfl
    rw [e]
    exact List.Pairwise.map _ (fun a b n z => n (str_app_inj z)) nd
  · intro r hr
    obtain ⟨r0, h0, rfl⟩ := List.mem_map.mp hr
    exact ⟨tx_app hf (ok r0 h0).1, Wd.mono (fun x hx => AB.tx hx) (Nat.le_refl 3) (ok r0 h0).2.2.wd⟩
  · intro r hr
    obtain ⟨r0, h0, rfl⟩ := List.mem_map.mp hr
    exact (ok r0 h0).2.2
  · rw [List.length_map]
    omega
  · intro r hr
    obtain ⟨r0, h0, rfl⟩ := List.mem_map.mp hr
    have l : (front ++ r0.1).length = front.length + r0.1.length := Array.size_append
    have := (ok r0 h0).2.1
    show (front ++ r0.1).length ≤ 20
    omega
  · rintro x (rfl | rfl)
    · exact ⟨front ++ rC.1, List.mem_map.mpr ⟨rC, hc, rfl⟩⟩
    · exact ⟨front ++ rE.1, List.mem_map.mpr ⟨rE, he, rfl⟩⟩
def spSigDraw : Sp := fun vs H Q _ => ∃ (c a : Addr), vs = [.ref c] ∧ CS a H c ∧ ∀ v sg H', Kp [c] H H' → CS a H' c → SgV H' sg v → SgG sg → Q v H'

abbrev s_law_signature : Stmt := top 18
abbrev N_law_signature : List Str := ["c", "one", "rows", "front", "kept", "a", "b", "j", "row", "name", "kind"]
theorem sc_law_signature : FnScope N_law_signature ["c"] (defScope s_law_signature) := ⟨rfl, rfl, rfl, by decide +kernel, rfl, by decide +kernel, by decide +kernel⟩
section
variable {P : Program} {w : World} {K : PySem.W.Frag} {mg : Str → Option Value} {base : Heap}
theorem ok_signature (F : Df K mg "_law_signature" s_law_signature ["c"]) (T : Txt mg) (C_law_take : Cal P w K mg base "_law_take" ["c", "many"] 2 spTake) :
    Cal P w K mg base "_law_signature" ["c"] 3 spSigDraw := by
  refine F.ok sc_law_signature (fun vs H Q E h => ?_) (fun f cdv A outer s H vs Q E hr h => ?_)
  · obtain ⟨c, a, rfl, _⟩ := h
    rfl
  obtain ⟨c, a, rfl, cs, q⟩ := h
  refine ⟨_, (pss_cons (ps_asg (pe_tup (pa_cons (pe_tup (pa_cons (pe_tup pa_nil) (pa_cons pe_str pa_nil))) (pa_cons (pe_tup (pa_cons (pe_tup pa_nil) (pa_cons pe_str pa_nil))) pa_nil))) (pg_tup (by rfl) (pgs_cons (pg_name (i := 5) sc_law_signature.nd rfl (.inl rfl)) (pgs_cons (pg_name (i := 6) sc_law_signature.nd rfl (.inl rfl)) pgs_nil))))
      (pss_cons (ps_set (i := 1) sc_law_signature.nd rfl (Or.inl rfl) (pe_tup (pa_cons (pe_tup (pa_cons (pv 5) pa_nil)) (pa_cons pe_str pa_nil))))
      (pss_cons (ps_set (i := 2) sc_law_signature.nd rfl (Or.inl rfl) (pe_lst (pa_cons (pe_tup (pa_cons pe_str (pa_cons (pv 5) pa_nil))) (pa_cons (pe_tup (pa_cons pe_str (pa_cons (pe_tup (pa_cons (pe_tup (pa_cons (pv 5) (pa_cons (pv 5) pa_nil))) (pa_cons pe_str pa_nil))) pa_nil))) (pa_cons (pe_tup (pa_cons pe_str (pa_cons (pv 1) pa_nil))) (pa_cons (pe_tup (pa_cons pe_str (pa_cons (pe_tup (pa_cons (pe_tup (pa_cons (pv 1) pa_nil)) (pa_cons pe_str pa_nil))) pa_nil))) (pa_cons (pe_tup (pa_cons pe_str (pa_cons (pv 6) pa_nil))) (pa_cons (pe_tup (pa_cons pe_str (pa_cons (pe_tup (pa_cons (pe_tup (pa_cons (pv 5) (pa_cons (pv 6) pa_nil))) (pa_cons pe_str pa_nil))) pa_nil))) (pa_cons (pe_tup (pa_cons pe_str (pa_cons (pv 5) pa_nil))) pa_nil)))))))))
      (pss_cons (ps_set (i := 2) sc_law_signature.nd rfl (Or.inl rfl) (pe_op op_cat (pv 2) (pe_lst (pa_cons (pe_tup (pa_cons pe_str (pa_cons (pe_tup (pa_cons (pe_tup (pa_cons (pe_tup (pa_cons (pe_tup (pa_cons (pv 5) (pa_cons (pv 5) pa_nil))) (pa_cons pe_str pa_nil))) pa_nil)) (pa_cons pe_str pa_nil))) pa_nil))) (pa_cons (pe_tup (pa_cons pe_str (pa_cons (pe_tup (pa_cons (pe_tup (pa_cons (pv 1) (pa_cons (pv 6) pa_nil))) (pa_cons pe_str pa_nil))) pa_nil))) pa_nil)))))
      (pss_cons (ps_set (i := 3) sc_law_signature.nd rfl (Or.inr rfl) (pe_bm PySem.F.plainAttrs_str PySem.F.slot_str_join PySem.F.type_str_join mt_join pe_str (pa_cons (pe_lc (own := [("j", 7)]) (g := gName 7) rfl sc_law_signature.nd (pi_range1 rfl T.z_range (pa_cons (pe_cal C_law_take hr rfl (pa_cons (pv 0) (pa_cons pe_int pa_nil))) pa_nil)) (blkOk_by (N := N_law_signature) (sc := defScope s_law_signature) (by decide +kernel)) (fun _ _ _ _ _ => (pg_name (i := 7) sc_law_signature.nd rfl (Or.inl rfl))) (fun _ _ _ _ _ => pts_nil) (fun _ _ _ _ _ => (pe_ix ix_str pe_str (pe_cal C_law_take hr rfl (pa_cons (pv 0) (pa_cons pe_int pa_nil))) (fun _ _ => rfl)))) pa_nil)))
      (pss_cons (ps_set (i := 4) sc_law_signature.nd rfl (Or.inl rfl) (pe_op op_cat (pe_lst (pa_cons (pe_ix ix_list (pv 2) pe_int (fun _ _ => rfl)) (pa_cons (pe_ix ix_list (pv 2) pe_int (fun _ _ => rfl)) pa_nil))) (pe_lc (own := [("row", 8)]) (g := gName 8) rfl sc_law_signature.nd (pi_list (pe_op op_cat (pe_slice sl_list (pv 2) (po_some pe_int) (po_some pe_int)) (pe_slice sl_list (pv 2) (po_some pe_int) po_none))) (blkOk_by (N := N_law_signature) (sc := defScope s_law_signature) (by decide +kernel)) (fun _ _ _ _ _ => (pg_name (i := 8) sc_law_signature.nd rfl (Or.inl rfl))) (fun _ _ _ _ _ => pts_one (pt_cmpR op_ne (pe_cal C_law_take hr rfl (pa_cons (pv 0) (pa_cons pe_int pa_nil))) pe_int (nomark _))) (fun _ _ _ _ _ => (pv 8)))))
      (pss_one (ps_ret (pe_callTy call_tuple_frz (by rfl) T.z_tuple (by decide +kernel) (pa_cons (pe_lc (own := [("name", 9), ("kind", 10)]) (g := gTup K 2 (gCons (gName 9) (gCons (gName 10) gNil))) rfl sc_law_signature.nd (pi_list (pv 4)) (blkOk_by (N := N_law_signature) (sc := defScope s_law_signature) (by decide +kernel)) (fun _ _ _ _ _ => (pg_tup (by rfl) (pgs_cons (pg_name (i := 9) sc_law_signature.nd rfl (Or.inl rfl)) (pgs_cons (pg_name (i := 10) sc_law_signature.nd rfl (Or.inl rfl)) pgs_nil)))) (fun _ _ _ _ _ => pts_nil) (fun _ _ _ _ _ => (pe_tup (pa_cons (pe_op op_add_str (pv 3) (pv 9)) (pa_cons (pv 10) pa_nil))))) pa_nil)))))))))), ?_⟩
  walk_at "rd"
  walk_at "tup"
  intro p1 G1 k1 t1 n1 e1 d1
  walk_at "rd"
  walk_at "tup"
  intro p2 G2 k2 t2 n2 e2 d2
  walk_at "rd"
  walk_at "tup"
  intro p3 G3 k3 t3 n3 e3 d3
  walk_at "rd"
  walk_at "tup"
  intro p4 G4 k4 t4 n4 e4 d4
  walk_at "rd"
  walk_at "tup"
  intro p5 G5 k5 t5 n5 e5 d5
  walk_at "rd"
  refine r_gtup e5 rfl ?_
  walk_at "rd"
  walk_at "tup"
  intro p6 G6 k6 t6 n6 e6 d6
  walk_at "rd"
  walk_at "tup"
  intro p7 G7 k7 t7 n7 e7 d7
  walk_at "rd"
  walk_at "tup"
  intro p8 G8 k8 t8 n8 e8 d8
  walk_at "rd"
  walk_at "tup"
  intro p9 G9 k9 t9 n9 e9 d9
  walk_at "rd"
  walk_at "tup"
  intro p10 G10 k10 t10 n10 e10 d10
  walk_at "rd"
  walk_at "tup"
  intro p11 G11 k11 t11 n11 e11 d11
  walk_at "rd"
  walk_at "tup"
  intro p12 G12 k12 t12 n12 e12 d12
  walk_at "rd"
  walk_at "tup"
  intro p13 G13 k13 t13 n13 e13 d13
  walk_at "rd"
  walk_at "tup"
  intro p14 G14 k14 t14 n14 e14 d14
  walk_at "rd"
  walk_at "tup"
  intro p15 G15 k15 t15 n15 e15 d15
  walk_at "rd"
  walk_at "tup"
  intro p16 G16 k16 t16 n16 e16 d16
  walk_at "rd"
  walk_at "tup"
  intro p17 G17 k17 t17 n17 e17 d17
  walk_at "rd"
  walk_at "tup"
  intro p18 G18 k18 t18 n18 e18 d18
  walk_at "rd"
  walk_at "tup"
  intro p19 G19 k19 t19 n19 e19 d19
  walk_at "rd"
  walk_at "tup"
  intro p20 G20 k20 t20 n20 e20 d20
  walk_at "rd"
  refine r_lstN (by simp) fun l1 G21 k21 t21 n21 e21 => ?_
  walk_at "rd"
  walk_at "tup"
  intro p22 G22 k22 t22 n22 e22 d22
  walk_at "rd"
  walk_at "tup"
  intro p23 G23 k23 t23 n23 e23 d23
  walk_at "rd"
  walk_at "tup"
  intro p24 G24 k24 t24 n24 e24 d24
  walk_at "rd"
  walk_at "tup"
  intro p25 G25 k25 t25 n25 e25 d25
  walk_at "rd"
  walk_at "tup"
  intro p26 G26 k26 t26 n26 e26 d26
  walk_at "rd"
  walk_at "tup"
  intro p27 G27 k27 t27 n27 e27 d27
  walk_at "rd"
  walk_at "tup"
  intro p28 G28 k28 t28 n28 e28 d28
  walk_at "rd"
  walk_at "tup"
  intro p29 G29 k29 t29 n29 e29 d29
  walk_at "rd"
  refine r_lstN (by simp) fun l2 G30 k30 t30 n30 e30 => ?_
  walk_at "rd"
  refine r_catN (l := l1) (b := l2) (by walk_at "at") e30 (by simp) fun R G31 k31 t31 n31 e31 => ?_
  have hrows : Dts G31 (tab.map rowD) ([V.ref p8, .ref p11, .ref p12, .ref p15, .ref p16, .ref p19, .ref p20] ++ [.ref p26, .ref p29]) := by
    have e : tab.map rowD = [.tup [.str "c", .tup [.tup [], .str "a"]], .tup [.str "f", .tup [.tup [.tup [.tup [], .str "a"], .tup [.tup [], .str "a"]], .str "a"]], .tup [.str "g", .tup [.tup [.tup [.tup [], .str "a"]], .str "a"]],
        .tup [.str "lam", .tup [.tup [.tup [.tup [.tup [.tup [], .str "a"]], .str "a"]], .str "a"]], .tup [.str "e", .tup [.tup [], .str "b"]], .tup [.str "k", .tup [.tup [.tup [.tup [], .str "a"], .tup [.tup [], .str "b"]], .str "b"]], .tup [.str "d", .tup [.tup [], .str "a"]],
        .tup [.str "w", .tup [.tup [.tup [.tup [.tup [.tup [], .str "a"], .tup [.tup [], .str "a"]], .str "a"]], .str "b"]], .tup [.str "m", .tup [.tup [.tup [.tup [.tup [.tup [], .str "a"]], .str "a"], .tup [.tup [], .str "b"]], .str "a"]]] := by
      simp only [tab, rowD, tyA, tyB, tyO, List.map_cons, List.map_nil, Ty.d, tyds]
    rw [e]
    show Dts _ _ [V.ref p8, .ref p11, .ref p12, .ref p15, .ref p16, .ref p19, .ref p20, .ref p26, .ref p29]
    walk_at "dt"
  have ka : Kp [] H G31 := by walk_at "kp"
  have ca := cs.keep ka
  generalize ev : [V.ref p8, V.ref p11, V.ref p12, V.ref p15, V.ref p16, V.ref p19, V.ref p20] ++ [V.ref p26, V.ref p29] = rows at e31 hrows
  have r0 : atI rows 0 = some (.ref p8) := by rw [← ev]; rfl
  have r4 : atI rows 4 = some (.ref p16) := by rw [← ev]; rfl
  have rl : rows.length = 9 := by rw [← ev]; rfl
  have g0 : rows[0]? = some (V.ref p8) := by rw [← ev]; rfl
  have g4 : rows[4]? = some (V.ref p16) := by rw [← ev]; rfl
  clear ev
  clear d1 d2 d3 d4 d5 d6 d7 d8 d9 d10 d11 d12 d13 d14 d15 d16 d17 d18 d19 d20 d22 d23 d24 d25 d26 d27 d28 d29
  walk_at "rd"
  refine ⟨rfl, ?_⟩
  walk_at "rd"
  refine ⟨c, a, 4, rfl, ca, by decide, by decide, fun j F1 lo1 hi1 kf1 cf1 => ?_⟩
  have kk1 : Kp [c] H F1 := ka.of0.trans kf1
  walk_at "rd"
  refine ⟨_, rfl, by omega, by omega, fun L nL => lc_it walk_range (fun i H' => ∃ cs : List Nat, H' L = some (.lst ((cs.map fun k => (⟨#[k]⟩ : Str)).map V.str)) ∧ cs.length = i ∧ (∀ k ∈ cs, k < 0x110000) ∧ Kp [c] F1 H' ∧ CS a H' c)
    ⟨[], upd_same, rfl, (fun y hy => by cases hy), (Kp.refl _ _).up nL, cf1.own (cf1.ne nL)⟩ (fun _ _ _ _ => trivial) ?_ ?_⟩
  · rintro i y H0 F2 hi2 ⟨ys, eL, ly, one, k2, c2⟩ ⟨rfl, rfl⟩
    walk_at "rd"
    refine ⟨rfl, ?_⟩
    walk_at "rd"
    refine ⟨c, a, 18, rfl, c2, by decide, by decide, fun g F3 lo3 hi3 k3 c3 => ?_⟩
    walk_at "rd"
    obtain ⟨ch, hch, mch, _⟩ := at_mem' (xs := ("abdeghjklmnpqrvwxy" : Str).cps.toList) lo3 (show g < 18 from hi3)
    refine ⟨_, _, ch, rfl, rfl, by decide, hch, ?_⟩
    have neL : L ≠ c := (cf1.ne nL).1
    have eL3 := k3 L _ (by simpa using neL) eL
    refine ⟨_, eL3, ?_, ys ++ [ch], ?_, ?_, ?_, (k2.trans k3).own nL, c3.own (cf1.ne nL)⟩
    · rw [List.length_map, List.length_map]
      exact Nat.lt_of_le_of_lt (show _ ≤ 1000 by omega) (by decide)
    · rw [upd_same, List.map_append, List.map_append]
      rfl
    · rw [List.length_append, ly]
      rfl
    · intro y hy
      rcases List.mem_append.mp hy with hy | hy
      · exact one y hy
      · rw [List.mem_singleton.mp hy]
        have al : (("abdeghjklmnpqrvwxy" : Str).cps.toList.all fun k => decide (k < 0x110000)) = true := by decide +kernel
        exact of_decide_eq_true (List.all_eq_true.mp al ch mch)
  · rintro F2 ⟨ys, eL, ly, one, k2, c2⟩
    walk_at "rd"
    have few : ys.length ≤ 3 := by omega
    have sums : (((ys.map fun k => (⟨#[k]⟩ : Str))).map (·.length)).sum + (ys.map fun k => (⟨#[k]⟩ : Str)).length * ("" : Str).length ≤ 16777216 := by
      have s1 : ∀ l : List Nat, ((l.map fun k => (⟨#[k]⟩ : Str)).map (·.length)).sum = l.length := by
        intro l
        induction l with
        | nil => rfl
        | cons x r ih =>
          rw [List.map_cons, List.map_cons, List.sum_cons, ih, List.length_cons, Nat.add_comm]
          rfl
      rw [s1 ys, show ("" : Str).length = 0 by decide]
      omega
    refine ⟨"", L, ys.map fun k => (⟨#[k]⟩ : Str), rfl, rfl, .inl (SqL.of eL), sums, ?_⟩
    have jl : Txt.join ("" : Str) (ys.map fun k => (⟨#[k]⟩ : Str)) = ⟨ys.toArray⟩ := by
      show Builtin.Str.glued ("" : Str) _ = _
      rw [StrLaws.glued_eq_join]
      exact PyProof.Rows.join_ones ys
    have tf : Tx (⟨ys.toArray⟩ : Str) := by
      show (ys.toArray.all fun k => decide (k < 0x110000)) = true
      rw [List.all_toArray]
      exact List.all_eq_true.mpr fun k hk => decide_eq_true (one k hk)
    have lf0 : (⟨ys.toArray⟩ : Str).length = ys.length := List.size_toArray
    rw [jl]
    generalize (⟨ys.toArray⟩ : Str) = front at tf lf0
    have lf : front.length ≤ 3 := by omega
    have kk2 : Kp [c] H F2 := kk1.trans k2
    have kg : Kp [c] G31 F2 := kf1.trans k2
    have neR : R ≠ c := (CS.ne (cs.keep (show Kp [] H G30 by walk_at "kp")) n31).1
    have eR2 : F2 R = some (.lst rows) := kg R _ (by simpa using neR) e31
    have tg : KeepT G31 F2 := ca.t kg
    walk_at "rd"
    refine r_ixL eR2 r0 ?_
    walk_at "rd"
    refine r_ixL eR2 r4 ?_
    walk_at "rd"
    refine r_lstN (by simp) fun l3 F3 k3 t3 n3 e3 => ?_
    walk_at "rd"
    refine r_slL (k3.get eR2) fun s1 F4 k4 t4 n4 e4 => ?_
    walk_at "rd"
    refine r_slL (k4.get (k3.get eR2)) fun s2 F5 k5 t5 n5 e5 => ?_
    walk_at "rd"
    have cl1 := cutV_length rows (some 1) (some 4)
    have cl2 := cutV_length rows (some 5) none
    refine r_catN (k5.get e4) e5 (by omega) fun s3 F6 k6 t6 n6 e6 => ?_
    walk_at "rd"
    have k36 : Kp [] F2 F6 := ((k3.trans k4).trans k5).trans k6
    have hr6 : Dts F6 (tab.map rowD) rows := hrows.mono (tg.trans k36.t0)
    have c6 := c2.keep k36
    have hcut0 : Dts F6 (tabR.map rowD) (cutV rows (some 1) (some 4) ++ cutV rows (some 5) none) := by
      have e1 : cutV rows (some 1) (some 4) = (rows.drop 1).take 3 := by
        unfold cutV
        rw [rl]
        rfl
      have e2 : cutV rows (some 5) none = rows.drop 5 := by
        unfold cutV
        rw [rl]
        show List.take 4 (List.drop 5 rows) = _
        rw [List.take_of_length_le]
        rw [List.length_drop, rl]
        decide
      rw [e1, e2]
      show Dts F6 (((tab.drop 1).take 3 ++ tab.drop 5).map rowD) _
      rw [List.map_append, List.map_take, List.map_drop, List.map_drop]
      exact Dts.app ((hr6.drop 1).take 3) (hr6.drop 5)
    generalize ec : cutV rows (some 1) (some 4) ++ cutV rows (some 5) none = cut at e6 hcut0
    have hcut := hcut0
    have lcut : cut.length ≤ 18 := by
      rw [← ec, List.length_append]
      omega
    clear ec
    refine ⟨s3, rfl, ⟨_, SqL.of e6⟩, fun L2 nL2 => lc_it (walk_list (K := K) (a := s3) (xs := cut)) (fun i H' => ∃ ys zs, H' L2 = some (.lst ys) ∧ Dts F6 (zs.map rowD) ys ∧ zs.Sublist (tabR.take i) ∧ Kp [c] F6 H' ∧ CS a H' c)
      ⟨[], [], upd_same, (show Dts F6 (([] : Sg).map rowD) [] from rfl), List.nil_sublist _, (Kp.refl _ _).up nL2, c6.own (c6.ne nL2)⟩ (fun i H' _ ⟨_, _, _, _, _, k, _⟩ => SqL.of (k s3 _ ?_ e6)) ?_ ?_⟩
    · exact fun z => (CS.ne (c2.keep ((k3.trans k4).trans k5)) n6).1 (List.mem_singleton.mp z)
    · rintro i y H0 F7 hi7 ⟨ys, zs, eL2, hys, sub, k7, c7⟩ ⟨rfl, hy⟩
      obtain ⟨dr, hdr, hdy⟩ := hcut.at hy
      rw [List.getElem?_map] at hdr
      obtain ⟨r, hr, rfl⟩ := Option.map_eq_some_iff.mp hdr
      walk_at "rd"
      refine ⟨rfl, ?_⟩
      walk_at "rd"
      refine ⟨c, a, 3, rfl, c7, by decide, by decide, fun g F8 lo8 hi8 k8 c8 => ?_⟩
      walk_at "rd"
      have neL2 : L2 ≠ c := (c6.ne nL2).1
      have eL28 := k8 L2 _ (by simpa using neL2) eL2
      have lys : ys.length ≤ 9 := by
        have l1 := hys.len
        have l2 := sub.length_le
        have l3 := List.length_take_le' i tabR
        rw [List.length_map] at l1
        have l4 : tabR.length = 7 := rfl
        omega
      refine if_2 (fun _ => ?_) (fun _ => ?_)
      · walk_at "rd"
        refine ⟨ys, eL28, Nat.lt_of_le_of_lt (show _ ≤ 1000 by omega) (by decide), ys ++ [y], zs ++ [r], upd_same, ?_, ?_, (k7.trans k8).own nL2, c8.own (c6.ne nL2)⟩
        · rw [List.map_append]
          exact hys.snoc hdy
        · rw [take_one hr]
          exact sub.append (List.Sublist.refl _)
      · refine ⟨ys, zs, eL28, hys, ?_, k7.trans k8, c8⟩
        rw [take_one hr]
        exact sub.trans (List.sublist_append_left _ _)
    · rintro F7 ⟨ys, zs, eL2, hys, sub, k7, c7⟩
      have t7 : KeepT F6 F7 := c6.t k7
      have ne3 : l3 ≠ c := (CS.ne c2 n3).1
      have e37 : F7 l3 = some (.lst [V.ref p8, V.ref p16]) := k7 l3 _ (by simpa using ne3) (k6.get (k5.get (k4.get e3)))
      have sub2 : zs.Sublist tabR := sub.trans (List.take_sublist _ _)
      have lzs := sub2.length_le
      have l7 : tabR.length = 7 := rfl
      have lys : ys.length = zs.length := by rw [hys.len, List.length_map]
      walk_at "rd"
      refine r_catN e37 eL2 (by simp; omega) fun l4 F8 k8 t8 n8 e8 => ?_
      walk_at "rd"
      have c8 := c7.keep k8
      have subA : ([rC, rE] ++ zs : Sg).Sublist tabA := (List.Sublist.refl _).append sub2
      have hc : rC ∈ ([rC, rE] ++ zs : Sg) := by simp
      have he : rE ∈ ([rC, rE] ++ zs : Sg) := by simp
      have hk : Dts F8 (([rC, rE] ++ zs : Sg).map rowD) ([V.ref p8, V.ref p16] ++ ys) := by
        rw [List.map_append]
        refine Dts.app ?_ (hys.mono (t7.trans t8))
        obtain ⟨x0, hx0, q0⟩ := hr6.at g0
        obtain ⟨x4, hx4, q4⟩ := hr6.at g4
        cases hx0
        cases hx4
        exact Dts.cons (q0.mono (t7.trans t8)) (Dts.cons (q4.mono (t7.trans t8)) Dts.nil)
      have good := sgG_of tf (by omega) subA hc he
      have lk : ([V.ref p8, V.ref p16] ++ ys).length ≤ 20 := by
        rw [List.length_append, lys]
        exact Nat.le_trans (Nat.add_le_add_left lzs 2) (by rw [l7]; decide)
      generalize ([rC, rE] ++ zs : Sg) = fin at subA hk good
      generalize [V.ref p8, V.ref p16] ++ ys = kept at e8 hk lk
      have hns : ∀ r ∈ fin, r.1.length ≤ 10 := fun r hr => (tabA_ok r (subA.subset hr)).2.1
      refine ⟨l4, rfl, ⟨_, SqL.of e8⟩, fun L3 nL3 => lc_it (walk_list (K := K) (a := l4) (xs := kept)) (fun i H' => ∃ ps kvs, H' L3 = some (.lst (ps.map V.ref)) ∧ Prs H' ((fin.take i).map fun r => (front ++ r.1, r.2)) ps kvs ∧ Kp [] F8 H')
        ⟨[], [], upd_same, Prs.nil, (Kp.refl _ _).up nL3⟩ (fun i H' _ ⟨_, _, _, _, k⟩ => SqL.of (k.get e8)) ?_ ?_⟩
      · rintro i y H0 F9 hi9 ⟨ps, kvs, eL3, hps, k9⟩ ⟨rfl, hy⟩
        obtain ⟨dr, hdr, hdy⟩ := (hk.mono k9.t0).at hy
        rw [List.getElem?_map] at hdr
        obtain ⟨r, hr, rfl⟩ := Option.map_eq_some_iff.mp hdr
        obtain ⟨p, us, rfl, hp, hus⟩ := hdy
        obtain ⟨u1, r1, rfl, hu1, u2, r2, rfl, hu2, rfl⟩ := hus
        cases hu1.str
        have ln := hns r (List.mem_of_getElem? hr)
        walk_at "rd"
        refine r_gtup hp rfl ?_
        walk_at "rd"
        refine ⟨rfl, ?_⟩
        walk_at "rd"
        refine ⟨front, r.1, rfl, rfl, Nat.le_trans (show _ ≤ 1000 by omega) (by decide), ?_⟩
        walk_at "rd"
        refine r_tupN (ds := [.str (front ++ r.1), r.2.d]) (Dts.cons dt_str (Dts.cons hu2 Dts.nil)) (by simp) fun p9 F10 k10 t10 n10 e10 d10 => ?_
        have eL30 := k10.get eL3
        have tn : KeepT F10 (upd F10 L3 (.lst (ps.map V.ref ++ [.ref p9]))) := fun p xs z => by rw [upd_ne (ne_of z eL30 (fun q => by cases q))]; exact z
        refine ⟨_, eL30, ?_, ps ++ [p9], kvs ++ [(Sum.inr (front ++ r.1), u2)], ?_, ?_, (k9.trans k10).own nL3⟩
        · rw [List.length_map, hps.1, List.length_map]
          have := List.length_take_le' i fin
          have l5 := subA.length_le
          have l6 : tabA.length = 9 := rfl
          exact Nat.lt_of_le_of_lt (show _ ≤ 1000 by omega) (by decide)
        · rw [upd_same, List.map_append]
          rfl
        · rw [take_one hr, List.map_append]
          exact (hps.mono (t10.trans tn)).snoc (tn _ _ e10) ((hu2.mono t10).mono tn)
      · rintro F9 ⟨ps, kvs, eL3, hps, k9⟩
        walk_at "rd"
        have lfin : fin.length = kept.length := by
          have := hk.len
          rw [List.length_map] at this
          exact this.symm
        rw [List.take_of_length_le (by omega)] at hps
        refine ⟨L3, ps.map V.ref, rfl, SqL.of eL3, fun l ob nl hob => ?_⟩
        walk_at "rd"
        have kl : Kp [] F9 (upd F9 l (.frz ob (.tup (ps.map V.ref)))) := (Kp.refl _ _).up nl
        refine q _ _ _ ?_ ?_ ⟨l, ob, ps, kvs, rfl, upd_same, hob, hps.mono kl.t0⟩ good
        · exact (kk2.trans ((k36.of0.trans k7).trans ((k8.trans k9).trans kl).of0))
        · exact c8.keep (k9.trans kl)
end
end K02
end

section
/-! The drawn prefix; the heads that fit. -/
namespace K02
open PySem L2 PyProof.Rows PySem.Spec Lc
variable [Lc.Tbs]
local macro_rules | `(tactic| walk_at "rd") => `(tactic| repeat (first
  | with_reducible refine r_seq ?_ | with_reducible refine r_mknx ?_ | with_reducible refine r_mkrt ?_ | with_reducible refine r_asg ?_ | with_reducible refine r_name ?_ | with_reducible refine r_next ?_
  | with_reducible refine r_drop ?_ | with_reducible refine r_ret ?_ | with_reducible refine r_if ?_
  | ((with_reducible refine' r_var ?e ?_); (case e => rfl)) | with_reducible refine r_c ?_ | with_reducible refine r_op ?_ | with_reducible refine r_un ?_ | with_reducible refine r_test ?_ | with_reducible refine r_tb ?_
  | with_reducible refine r_and ?_ | with_reducible refine r_or ?_ | with_reducible refine r_not ?_ | with_reducible refine r_andV ?_ | with_reducible refine r_orV ?_ | with_reducible refine r_notV ?_ | with_reducible refine r_bl ?_
  | with_reducible refine r_cb ?_ | with_reducible refine r_cons ?_ | with_reducible refine r_nil ?_ | with_reducible refine r_tup ?_ | with_reducible refine r_lst ?_ | with_reducible refine r_call ?_
  | with_reducible refine r_i0 ?_ | with_reducible refine r_par ?_ | with_reducible refine r_two ?_ | with_reducible refine r_lc ?_ | with_reducible refine r_iL ?_ | with_reducible refine r_iT ?_ | with_reducible refine r_iS ?_ | with_reducible refine r_i1 ?_ | with_reducible refine r_yes ?_ | with_reducible refine r_chain ?_ | with_reducible refine if_t rfl ?_ | with_reducible refine if_f rfl ?_ | with_reducible refine r_nt ?_ | ((with_reducible refine r_eq ?e ?_); (case e => rfl)) | ((with_reducible refine r_ne ?e ?_); (case e => rfl))
  | with_reducible refine r_sub ?_ | with_reducible refine r_sl ?_ | with_reducible refine r_nopart ?_ | with_reducible refine r_part ?_ | with_reducible refine r_int ?_ | with_reducible refine r_bm ?_ | with_reducible refine r_bm0 ?_ | with_reducible refine r_gcons ?_ | with_reducible refine r_gnil ?_ | with_reducible refine r_dget1 ?_ | with_reducible refine r_dget2 ?_))


local macro_rules | `(tactic| walk_at "dt") => `(tactic| repeat' (first | (show Dt _ _ _; assumption) | exact dt_str | exact dt_int | exact dt_bl | exact dt_non | exact Dts.nil | refine' Dts.cons ?_ ?_ | (refine' Dt.mono ?kk ?_; (case kk => assumption)) | fail))
local macro_rules | `(tactic| walk_at "at") => `(tactic| repeat (first | assumption | (refine' Kp.ge ?kk ?nn ?_; (case kk => assumption); (case nn => intro _ z; cases z)) | fail))
local macro_rules | `(tactic| walk_at "kp") => `(tactic| repeat (first | assumption | exact Kp.refl _ _ | (refine' Kp.trans ?_ ?kk; (case kk => assumption)) | fail))
local macro_rules | `(tactic| walk_at "tup") => `(tactic| (refine' r_tupN ?h ?f ?k; (case h => walk_at "dt"); (case f => simp); skip))
def spPrefix : Sp := fun vs H Q _ => ∃ (c a : Addr), vs = [.ref c] ∧ CS a H c ∧ ∀ v ts H', Kp [c] H H' → CS a H' c → Dt H' (.tup (tyds ts)) v → ts.length ≤ 3 → (∀ t ∈ ts, KindOk 2 t.d) → Q v H'
theorem sgGet_mem : ∀ {sg : Sg} {n : Str} {t : Lc.Ty}, (sg.map (·.1)).Nodup → (n, t) ∈ sg → sgGet sg n = some t
  | r :: sg, n, t, nd, h => by
    rw [List.map_cons, List.nodup_cons] at nd
    unfold sgGet
    rw [List.find?_cons]
    rcases List.mem_cons.mp h with rfl | h
    · rw [decide_eq_true rfl]
      rfl
    · have ne : r.1 ≠ n := fun z => nd.1 (List.mem_map.mpr ⟨(n, t), h, z.symm⟩)
      rw [decide_eq_false ne]
      exact sgGet_mem nd.2 h
theorem hdB_c {sg : Sg} {hs own : List Lc.Ty} {n : Str} {t : Lc.Ty} (nd : (sg.map (·.1)).Nodup) (h : (n, t) ∈ sg) : hdB sg hs own (.tup [.str "c", .str n]) = some t := by
  show hkB sg hs own (.str "c") (.str n) = _
  unfold hkB
  rw [eqD_str, decide_eq_true rfl]
  exact sgGet_mem nd h
theorem hdB_b {sg : Sg} {hs own : List Lc.Ty} {k : Nat} (h : k < own.length) : hdB sg hs own (.tup [.str "b", .int k]) = own[own.length - 1 - k]? := by
  show hkB sg hs own (.str "b") (.int k) = _
  unfold hkB
  rw [show (eqD (.str "b") (.str "c") && (D.int k).isS) = false by rw [eqD_str]; rfl, if_neg (by decide), hkM_int, if_neg (by omega)]
  unfold hkI
  rw [eqD_str, decide_eq_true rfl, decide_eq_true (by omega)]
  rfl
theorem hdB_h {sg : Sg} {hs own : List Lc.Ty} {k : Nat} (h : k < hs.length) : hdB sg hs own (.tup [.str "h", .int k]) = hs[k]? := by
  show hkB sg hs own (.str "h") (.int k) = _
  unfold hkB
  rw [show (eqD (.str "h") (.str "c") && (D.int k).isS) = false by rw [eqD_str]; rfl, if_neg (by decide), hkM_int, if_neg (by omega)]
  unfold hkI
  rw [show (eqD (.str "h") (.str "b")) = false by rw [eqD_str]; exact decide_eq_false (by decide), Bool.false_and, if_neg (by decide), eqD_str, decide_eq_true rfl, decide_eq_true (by omega)]
  rfl
/-- a head with its type, as a row -/
abbrev Hr := D × Lc.Ty
def hrD (r : Hr) : D := .tup [r.1, r.2.d]
/-- what a row of the heads is -/
structure HrOk (sg : Sg) (hs own : List Lc.Ty) (sort : Str) (r : Hr) : Prop where
  hd : hdB sg hs own r.1 = some r.2
  s : r.2.s = sort
  tx : Wd Tx 3 r.1
  dp : r.1.dp = 2
  sz : r.1.sz = 3
  pr : ∃ x m, r.1 = .tup [.str x, m]
structure HrOk0 (sg : Sg) (hs own : List Lc.Ty) (r : Hr) : Prop where
  hd : hdB sg hs own r.1 = some r.2
  tx : Wd Tx 3 r.1
  dp : r.1.dp = 2
  sz : r.1.sz = 3
  pr : ∃ x m, r.1 = .tup [.str x, m]
def spHeads : Sp := fun vs H Q _ => ∃ sv hv ov sg hs own sort, vs = [sv, hv, ov, .str sort] ∧ SgV H sg sv ∧ SgG sg ∧ Dt H (.tup (tyds hs)) hv ∧ Dt H (.tup (tyds own)) ov ∧ own.length ≤ 2000 ∧ hs.length ≤ 1000 ∧
  ∀ (L : Addr) (ys : List V) (rs : List Hr) (H' : Hp), Kp [] H H' → H L = none → H' L = some (.lst ys) → Dts H' (rs.map hrD) ys → rs.length ≤ 5000 → (∀ r ∈ rs, HrOk sg hs own sort r) → (AB sort → ∃ r ∈ rs, r.2.as = []) → Q (.ref L) H'
abbrev s_law_prefix : Stmt := top 33
abbrev N_law_prefix : List Str := ["c", "k"]
theorem sc_law_prefix : FnScope N_law_prefix ["c"] (defScope s_law_prefix) := ⟨rfl, rfl, rfl, by decide +kernel, rfl, by decide +kernel, by decide +kernel⟩
abbrev s_law_heads : Stmt := top 25
abbrev N_law_heads : List Str := ["signature", "holes", "own", "sort", "found", "k", "row", "name", "kind"]
theorem sc_law_heads : FnScope N_law_heads ["signature", "holes", "own", "sort"] (defScope s_law_heads) := ⟨rfl, rfl, rfl, by decide +kernel, rfl, by decide +kernel, by decide +kernel⟩
section
variable {P : Program} {w : World} {K : PySem.W.Frag} {mg : Str → Option Value} {base : Heap}
theorem ok_prefix (F : Df K mg "_law_prefix" s_law_prefix ["c"]) (T : Txt mg) (C_law_take : Cal P w K mg base "_law_take" ["c", "many"] 8 spTake) (C_law_kind : Cal P w K mg base "_law_kind" ["c", "high"] 8 (spKind 4)) :
    Cal P w K mg base "_law_prefix" ["c"] 9 spPrefix := by
  refine F.ok sc_law_prefix (fun vs H Q E h => ?_) (fun f cdv A outer s H vs Q E hr h => ?_)
  · obtain ⟨c, a, rfl, _⟩ := h
    rfl
  obtain ⟨c, a, rfl, cs, q⟩ := h
  refine ⟨_, (pss_one (ps_ret (pe_callTy call_tuple_of (by rfl) T.z_tuple (by decide +kernel) (pa_cons (pe_lc (own := [("k", 1)]) (g := gName 1) rfl sc_law_prefix.nd (pi_range1 rfl T.z_range (pa_cons (pe_ix ix_list (pe_lst (pa_cons pe_int (pa_cons pe_int (pa_cons pe_int (pa_cons pe_int pa_nil))))) (pe_cal C_law_take hr rfl (pa_cons (pv 0) (pa_cons pe_int pa_nil))) (fun _ _ => rfl)) pa_nil)) (blkOk_by (N := N_law_prefix) (sc := defScope s_law_prefix) (by decide +kernel)) (fun _ _ _ _ _ => (pg_name (i := 1) sc_law_prefix.nd rfl (Or.inl rfl))) (fun _ _ _ _ _ => pts_nil) (fun _ _ _ _ _ => (pe_cal C_law_kind hr rfl (pa_cons (pv 0) (pa_cons (pe_ix (r := rIxL K) ix_list (pe_lst (pa_cons pe_int (pa_cons pe_int (pa_cons pe_int (pa_cons pe_int pa_nil))))) (pe_cal C_law_take hr rfl (pa_cons (pv 0) (pa_cons pe_int pa_nil))) (fun _ _ => rfl)) pa_nil))))) pa_nil)))), ?_⟩
  walk_at "rd"
  refine r_lstN (by decide) fun l1 H1 k1 t1 n1 h1 => ?_
  walk_at "rd"
  refine ⟨c, a, 4, rfl, cs.keep k1, by decide, by decide, fun i H2 lo hi k2 cs2 => ?_⟩
  have ne1 : l1 ≠ c := (cs.ne n1).1
  obtain ⟨v, hv, mv, _⟩ := at_mem (xs := [.int 0, .int 1, .int 2, .int 3]) lo hi
  have kc2 : Kp [c] H H2 := (k1.of0).trans k2
  walk_at "rd"
  refine r_ixL (k2 l1 _ (by simpa using ne1) h1) hv ?_
  walk_at "rd"
  obtain ⟨m, rfl, om⟩ : ∃ m : Nat, v = .int m ∧ m ≤ 3 := by
    simp only [List.mem_cons, List.not_mem_nil, or_false] at mv
    rcases mv with rfl | rfl | rfl | rfl
    · exact ⟨0, rfl, by decide⟩
    · exact ⟨1, rfl, by decide⟩
    · exact ⟨2, rfl, by decide⟩
    · exact ⟨3, rfl, by decide⟩
  refine ⟨_, rfl, by omega, by omega, fun L nL => lc_it walk_range (fun i H' => ∃ ys ts, H' L = some (.lst ys) ∧ Dts H' (tyds ts) ys ∧ ts.length = i ∧ Kp [c] H2 H' ∧ CS a H' c ∧ ∀ t ∈ ts, KindOk 2 t.d)
    ⟨[], [], upd_same, rfl, rfl, (Kp.refl _ _).up nL, cs2.keep ((Kp.refl _ _).up nL), fun d hd => nomatch hd⟩ (fun _ _ _ _ => trivial) ?_ ?_⟩
  · rintro i y H0 H5 hi5 ⟨ys, ts, eL, hds, ldn, k5, cs5, all⟩ ⟨rfl, rfl⟩
    have neL : L ≠ c := (cs2.ne nL).1
    walk_at "rd"
    refine ⟨rfl, ?_⟩
    walk_at "rd"
    refine r_lstN (by decide) fun l3 H6 k6 t6 n6 e6 => ?_
    walk_at "rd"
    refine ⟨c, a, 4, rfl, cs5.keep k6, by decide, by decide, fun g H7 lo3 hi3 k7 cs7 => ?_⟩
    have ne3 : l3 ≠ c := (cs5.ne n6).1
    walk_at "rd"
    obtain ⟨v2, hv2, mv2, _⟩ := at_mem (xs := [.int 0, .int 0, .int 1, .int 2]) lo3 hi3
    obtain ⟨g2, rfl, lg2⟩ : ∃ g2 : Nat, v2 = .int g2 ∧ g2 ≤ 2 := by
      simp only [List.mem_cons, List.not_mem_nil, or_false] at mv2
      rcases mv2 with rfl | rfl | rfl | rfl
      · exact ⟨0, rfl, by decide⟩
      · exact ⟨0, rfl, by decide⟩
      · exact ⟨1, rfl, by decide⟩
      · exact ⟨2, rfl, by decide⟩
    refine r_ixL (k7 l3 _ (by simpa using ne3) e6) hv2 ?_
    walk_at "rd"
    refine ⟨c, a, g2, rfl, by omega, cs7, fun v8 d8 H8 k8 cs8 hd8 ok8 => ?_⟩
    obtain ⟨t8, rfl⟩ := ok8.ty
    have kk : Kp [c] H5 H8 := (k6.of0.trans k7).trans k8
    have eL8 : H8 L = some (.lst ys) := kk L _ (by simpa using neL) eL
    have tt : KeepT H5 H8 := cs5.t kk
    refine ⟨ys, eL8, ?_, ys ++ [v8], ts ++ [t8], upd_same, ?_, ?_, ?_, ?_, ?_⟩
    · have := hds.len
      rw [tyds_len] at this
      exact Nat.lt_of_le_of_lt (show _ ≤ 1000 by omega) (by decide)
    · rw [tyds_app]
      exact Dts.mono (fun p xs z => by rw [upd_ne (ne_of z eL8 (fun q => by cases q))]; exact z) ((hds.mono tt).snoc hd8)
    · rw [List.length_append, ldn]
      rfl
    · exact (k5.trans kk).own nL
    · exact cs8.own (cs2.ne nL)
    · intro d hd
      rcases List.mem_append.mp hd with hd | hd
      · exact all d hd
      · rw [List.mem_singleton.mp hd]
        exact ok8.up lg2
  · rintro H5 ⟨ys, ts, eL, hds, ldn, k5, cs5, all⟩
    walk_at "rd"
    refine ⟨L, ys, rfl, .inl ⟨SqL.of eL, fun l nl => ?_⟩⟩
    obtain ⟨k6, t6, d6⟩ := new_tup nl hds
    walk_at "rd"
    exact q _ ts _ ((kc2.trans k5).trans k6.of0) (cs5.keep k6) d6 (by rw [ldn]; omega) all
theorem ok_heads (F : Df K mg "_law_heads" s_law_heads ["signature", "holes", "own", "sort"]) (T : Txt mg) :
    Cal P w K mg base "_law_heads" ["signature", "holes", "own", "sort"] 1 spHeads := by
  refine F.ok sc_law_heads (fun vs H Q E h => ?_) (fun f cdv A outer s H vs Q E hr h => ?_)
  · obtain ⟨sv, hv, ov, sg, hs, own, sort, rfl, _⟩ := h
    rfl
  obtain ⟨sv, hv, ov, sg, hs, own, sort, rfl, hsg, good, hh, ho, lown, lhs, q⟩ := h
  obtain ⟨ah, hx, rfl, hah, hhs⟩ := hh.tup
  obtain ⟨ao, ox, rfl, hao, hos⟩ := ho.tup
  have lh : hx.length = hs.length := by rw [hhs.len, tyds_len]
  have lo : ox.length = own.length := by rw [hos.len, tyds_len]
  refine ⟨_, (pss_cons (ps_setLc (i := 4) (own := [("k", 5)]) (g := gName 5) (by rfl) sc_law_heads.nd rfl rfl (sw_true rfl rfl rfl (by decide +kernel)) (pi_range1 rfl T.z_range (pa_cons (pe_callB call_len_seq (by rfl) T.z_len (by decide +kernel) (pa_cons (pv 2) pa_nil)) pa_nil)) (blkOk_by (N := N_law_heads) (sc := defScope s_law_heads) (by decide +kernel)) (fun _ _ _ _ _ => (pg_name (i := 5) sc_law_heads.nd rfl (Or.inl rfl))) (fun _ _ _ _ _ => pts_nil) (fun _ _ _ _ _ => (pe_tup (pa_cons (pe_tup (pa_cons pe_str (pa_cons (pv 5) pa_nil))) (pa_cons (pe_ix (r := rIxT K) ix_tup (pv 2) (pe_op op_sub (pe_op op_sub (pe_callB (r := Evl.rLenS K) call_len_seq (by rfl) T.z_len (by decide +kernel) (pa_cons (pv 2) pa_nil)) pe_int) (pv 5)) (fun _ _ => rfl)) pa_nil)))))
      (pss_cons (ps_set (i := 4) sc_law_heads.nd rfl (Or.inl rfl) (pe_op op_cat (pv 4) (pe_lc (own := [("name", 7), ("kind", 8)]) (g := gTup K 2 (gCons (gName 7) (gCons (gName 8) gNil))) rfl sc_law_heads.nd (pi_tup (pv 0)) (blkOk_by (N := N_law_heads) (sc := defScope s_law_heads) (by decide +kernel)) (fun _ _ _ _ _ => (pg_tup (by rfl) (pgs_cons (pg_name (i := 7) sc_law_heads.nd rfl (Or.inl rfl)) (pgs_cons (pg_name (i := 8) sc_law_heads.nd rfl (Or.inl rfl)) pgs_nil)))) (fun _ _ _ _ _ => pts_nil) (fun _ _ _ _ _ => (pe_tup (pa_cons (pe_tup (pa_cons pe_str (pa_cons (pv 7) pa_nil))) (pa_cons (pv 8) pa_nil)))))))
      (pss_cons (ps_set (i := 4) sc_law_heads.nd rfl (Or.inl rfl) (pe_op op_cat (pv 4) (pe_lc (own := [("k", 5)]) (g := gName 5) rfl sc_law_heads.nd (pi_range1 rfl T.z_range (pa_cons (pe_callB call_len_seq (by rfl) T.z_len (by decide +kernel) (pa_cons (pv 1) pa_nil)) pa_nil)) (blkOk_by (N := N_law_heads) (sc := defScope s_law_heads) (by decide +kernel)) (fun _ _ _ _ _ => (pg_name (i := 5) sc_law_heads.nd rfl (Or.inl rfl))) (fun _ _ _ _ _ => pts_nil) (fun _ _ _ _ _ => (pe_tup (pa_cons (pe_tup (pa_cons pe_str (pa_cons (pv 5) pa_nil))) (pa_cons (pe_ix (r := rIxT K) ix_tup (pv 1) (pv 5) (fun _ _ => rfl)) pa_nil)))))))
      (pss_one (ps_ret (pe_lc (own := [("row", 6)]) (g := gName 6) rfl sc_law_heads.nd (pi_list (pv 4)) (blkOk_by (N := N_law_heads) (sc := defScope s_law_heads) (by decide +kernel)) (fun _ _ _ _ _ => (pg_name (i := 6) sc_law_heads.nd rfl (Or.inl rfl))) (fun _ _ _ _ _ => pts_one (pt_cmpR op_eq (pe_ix (r := rIxT K) ix_tup (pe_ix (r := rIxT K) ix_tup (pv 6) pe_int (fun _ _ => rfl)) pe_int (fun _ _ => rfl)) (pv 3) (nomark _))) (fun _ _ _ _ _ => (pv 6)))))))), ?_⟩
  walk_at "rd"
  refine ⟨ao, ox, rfl, .inr (SqT.of hao), ?_⟩
  walk_at "rd"
  rw [lo]
  refine ⟨_, rfl, by omega, by omega, fun L1 nL1 => lc_it walk_range (fun i H' => ∃ (ys : List V) (rs : List Hr), H' L1 = some (.lst ys) ∧ Dts H' (rs.map hrD) ys ∧ rs.length = i ∧ Kp [] H H' ∧ ∀ r ∈ rs, HrOk0 sg hs own r)
    ⟨[], [], upd_same, (show Dts _ (([] : List Hr).map hrD) [] from rfl), rfl, (Kp.refl _ _).up nL1, fun d hd => nomatch hd⟩ (fun _ _ _ _ => trivial) ?_ ?_⟩
  · rintro i y H0 H1 hi1 ⟨ys, rs, eL, hys, lrs, k1, all⟩ ⟨rfl, rfl⟩
    have hi : i < own.length := by simpa using hi1
    walk_at "rd"
    refine ⟨rfl, ?_⟩
    walk_at "rd"
    refine r_tupN (ds := [.str "b", .int i]) (Dts.cons dt_str (Dts.cons (show (V.int (0 + (i : Int)) : V) = .int i by rw [Int.zero_add]) Dts.nil)) (by simp) fun p1 G1 g1 u1 m1 e1 d1 => ?_
    walk_at "rd"
    have k11 := k1.trans g1
    refine ⟨ao, ox, rfl, .inr (SqT.of (k11.get hao)), ?_⟩
    walk_at "rd"
    have lt : own.length - 1 - i < own.length := by omega
    obtain ⟨x, hx1, hdx⟩ := (hos.mono k11.t0).of (tyds_at (List.getElem?_eq_getElem lt))
    have z := atI_nat hx1
    have iz : ((own.length - 1 - i : Nat) : Int) = (ox.length : Int) - 1 - (0 + i) := by omega
    rw [iz] at z
    refine r_ixT (k11.get hao) z ?_
    walk_at "rd"
    refine r_tupN (ds := [.tup [.str "b", .int i], (own[own.length - 1 - i]).d]) (Dts.cons d1 (Dts.cons hdx Dts.nil)) (by simp) fun p2 G2 g2 u2 m2 e2 d2 => ?_
    walk_at "rd"
    have eL2 := (g1.trans g2).get eL
    refine ⟨ys, eL2, ?_, ys ++ [.ref p2], rs ++ [(.tup [.str "b", .int i], own[own.length - 1 - i])], upd_same, ?_, ?_, (k11.trans g2).own nL1, ?_⟩
    · have := hys.len
      rw [List.length_map] at this
      exact Nat.lt_of_le_of_lt (show _ ≤ 5000 by omega) (by decide)
    · rw [List.map_append]
      exact Dts.mono (fun p xs z => by rw [upd_ne (ne_of z eL2 (fun q => by cases q))]; exact z) ((hys.mono (u1.trans u2)).snoc d2)
    · rw [List.length_append, lrs]
      rfl
    · intro r hr
      rcases List.mem_append.mp hr with hr | hr
      · exact all r hr
      · rw [List.mem_singleton.mp hr]
        refine ⟨?_, ⟨by show 2 ≤ 3; decide, (by decide +kernel : Tx "b"), trivial, trivial⟩, rfl, rfl, _, _, rfl⟩
        rw [hdB_b hi, List.getElem?_eq_getElem lt]
  rintro H1 ⟨ys1, rs1, eL1, hys1, lrs1, k1, all1⟩
  walk_at "rd"
  obtain ⟨asg, obs, ps, kvs, rfl, hasg, hobs, hprs⟩ := hsg
  have sq : ∀ {H' : Hp}, Kp [] H H' → SqT K H' asg (ps.map V.ref) := fun k => .inl (.inr ⟨obs, k.get hasg⟩)
  refine ⟨asg, rfl, ⟨_, sq k1⟩, fun L2 nL2 => lc_it (walk_tup (K := K) (a := asg) (xs := ps.map V.ref)) (fun i H' => ∃ (ys : List V) (rs : List Hr), H' L2 = some (.lst ys) ∧ Dts H' (rs.map hrD) ys ∧ rs.length = i ∧ Kp [] H1 H' ∧ (∀ r ∈ rs, HrOk0 sg hs own r) ∧ ∀ r ∈ sg.take i, (D.tup [.str "c", .str r.1], r.2) ∈ rs)
    ⟨[], [], upd_same, (show Dts _ (([] : List Hr).map hrD) [] from rfl), rfl, (Kp.refl _ _).up nL2, (fun d hd => nomatch hd), fun r hr => nomatch hr⟩ (fun i H' _ ⟨_, _, _, _, _, k, _⟩ => sq (k1.trans k)) ?_ ?_⟩
  · rintro i y H0 H2 hi2 ⟨ys, rs, eL, hys, lrs, k2, all, inn⟩ ⟨rfl, hy⟩
    have hi : i < sg.length := by
      have := hprs.1
      simp at hi2
      omega
    obtain ⟨p, v, e1, e2, e3, e4⟩ := hprs.2.2 i _ (List.getElem?_eq_getElem hi)
    rw [List.getElem?_map, e1] at hy
    cases hy
    have k02 := k1.trans k2
    walk_at "rd"
    refine r_gtup (k02.get e3) rfl ?_
    walk_at "rd"
    refine ⟨rfl, ?_⟩
    walk_at "rd"
    refine r_tupN (ds := [.str "c", .str (sg[i]).1]) (by walk_at "dt") (by simp) fun p1 G1 g1 u1 m1 f1 d1 => ?_
    walk_at "rd"
    refine r_tupN (ds := [.tup [.str "c", .str (sg[i]).1], (sg[i]).2.d]) (Dts.cons d1 (Dts.cons (e4.mono (k02.trans g1).t0) Dts.nil)) (by simp) fun p2 G2 g2 u2 m2 f2 d2 => ?_
    walk_at "rd"
    have eL2 := (g1.trans g2).get eL
    have msg : sg[i] ∈ sg := List.getElem_mem hi
    refine ⟨ys, eL2, ?_, ys ++ [.ref p2], rs ++ [(.tup [.str "c", .str (sg[i]).1], (sg[i]).2)], upd_same, ?_, ?_, ((k2.trans g1).trans g2).own nL2, ?_, ?_⟩
    · have := hys.len
      rw [List.length_map] at this
      have := good.few
      exact Nat.lt_of_le_of_lt (show _ ≤ 5000 by omega) (by decide)
    · rw [List.map_append]
      exact Dts.mono (fun p xs z => by rw [upd_ne (ne_of z eL2 (fun q => by cases q))]; exact z) ((hys.mono (u1.trans u2)).snoc d2)
    · rw [List.length_append, lrs]
      rfl
    · intro r hr
      rcases List.mem_append.mp hr with hr | hr
      · exact all r hr
      · rw [List.mem_singleton.mp hr]
        refine ⟨hdB_c good.ok.nd msg, ⟨by show 2 ≤ 3; decide, (by decide +kernel : Tx "c"), (good.ok.ok _ msg).1, trivial⟩, rfl, rfl, _, _, rfl⟩
    · intro r hr
      rw [take_one (List.getElem?_eq_getElem hi)] at hr
      rcases List.mem_append.mp hr with hr | hr
      · exact List.mem_append_left _ (inn r hr)
      · rw [List.mem_singleton.mp hr]
        exact List.mem_append_right _ List.mem_cons_self
  rintro H2 ⟨ys2, rs2, eL2, hys2, lrs2, k2, all2, inn2⟩
  have lps : (ps.map V.ref).length = sg.length := by rw [List.length_map, hprs.1]
  rw [lps] at lrs2 inn2
  rw [List.take_length] at inn2
  have fsg := good.few
  have l1 := hys1.len
  have l2 := hys2.len
  rw [List.length_map] at l1 l2
  have k02 := k1.trans k2
  walk_at "rd"
  refine r_catN (k2.get eL1) eL2 (by omega) fun L3 H3 k3 t3 n3 e3 => ?_
  walk_at "rd"
  have k03 := k02.trans k3
  refine ⟨ah, hx, rfl, .inr (SqT.of (k03.get hah)), ?_⟩
  walk_at "rd"
  rw [lh]
  refine ⟨_, rfl, by omega, by omega, fun L4 nL4 => lc_it walk_range (fun i H' => ∃ (ys : List V) (rs : List Hr), H' L4 = some (.lst ys) ∧ Dts H' (rs.map hrD) ys ∧ rs.length = i ∧ Kp [] H3 H' ∧ ∀ r ∈ rs, HrOk0 sg hs own r)
    ⟨[], [], upd_same, (show Dts _ (([] : List Hr).map hrD) [] from rfl), rfl, (Kp.refl _ _).up nL4, fun d hd => nomatch hd⟩ (fun _ _ _ _ => trivial) ?_ ?_⟩
  · rintro i y H0 H4 hi4 ⟨ys, rs, eL, hys, lrs, k4, all⟩ ⟨rfl, rfl⟩
    have hi : i < hs.length := by simpa using hi4
    walk_at "rd"
    refine ⟨rfl, ?_⟩
    walk_at "rd"
    refine r_tupN (ds := [.str "h", .int i]) (Dts.cons dt_str (Dts.cons (show (V.int (0 + (i : Int)) : V) = .int i by rw [Int.zero_add]) Dts.nil)) (by simp) fun p1 G1 g1 u1 m1 e1 d1 => ?_
    walk_at "rd"
    have k11 := (k03.trans k4).trans g1
    obtain ⟨x, hx1, hdx⟩ := (hhs.mono k11.t0).of (tyds_at (List.getElem?_eq_getElem hi))
    refine r_ixT (k11.get hah) (by simpa using atI_nat hx1) ?_
    walk_at "rd"
    refine r_tupN (ds := [.tup [.str "h", .int i], (hs[i]).d]) (Dts.cons d1 (Dts.cons hdx Dts.nil)) (by simp) fun p2 G2 g2 u2 m2 e2 d2 => ?_
    walk_at "rd"
    have eL2 := (g1.trans g2).get eL
    refine ⟨ys, eL2, ?_, ys ++ [.ref p2], rs ++ [(.tup [.str "h", .int i], hs[i])], upd_same, ?_, ?_, ((k4.trans g1).trans g2).own nL4, ?_⟩
    · have := hys.len
      rw [List.length_map] at this
      exact Nat.lt_of_le_of_lt (show _ ≤ 5000 by omega) (by decide)
    · rw [List.map_append]
      exact Dts.mono (fun p xs z => by rw [upd_ne (ne_of z eL2 (fun q => by cases q))]; exact z) ((hys.mono (u1.trans u2)).snoc d2)
    · rw [List.length_append, lrs]
      rfl
    · intro r hr
      rcases List.mem_append.mp hr with hr | hr
      · exact all r hr
      · rw [List.mem_singleton.mp hr]
        refine ⟨?_, ⟨by show 2 ≤ 3; decide, (by decide +kernel : Tx "h"), trivial, trivial⟩, rfl, rfl, _, _, rfl⟩
        rw [hdB_h hi, List.getElem?_eq_getElem hi]
  rintro H4 ⟨ys4, rs4, eL4, hys4, lrs4, k4, all4⟩
  have l4 := hys4.len
  rw [List.length_map] at l4
  walk_at "rd"
  refine r_catN (k4.get e3) eL4 (by rw [List.length_append]; omega) fun L5 H5 k5 t5 n5 e5 => ?_
  walk_at "rd"
  have k05 := (k03.trans k4).trans k5
  have hall : Dts H5 (((rs1 ++ rs2) ++ rs4).map hrD) ((ys1 ++ ys2) ++ ys4) := by
    rw [List.map_append, List.map_append]
    exact Dts.app (Dts.app (hys1.mono (((k2.trans k3).trans k4).trans k5).t0) (hys2.mono ((k3.trans k4).trans k5).t0)) (hys4.mono k5.t0)
  have allr : ∀ r ∈ (rs1 ++ rs2) ++ rs4, HrOk0 sg hs own r := fun r hr => by
    rcases List.mem_append.mp hr with hr | hr
    · rcases List.mem_append.mp hr with hr | hr
      · exact all1 r hr
      · exact all2 r hr
    · exact all4 r hr
  have there : AB sort → ∃ r ∈ (rs1 ++ rs2) ++ rs4, r.2.s = sort ∧ r.2.as = [] := fun ab => by
    obtain ⟨n, hn⟩ := good.cons sort ab
    exact ⟨_, List.mem_append_left _ (List.mem_append_right _ (inn2 _ hn)), rfl, rfl⟩
  have lall : ((rs1 ++ rs2) ++ rs4).length ≤ 5000 := by
    rw [List.length_append, List.length_append]
    omega
  generalize (rs1 ++ rs2) ++ rs4 = rows at hall allr there lall
  generalize (ys1 ++ ys2) ++ ys4 = vals at e5 hall
  refine ⟨L5, rfl, ⟨_, SqL.of e5⟩, fun L6 nL6 => lc_it (walk_list (K := K) (a := L5) (xs := vals)) (fun i H' => ∃ (ys : List V) (rs : List Hr), H' L6 = some (.lst ys) ∧ Dts H' (rs.map hrD) ys ∧ rs.length ≤ i ∧ Kp [] H5 H' ∧ (∀ r ∈ rs, HrOk sg hs own sort r) ∧ ∀ r ∈ rows.take i, r.2.s = sort → r ∈ rs)
    ⟨[], [], upd_same, (show Dts _ (([] : List Hr).map hrD) [] from rfl), Nat.le_refl 0, (Kp.refl _ _).up nL6, (fun d hd => nomatch hd), fun r hr => nomatch hr⟩ (fun i H' _ ⟨_, _, _, _, _, k, _⟩ => SqL.of (k.get e5)) ?_ ?_⟩
  · rintro i y H0 H6 hi6 ⟨ys, rs, eL, hys, lrs, k6, all, inn⟩ ⟨rfl, hy⟩
    obtain ⟨dr, hdr, hdy⟩ := (hall.mono k6.t0).at hy
    rw [List.getElem?_map] at hdr
    obtain ⟨r, hr, rfl⟩ := Option.map_eq_some_iff.mp hdr
    have mr := List.mem_of_getElem? hr
    have hdy0 := hdy
    obtain ⟨a1, x1, rfl, ha1, w1, r1, rfl, hw1, w2, r2, rfl, hw2, rfl⟩ := hdy
    rw [Ty.d_eq] at hw2
    obtain ⟨a2, x2, rfl, ha2, w3, r3, rfl, hw3, w4, r4, rfl, hw4, rfl⟩ := hw2
    cases hw4.str
    walk_at "rd"
    refine ⟨rfl, ?_⟩
    walk_at "rd"
    refine r_ixT ha1 rfl ?_
    walk_at "rd"
    refine r_ixT ha2 rfl ?_
    walk_at "rd"
    refine if_2 (fun c => ?_) (fun c => ?_)
    · have es : r.2.s = sort := V.str.inj (of_decide_eq_true c)
      walk_at "rd"
      have lv := hall.len
      rw [List.length_map] at lv
      refine ⟨ys, eL, ?_, ys ++ [.ref a1], rs ++ [r], upd_same, ?_, ?_, k6.own nL6, ?_, ?_⟩
      · have := hys.len
        rw [List.length_map] at this
        exact Nat.lt_of_le_of_lt (show _ ≤ 5000 by omega) (by decide)
      · rw [List.map_append]
        exact Dts.mono (fun p xs z => by rw [upd_ne (ne_of z eL (fun q => by cases q))]; exact z) (hys.snoc hdy0)
      · rw [List.length_append]
        exact Nat.succ_le_succ lrs
      · intro r' hr'
        rcases List.mem_append.mp hr' with hr' | hr'
        · exact all r' hr'
        · rw [List.mem_singleton.mp hr']
          have z := allr r mr
          exact ⟨z.hd, es, z.tx, z.dp, z.sz, z.pr⟩
      · intro r' hr' es'
        rw [take_one hr] at hr'
        rcases List.mem_append.mp hr' with hr' | hr'
        · exact List.mem_append_left _ (inn r' hr' es')
        · rw [List.mem_singleton.mp hr']
          exact List.mem_append_right _ List.mem_cons_self
    · have es : r.2.s ≠ sort := fun z => of_decide_eq_false c (by rw [z])
      refine ⟨ys, rs, eL, hys, Nat.le_succ_of_le lrs, k6, all, fun r' hr' es' => ?_⟩
      rw [take_one hr] at hr'
      rcases List.mem_append.mp hr' with hr' | hr'
      · exact inn r' hr' es'
      · rw [List.mem_singleton.mp hr'] at es'
        exact absurd es' es
  · rintro H6 ⟨ys, rs, eL, hys, lrs, k6, all, inn⟩
    have lv := hall.len
    rw [List.length_map] at lv
    rw [lv] at lrs inn
    rw [List.take_length] at inn
    walk_at "rd"
    refine q L6 ys rs H6 (k05.trans k6) (k05.none nL6) eL hys (by omega) all fun ab => ?_
    obtain ⟨r, hr, e1, e2⟩ := there ab
    exact ⟨r, inn r hr e1, e2⟩
end
end K02
end

section
/-! A drawn term. -/
namespace K02
open PySem L2 PyProof.Rows PySem.Spec Lc
variable [Lc.Tbs]
local macro_rules | `(tactic| walk_at "rd") => `(tactic| repeat (first
  | with_reducible refine r_seq ?_ | with_reducible refine r_mknx ?_ | with_reducible refine r_mkrt ?_ | with_reducible refine r_asg ?_ | with_reducible refine r_name ?_ | with_reducible refine r_next ?_
  | with_reducible refine r_drop ?_ | with_reducible refine r_ret ?_ | with_reducible refine r_if ?_
  | ((with_reducible refine' r_var ?e ?_); (case e => rfl)) | with_reducible refine r_c ?_ | with_reducible refine r_op ?_ | with_reducible refine r_un ?_ | with_reducible refine r_test ?_ | with_reducible refine r_tb ?_
  | with_reducible refine r_and ?_ | with_reducible refine r_or ?_ | with_reducible refine r_not ?_ | with_reducible refine r_andV ?_ | with_reducible refine r_orV ?_ | with_reducible refine r_notV ?_ | with_reducible refine r_bl ?_
  | with_reducible refine r_cb ?_ | with_reducible refine r_cons ?_ | with_reducible refine r_nil ?_ | with_reducible refine r_tup ?_ | with_reducible refine r_lst ?_ | with_reducible refine r_call ?_
  | with_reducible refine r_i0 ?_ | with_reducible refine r_par ?_ | with_reducible refine r_two ?_ | with_reducible refine r_lc ?_ | with_reducible refine r_iL ?_ | with_reducible refine r_iT ?_ | with_reducible refine r_iS ?_ | with_reducible refine r_i1 ?_ | with_reducible refine r_yes ?_ | with_reducible refine r_chain ?_ | with_reducible refine if_t rfl ?_ | with_reducible refine if_f rfl ?_ | with_reducible refine r_nt ?_ | ((with_reducible refine r_eq ?e ?_); (case e => rfl)) | ((with_reducible refine r_ne ?e ?_); (case e => rfl))
  | with_reducible refine r_sub ?_ | with_reducible refine r_sl ?_ | with_reducible refine r_nopart ?_ | with_reducible refine r_part ?_ | with_reducible refine r_int ?_ | with_reducible refine r_bm ?_ | with_reducible refine r_bm0 ?_ | with_reducible refine r_gcons ?_ | with_reducible refine r_gnil ?_ | with_reducible refine r_dget1 ?_ | with_reducible refine r_dget2 ?_))


local macro_rules | `(tactic| walk_at "dt") => `(tactic| repeat' (first | (show Dt _ _ _; assumption) | exact dt_str | exact dt_int | exact dt_bl | exact dt_non | exact Dts.nil | refine' Dts.cons ?_ ?_ | (refine' Dt.mono ?kk ?_; (case kk => assumption)) | fail))
local macro_rules | `(tactic| walk_at "at") => `(tactic| repeat (first | assumption | (refine' Kp.ge ?kk ?nn ?_; (case kk => assumption); (case nn => intro _ z; cases z)) | fail))
local macro_rules | `(tactic| walk_at "kp") => `(tactic| repeat (first | assumption | exact Kp.refl _ _ | (refine' Kp.trans ?_ ?kk; (case kk => assumption)) | fail))
local macro_rules | `(tactic| walk_at "tup") => `(tactic| (refine' r_tupN ?h ?f ?k; (case h => walk_at "dt"); (case f => simp); skip))
/-- sorts are a and b, at most three arguments -/
abbrev TyG (t : Lc.Ty) : Prop := Wd AB 3 t.d
theorem TyG.ok {t : Lc.Ty} (h : TyG t) : t.Ok 3 := Wd.mono (fun _ z => AB.tx z) (Nat.le_refl 3) h
theorem TyG.as {t : Lc.Ty} (h : TyG t) : (∀ u ∈ t.as, TyG u) ∧ t.as.length ≤ 3 ∧ AB t.s := by
  unfold TyG at h
  rw [Ty.d_eq, Wd, Wds, Wds, Wd] at h
  refine ⟨fun u hu => Wds.mem.mp h.2.1.2 _ (by rw [tyds_map]; exact List.mem_map.mpr ⟨u, hu, rfl⟩), by have := h.2.1.1; rw [tyds_len] at this; exact this, h.2.2.1⟩
structure TmOk (n : Nat) (d : D) : Prop where
  wd : Wd Tx 3 d
  dp : d.dp ≤ 2 * n + 3
  sz : d.sz ≤ 6 * 4 ^ n
theorem TmOk.up {h j : Nat} {d : D} (k : TmOk h d) (l : h ≤ j) : TmOk j d :=
  ⟨k.wd, Nat.le_trans k.dp (by omega), Nat.le_trans k.sz (Nat.mul_le_mul_left _ (Nat.pow_le_pow_right (by decide) l))⟩
theorem tm_ok {n m : Nat} {h : D} {ps : List D} (wh : Wd Tx 3 h) (dh : h.dp = 2) (zh : h.sz = 3) (few : ps.length ≤ 3) (z : n = 0 → ps = []) (all : ∀ d ∈ ps, TmOk (n - 1) d) : TmOk n (.tup [.int m, h, .tup ps]) := by
  have e1 : (D.tup [.int m, h, .tup ps]).dp = 1 + max 1 (max h.dp (max (1 + dps ps) 0)) := rfl
  have e2 : (D.tup [.int m, h, .tup ps]).sz = 1 + (1 + (h.sz + ((1 + szs ps) + 0))) := rfl
  have a1 : dps ps ≤ 2 * (n - 1) + 3 := dps_max fun d hd => (all d hd).dp
  have a2 : szs ps ≤ ps.length * (6 * 4 ^ (n - 1)) := szs_max fun d hd => (all d hd).sz
  refine ⟨⟨by show 3 ≤ 3; decide, trivial, wh, ⟨few, Wds.mem.mpr fun d hd => (all d hd).wd⟩, trivial⟩, ?_, ?_⟩
  · by_cases n0 : n = 0
    · subst n0
      rw [e1, z rfl, dh]
      decide
    · omega
  · by_cases n0 : n = 0
    · subst n0
      rw [e2, z rfl, zh]
      decide
    · have a3 : ps.length * (6 * 4 ^ (n - 1)) ≤ 3 * (6 * 4 ^ (n - 1)) := Nat.mul_le_mul_right _ few
      have e3 : 4 ^ n = 4 ^ (n - 1) * 4 := by rw [← Nat.pow_succ]; congr 1; omega
      have a5 : 1 ≤ 4 ^ (n - 1) := Nat.pow_pos (by decide)
      omega
def spTerm (n : Nat) : Sp := fun vs H Q _ => ∃ (c a : Addr) (sv hv pv kv : V) (depth : Nat) (sg : Sg) (hs own : List Lc.Ty) (k : Lc.Ty), vs = [.ref c, sv, hv, pv, kv, .int depth] ∧ CS a H c ∧ SgV H sg sv ∧ SgG sg ∧ Dt H (.tup (tyds hs)) hv ∧ (∀ t ∈ hs, TyG t) ∧
  Dt H (.tup (tyds own)) pv ∧ (∀ t ∈ own, TyG t) ∧ Dt H k.d kv ∧ TyG k ∧ own.length + 3 * (depth + 1) ≤ 1000 ∧ hs.length ≤ 1000 ∧ depth < n ∧
  ∀ v d H', Kp [c] H H' → CS a H' c → Dt H' d v → tmB sg hs own k d = true → TmOk depth d → Q v H'
abbrev s_law_term : Stmt := top 27
abbrev N_law_term : List Str := ["c", "signature", "holes", "prefix", "kind", "depth", "own", "fits", "parts", "head", "needed", "row", "one"]
theorem sc_law_term : FnScope N_law_term ["c", "signature", "holes", "prefix", "kind", "depth"] (defScope s_law_term) := ⟨rfl, rfl, rfl, by decide +kernel, rfl, by decide +kernel, by decide +kernel⟩
section
variable {P : Program} {w : World} {K : PySem.W.Frag} {mg : Str → Option Value} {base : Heap}
theorem ok_law_term0 {k n : Nat} (F : Df K mg "_law_term" s_law_term ["c", "signature", "holes", "prefix", "kind", "depth"]) (T : Txt mg) (hk : 2 ≤ k) (C_law_take : Cal P w K mg base "_law_take" ["c", "many"] 2 spTake) (C_law_heads : Cal P w K mg base "_law_heads" ["signature", "holes", "own", "sort"] 1 spHeads)
    (C_law_term : Cal P w K mg base "_law_term" ["c", "signature", "holes", "prefix", "kind", "depth"] k (spTerm n)) : Cal P w K mg base "_law_term" ["c", "signature", "holes", "prefix", "kind", "depth"] (k + 1) (spTerm (n + 1)) := by
  replace C_law_take := C_law_take.mono hk
  replace C_law_heads := C_law_heads.mono (show 1 ≤ k by omega)
  refine F.ok sc_law_term (fun vs H Q E h => ?_) (fun f cdv A outer s H vs Q E hr h => ?_)
  · obtain ⟨c, a, sv, hv, xv, kv, depth, sg, hs, own, k, rfl, _⟩ := h
    rfl
  obtain ⟨c, a, sv, hv, xv, kv, depth, sg, hs, own, ⟨as, srt⟩, rfl, cs, hsg, good, hh, wh, hp, wp, hkd, wk, far, lhs, dn, q⟩ := h
  obtain ⟨ao, xo, rfl, hao, hso⟩ := hp.tup
  have lo : xo.length = own.length := by rw [hso.len, tyds_len]
  rw [Ty.d] at hkd
  obtain ⟨ak, xk, rfl, hak, va, r2, rfl, hva, vs2, r3, rfl, hvs2, rfl⟩ := hkd
  cases hvs2.str
  obtain ⟨a3, x3, rfl, ha3, hs3⟩ := hva
  have l3 : x3.length = as.length := by rw [hs3.len, tyds_len]
  have gk := TyG.as wk
  have las : as.length ≤ 3 := gk.2.1
  have wown : ∀ t ∈ own ++ as, TyG t := fun t ht => by
    rcases List.mem_append.mp ht with ht | ht
    · exact wp t ht
    · exact gk.1 t ht
  have cs' := cs
  obtain ⟨ns, i, dg, cnt, z, hc, ha, h0, hne⟩ := cs'
  refine ⟨_, (pss_cons (ps_asg (pe_op op_sub (pe_ix ix_list (pv 0) pe_int (fun _ _ => rfl)) pe_int) (pg_sub (pv 0) pe_int set_list))
      (pss_cons (ps_set (i := 6) sc_law_term.nd rfl (Or.inr rfl) (pe_op op_catA (pv 3) (pe_ix ix_tup (pv 4) pe_int (fun _ _ => rfl))))
      (pss_cons (ps_set (i := 7) sc_law_term.nd rfl (Or.inl rfl) (pe_cal C_law_heads hr rfl (pa_cons (pv 1) (pa_cons (pv 2) (pa_cons (pv 6) (pa_cons (pe_ix ix_tup (pv 4) pe_int (fun _ _ => rfl)) pa_nil))))))
      (Evl.pss_cut (ps_if (PW.pt (pw_or (pt_cmpR op_lt (pv 5) pe_int (nomark _)) (pw_or1 (pt_cmpR op_lt (pe_ix ix_list (pv 0) pe_int (fun _ _ => rfl)) pe_int (nomark _))))) (pss_one (ps_setLc (i := 7) (own := [("row", 11)]) (g := gName 11) (by rfl) sc_law_term.nd rfl rfl (sw_true rfl rfl rfl (by decide +kernel)) (pi_list (pv 7)) (blkOk_by (N := N_law_term) (sc := defScope s_law_term) (by decide +kernel)) (fun _ _ _ _ _ => (pg_name (i := 11) sc_law_term.nd rfl (Or.inl rfl))) (fun _ _ _ _ _ => pts_one (pt_cmpR (r := rEqA 150) (op_eqA (n := 150) (u150 hr)) (pe_ix (r := rIxT K) ix_tup (pe_ix (r := rIxT K) ix_tup (pv 11) pe_int (fun _ _ => rfl)) pe_int (fun _ _ => rfl)) (pe_tup pa_nil) (nomark _))) (fun _ _ _ _ _ => (pv 11)))) pss_nil)
      (pss_cons (ps_asg (pe_ix ix_list (pv 7) (pe_cal C_law_take hr rfl (pa_cons (pv 0) (pa_cons (pe_callB call_len_seq (by rfl) T.z_len (by decide +kernel) (pa_cons (pv 7) pa_nil)) pa_nil))) (fun _ _ => rfl)) (pg_tup (by rfl) (pgs_cons (pg_name (i := 9) sc_law_term.nd rfl (.inl rfl)) (pgs_cons (pg_name (i := 10) sc_law_term.nd rfl (.inl rfl)) pgs_nil))))
      (pss_cons (ps_set (i := 8) sc_law_term.nd rfl (Or.inl rfl) (pe_callTy call_tuple_of (by rfl) T.z_tuple (by decide +kernel) (pa_cons (pe_lc (own := [("one", 12)]) (g := gName 12) rfl sc_law_term.nd (pi_tup (pe_ix ix_tup (pv 10) pe_int (fun _ _ => rfl))) (blkOk_by (N := N_law_term) (sc := defScope s_law_term) (by decide +kernel)) (fun _ _ _ _ _ => (pg_name (i := 12) sc_law_term.nd rfl (Or.inl rfl))) (fun _ _ _ _ _ => pts_nil) (fun _ _ _ _ _ => (pe_cal C_law_term hr rfl (pa_cons (pv 0) (pa_cons (pv 1) (pa_cons (pv 2) (pa_cons (pv 6) (pa_cons (pv 12) (pa_cons (pe_op op_sub (pv 5) pe_int) pa_nil))))))))) pa_nil)))
      (pss_one (ps_ret (pe_tup (pa_cons (pe_callB call_len_seq (by rfl) T.z_len (by decide +kernel) (pa_cons (pe_ix ix_tup (pv 4) pe_int (fun _ _ => rfl)) pa_nil)) (pa_cons (pv 9) (pa_cons (pv 8) pa_nil)))))))))))), ?_⟩
  walk_at "rd"
  refine r_ixL hc rfl ?_
  walk_at "rd"
  refine r_set hc rfl ?_
  rw [show ([V.ref a, .int i, .int dg, .int cnt, .int z].set (Int.toNat 4) (.int (z - 1))) = [.ref a, .int i, .int dg, .int cnt, .int (z - 1)] from rfl]
  have k1 : Kp [c] H (upd H c (.lst [.ref a, .int i, .int dg, .int cnt, .int (z - 1)])) := (Kp.refl _ _).at (by simp)
  have cs1 : CS a (upd H c (.lst [.ref a, .int i, .int dg, .int cnt, .int (z - 1)])) c := ⟨ns, i, dg, cnt, z - 1, upd_same, by rw [upd_ne hne]; exact ha, h0, hne⟩
  have hc1 : (upd H c (.lst [.ref a, .int i, .int dg, .int cnt, .int (z - 1)])) c = some (.lst [.ref a, .int i, .int dg, .int cnt, .int (z - 1)]) := upd_same
  have t1 : KeepT H (upd H c (.lst [.ref a, .int i, .int dg, .int cnt, .int (z - 1)])) := cs.t k1
  have hsg1 := hsg.mono1 k1 hc
  generalize (upd H c (.lst [.ref a, .int i, .int dg, .int cnt, .int (z - 1)])) = H1 at k1 cs1 hc1 t1 hsg1
  walk_at "rd"
  refine r_ixT (t1 _ _ hak) rfl ?_
  walk_at "rd"
  refine r_catT (t1 _ _ hao) (t1 _ _ ha3) (hso.mono t1) (hs3.mono t1) (by omega) fun vb H2 k2 t2 hb => ?_
  rw [← tyds_app] at hb
  walk_at "rd"
  refine r_ixT (k2.get (t1 _ _ hak)) rfl ?_
  walk_at "rd"
  refine ⟨sv, hv, vb, sg, hs, own ++ as, srt, rfl, hsg1.mono0 k2, good, hh.mono (t1.trans t2), hb, by rw [List.length_append]; omega, lhs, fun L ys rs H3 k3 nL eL hys lrs hrs there => ?_⟩
  walk_at "rd"
  have k13 := k2.trans k3
  have k03 : Kp [c] H H3 := k1.trans k13.of0
  have t03 : KeepT H H3 := t1.trans k13.t0
  have hc3 := k13.get hc1
  have neL : L ≠ c := fun q => by
    rw [q, k2.get hc1] at nL
    cases nL
  have cs3 := cs1.keep k13
  obtain ⟨r0, hr0, as0⟩ := there gk.2.2
  refine r_cut (fun σ H' => ∃ (L' : Addr) (ys' : List V) (rs' : List Hr) (v11 : Option V), σ = [some (.ref c), some sv, some hv, some (.ref ao), some (.ref ak), some (.int depth), some vb, some (.ref L'), none, none, none, v11, none] ∧ Kp [] H3 H' ∧ L' ≠ c ∧ H' L' = some (.lst ys') ∧ Dts H' (rs'.map hrD) ys' ∧
    rs'.length ≤ 5000 ∧ rs' ≠ [] ∧ (∀ r ∈ rs', HrOk sg hs (own ++ as) srt r) ∧ (depth = 0 → ∀ r ∈ rs', r.2.as = [])) ?_ ?_
  · walk_at "rd"
    refine if_or2 (c := decide (z - 1 < 1)) (fun c1 y => ?_) ?_ (fun c1 c2 => ?_)
    · walk_at "rd"
      refine r_ixL hc3 rfl ?_
      walk_at "rd"
      exact y
    · walk_at "rd"
      refine ⟨L, rfl, ⟨_, SqL.of eL⟩, fun L6 nL6 => lc_it (walk_list (K := K) (a := L) (xs := ys)) (fun i H' => ∃ (us : List V) (gs : List Hr), H' L6 = some (.lst us) ∧ Dts H' (gs.map hrD) us ∧ gs.length ≤ i ∧ Kp [] H3 H' ∧ (∀ r ∈ gs, HrOk sg hs (own ++ as) srt r ∧ r.2.as = []) ∧ ∀ r ∈ rs.take i, r.2.as = [] → r ∈ gs)
        ⟨[], [], upd_same, (show Dts _ (([] : List Hr).map hrD) [] from rfl), Nat.le_refl 0, (Kp.refl _ _).up nL6, (fun d hd => nomatch hd), fun r hr => nomatch hr⟩ (fun i H' _ ⟨_, _, _, _, _, k, _⟩ => SqL.of (k.get eL)) ?_ ?_⟩
      · rintro i y H0 H6 hi6 ⟨us, gs, eL6, hus, lgs, k6, all, inn⟩ ⟨rfl, hy⟩
        obtain ⟨dr, hdr, hdy⟩ := (hys.mono k6.t0).at hy
        rw [List.getElem?_map] at hdr
        obtain ⟨r, hr', rfl⟩ := Option.map_eq_some_iff.mp hdr
        have mr := List.mem_of_getElem? hr'
        have tr : TyG r.2 := hdB_all (fun r hr => (good.kinds r hr).wd) wh wown (hrs r mr).hd
        have hdy0 := hdy
        obtain ⟨a1, x1, rfl, ha1, w1, r1, rfl, hw1, w2, r2, rfl, hw2, rfl⟩ := hdy
        rw [Ty.d_eq] at hw2
        obtain ⟨a2, x2, rfl, ha2, w3, r3, rfl, hw3, w4, r4, rfl, hw4, rfl⟩ := hw2
        walk_at "rd"
        refine ⟨rfl, ?_⟩
        walk_at "rd"
        refine r_ixT ha1 rfl ?_
        walk_at "rd"
        refine r_ixT ha2 rfl ?_
        walk_at "rd"
        refine r_tupN Dts.nil (by decide) fun p1 G1 g1 u1 m1 e1 d1 => ?_
        have tsr : Wd Tx 3 (.tup (tyds r.2.as)) := by
          have y := tr.ok
          unfold Ty.Ok at y
          rw [Ty.d_eq] at y
          exact y.2.1
        refine ⟨.tup (tyds r.2.as), .tup [], 3, hw3.mono u1, d1, tsr, ⟨by show 0 ≤ 3; decide, trivial⟩, Nat.le_trans (Nat.min_le_right _ _) (by decide), ?_⟩
        have lv := hys.len
        rw [List.length_map] at lv
        walk_at "rd"
        refine if_2 (fun c => ?_) (fun c => ?_)
        · have es := eq_nil_of c
          have eL7 := g1.get eL6
          walk_at "rd"
          refine ⟨us, eL7, ?_, us ++ [.ref a1], gs ++ [r], upd_same, ?_, ?_, (k6.trans g1).own nL6, ?_, ?_⟩
          · have := hus.len
            rw [List.length_map] at this
            exact Nat.lt_of_le_of_lt (show _ ≤ 5000 by omega) (by decide)
          · rw [List.map_append]
            exact Dts.mono (fun p xs z => by rw [upd_ne (ne_of z eL7 (fun q => by cases q))]; exact z) ((hus.mono u1).snoc (hdy0.mono u1))
          · rw [List.length_append]
            exact Nat.succ_le_succ lgs
          · intro r' hr''
            rcases List.mem_append.mp hr'' with hr'' | hr''
            · exact all r' hr''
            · rw [List.mem_singleton.mp hr'']
              exact ⟨hrs r mr, es⟩
          · intro r' hr'' es'
            rw [take_one hr'] at hr''
            rcases List.mem_append.mp hr'' with hr'' | hr''
            · exact List.mem_append_left _ (inn r' hr'' es')
            · rw [List.mem_singleton.mp hr'']
              exact List.mem_append_right _ List.mem_cons_self
        · have es : r.2.as ≠ [] := fun y => by
            rw [y, eq_nil_to] at c
            cases c
          refine ⟨us, gs, g1.get eL6, hus.mono u1, Nat.le_succ_of_le lgs, k6.trans g1, all, fun r' hr'' es' => ?_⟩
          rw [take_one hr'] at hr''
          rcases List.mem_append.mp hr'' with hr'' | hr''
          · exact inn r' hr'' es'
          · rw [List.mem_singleton.mp hr''] at es'
            exact absurd es' es
      · rintro H6 ⟨us, gs, eL6, hus, lgs, k6, all, inn⟩
        have lv := hys.len
        rw [List.length_map] at lv
        rw [lv] at lgs inn
        rw [List.take_length] at inn
        have neL6 : L6 ≠ c := fun q => by
          rw [q, hc3] at nL6
          cases nL6
        walk_at "rd"
        refine ⟨L6, us, gs, _, rfl, k6, neL6, eL6, hus, by omega, fun y => ?_, fun r hr => (all r hr).1, fun _ r hr => (all r hr).2⟩
        have := inn r0 hr0 as0
        rw [y] at this
        cases this
    · walk_at "rd"
      refine ⟨L, ys, rs, _, rfl, Kp.refl _ _, neL, eL, hys, lrs, fun y => ?_, hrs, fun y => ?_⟩
      · rw [y] at hr0
        cases hr0
      · have y2 := of_decide_eq_false c1
        omega
  rintro _ H4 ⟨L', ys', rs', v11, rfl, k4, neL', eL', hys', lrs', nrs', hrs', zero⟩
  have lv := hys'.len
  rw [List.length_map] at lv
  have pos : 0 < rs'.length := List.length_pos_iff.mpr nrs'
  have cs4 := cs3.keep k4
  walk_at "rd"
  refine ⟨L', ys', rfl, .inl (SqL.of eL'), ?_⟩
  walk_at "rd"
  refine ⟨c, a, ys'.length, rfl, cs4, by omega, by omega, fun j H5 lo5 hi5 k5 cs5 => ?_⟩
  have k05 : Kp [c] H H5 := (k03.trans k4.of0).trans k5
  have t05 : KeepT H H5 := cs.t k05
  have t35 : KeepT H3 H5 := k4.t0.trans (cs4.t k5)
  walk_at "rd"
  obtain ⟨vr, hvr, _, hj⟩ := at_mem (xs := ys') lo5 hi5
  refine r_ixL (k5 L' _ (by simpa using neL') eL') hvr ?_
  walk_at "rd"
  obtain ⟨dr, hdr, hdy⟩ := (hys'.mono (cs4.t k5)).at hj
  rw [List.getElem?_map] at hdr
  obtain ⟨⟨hd, ty⟩, hr', rfl⟩ := Option.map_eq_some_iff.mp hdr
  have mr := List.mem_of_getElem? hr'
  have okr := hrs' _ mr
  have tr : TyG ty := hdB_all (fun r hr => (good.kinds r hr).wd) wh wown okr.hd
  obtain ⟨a1, x1, rfl, ha1, w1, r1, rfl, hw1, w2, r2, rfl, hw2, rfl⟩ := hdy
  replace hw2 : Dt H5 ty.d w2 := hw2
  rw [Ty.d_eq] at hw2
  obtain ⟨a2, x2, rfl, ha2, w3, r3, rfl, hw3, w4, r4, rfl, hw4, rfl⟩ := hw2
  obtain ⟨a9, x9, rfl, ha9, hs9⟩ := hw3
  have l9 : x9.length = ty.as.length := by rw [hs9.len, tyds_len]
  refine r_gtup ha1 rfl ?_
  walk_at "rd"
  refine r_ixT ha2 rfl ?_
  walk_at "rd"
  have gt := TyG.as tr
  refine ⟨a9, rfl, ⟨_, SqT.of ha9⟩, fun L7 nL7 => lc_it (walk_tup (K := K) (a := a9) (xs := x9)) (fun i H' => ∃ us ds, H' L7 = some (.lst us) ∧ Dts H' ds us ∧ ds.length = i ∧ Kp [c] H5 H' ∧ CS a H' c ∧ frsB sg hs (kids (own ++ as) (ty.as.take i) ds) = true ∧ ∀ d ∈ ds, TmOk (depth - 1) d)
    ⟨[], [], upd_same, rfl, rfl, (Kp.refl _ _).up nL7, cs5.own (cs5.ne nL7), rfl, fun d hd => nomatch hd⟩ (fun i H' _ ⟨_, _, _, _, _, k, _⟩ => SqT.of (cs5.t k _ _ ha9)) ?_ ?_⟩
  · rintro i y H0 H6 hi6 ⟨us, ds, eL7, hds, lds, k6, cs6, fr, all⟩ ⟨rfl, hy⟩
    obtain ⟨dt, hdt, hdy⟩ := (hs9.mono (cs5.t k6)).at hy
    have hi : i < ty.as.length := by omega
    have edt : dt = (ty.as[i]).d := by
      rw [tyds_at (List.getElem?_eq_getElem hi)] at hdt
      exact (Option.some.inj hdt).symm
    subst edt
    have dpos : depth ≠ 0 := fun y => by
      have := zero y _ mr
      have l0 : ty.as.length = 0 := by
        show ty.as.length = 0
        rw [show ty.as = [] from this]
        rfl
      omega
    have k06 : Kp [c] H H6 := k05.trans k6
    have t06 : KeepT H H6 := cs.t k06
    have neL7 : L7 ≠ c := (cs5.ne nL7).1
    walk_at "rd"
    refine ⟨rfl, ?_⟩
    walk_at "rd"
    have ed : ((depth : Int) - 1) = ((depth - 1 : Nat) : Int) := by omega
    refine ⟨c, a, sv, hv, vb, y, depth - 1, sg, hs, own ++ as, ty.as[i], (by rw [ed]; rfl), cs6, hsg.mono1 k06 hc, good, hh.mono t06, wh, hb.mono ((k3.t0.trans t35).trans (cs5.t k6)), wown, hdy, gt.1 _ (List.getElem_mem hi), ?_, lhs, by omega, fun v d H7 k7 cs7 hdv tm okd => ?_⟩
    · rw [List.length_append]
      omega
    · have eL8 := k7 L7 _ (by simpa using neL7) eL7
      refine ⟨us, eL8, ?_, us ++ [v], ds ++ [d], upd_same, ?_, ?_, (k6.trans k7).own nL7, cs7.own (cs5.ne nL7), ?_, ?_⟩
      · have := hds.len
        exact Nat.lt_of_le_of_lt (show _ ≤ 1000 by omega) (by decide)
      · exact Dts.mono (fun p xs z => by rw [upd_ne (ne_of z eL8 (fun q => by cases q))]; exact z) ((hds.mono (cs6.t k7)).snoc hdv)
      · rw [List.length_append, lds]
        rfl
      · rw [take_one (List.getElem?_eq_getElem hi), kids_snoc (by rw [List.length_take, lds]; omega), frsB_app, fr]
        show (true && (frB sg hs (own ++ as, ty.as[i], d) && true)) = true
        rw [Bool.and_true, Bool.true_and]
        exact tm
      · intro d' hd'
        rcases List.mem_append.mp hd' with hd' | hd'
        · exact all d' hd'
        · rw [List.mem_singleton.mp hd']
          exact okd
  · rintro H6 ⟨us, ds, eL7, hds, lds, k6, cs6, fr, all⟩
    have k06 : Kp [c] H H6 := k05.trans k6
    have t06 : KeepT H H6 := cs.t k06
    walk_at "rd"
    refine ⟨L7, us, rfl, .inl ⟨SqL.of eL7, fun l nl => ?_⟩⟩
    obtain ⟨k7, t7, d7⟩ := new_tup nl hds
    walk_at "rd"
    refine r_ixT (k7.get (t06 _ _ hak)) rfl ?_
    walk_at "rd"
    refine ⟨a3, x3, rfl, .inr (SqT.of (k7.get (t06 _ _ ha3))), ?_⟩
    walk_at "rd"
    rw [l3]
    refine r_tupN (ds := [.int (as.length : Nat), hd, .tup ds]) (Dts.cons dt_int (Dts.cons (hw1.mono ((cs5.t k6).trans t7)) (Dts.cons d7 Dts.nil))) (by simp) fun p2 H8 k8 t8 n8 e8 d8 => ?_
    walk_at "rd"
    refine q _ _ H8 (k06.trans (k7.trans k8).of0) (cs6.keep (k7.trans k8)) d8 ?_ ?_
    · have e := tmB_eq (sg := sg) (hs := hs) (own := own) (k := .mk as srt) (x := hd) (ps := ds)
      have e2 : tmB sg hs own (.mk as srt) (.tup [.int (as.length : Nat), hd, .tup ds]) = match hdB sg hs (own ++ as) hd with
        | none => false
        | some t => decide (t.s = srt) && decide (t.as.length = ds.length) && tmsB sg hs (own ++ as) t.as ds := e
      have ehd : hdB sg hs (own ++ as) hd = some ty := okr.hd
      have els : ty.s = srt := okr.s
      have ell : ty.as.length = ds.length := by omega
      rw [e2, ehd]
      rw [List.take_of_length_le (by omega), kids_B ell] at fr
      simp [els, ell, fr]
    · refine tm_ok okr.tx okr.dp okr.sz (by have := gt.2.1; omega) (fun y => ?_) all
      have z1 := zero y _ mr
      have l0 : ty.as.length = 0 := by
        rw [show ty.as = [] from z1]
        rfl
      exact List.eq_nil_of_length_eq_zero (by omega)
end
end K02
end

section
/-! The law's long forms. -/
namespace K02
open PySem L2 PyProof.Rows PySem.Spec Lc
variable [Lc.Tbs]
local macro_rules | `(tactic| walk_at "rd") => `(tactic| repeat (first
  | with_reducible refine r_seq ?_ | with_reducible refine r_mknx ?_ | with_reducible refine r_mkrt ?_ | with_reducible refine r_asg ?_ | with_reducible refine r_name ?_ | with_reducible refine r_next ?_
  | with_reducible refine r_drop ?_ | with_reducible refine r_ret ?_ | with_reducible refine r_if ?_
  | ((with_reducible refine' r_var ?e ?_); (case e => rfl)) | with_reducible refine r_c ?_ | with_reducible refine r_op ?_ | with_reducible refine r_un ?_ | with_reducible refine r_test ?_ | with_reducible refine r_tb ?_
  | with_reducible refine r_and ?_ | with_reducible refine r_or ?_ | with_reducible refine r_not ?_ | with_reducible refine r_andV ?_ | with_reducible refine r_orV ?_ | with_reducible refine r_notV ?_ | with_reducible refine r_bl ?_
  | with_reducible refine r_cb ?_ | with_reducible refine r_cons ?_ | with_reducible refine r_nil ?_ | with_reducible refine r_tup ?_ | with_reducible refine r_lst ?_ | with_reducible refine r_call ?_
  | with_reducible refine r_i0 ?_ | with_reducible refine r_par ?_ | with_reducible refine r_two ?_ | with_reducible refine r_lc ?_ | with_reducible refine r_iL ?_ | with_reducible refine r_iT ?_ | with_reducible refine r_iS ?_ | with_reducible refine r_i1 ?_ | with_reducible refine r_yes ?_ | with_reducible refine r_chain ?_ | with_reducible refine if_t rfl ?_ | with_reducible refine if_f rfl ?_ | with_reducible refine r_nt ?_ | ((with_reducible refine r_eq ?e ?_); (case e => rfl)) | ((with_reducible refine r_ne ?e ?_); (case e => rfl))
  | with_reducible refine r_sub ?_ | with_reducible refine r_sl ?_ | with_reducible refine r_nopart ?_ | with_reducible refine r_part ?_ | with_reducible refine r_int ?_ | with_reducible refine r_bm ?_ | with_reducible refine r_bm0 ?_ | with_reducible refine r_gcons ?_ | with_reducible refine r_gnil ?_ | with_reducible refine r_dget1 ?_ | with_reducible refine r_dget2 ?_))


local macro_rules | `(tactic| walk_at "dt") => `(tactic| repeat' (first | (show Dt _ _ _; assumption) | exact dt_str | exact dt_int | exact dt_bl | exact dt_non | exact Dts.nil | refine' Dts.cons ?_ ?_ | (refine' Dt.mono ?kk ?_; (case kk => assumption)) | fail))
local macro_rules | `(tactic| walk_at "at") => `(tactic| repeat (first | assumption | (refine' Kp.ge ?kk ?nn ?_; (case kk => assumption); (case nn => intro _ z; cases z)) | fail))
local macro_rules | `(tactic| walk_at "kp") => `(tactic| repeat (first | assumption | exact Kp.refl _ _ | (refine' Kp.trans ?_ ?kk; (case kk => assumption)) | fail))
local macro_rules | `(tactic| walk_at "tup") => `(tactic| (refine' r_tupN ?h ?f ?k; (case h => walk_at "dt"); (case f => simp); skip))
def spLong (n : Nat) : Sp := fun vs H Q _ => ∃ hv kv s i k, vs = [hv, kv] ∧ Dt H (hd2 s i) hv ∧ Dt H (Lc.Ty.d k) kv ∧ k.Ok 1000 ∧ k.d.dp < n ∧ ∀ v H', Kp [] H H' → Dt H' (longD s i k) v → Q v H'
abbrev s_law_long : Stmt := top 20
abbrev N_law_long : List Str := ["head", "kind", "many", "j"]
theorem sc_law_long : FnScope N_law_long ["head", "kind"] (defScope s_law_long) := ⟨rfl, rfl, rfl, by decide +kernel, rfl, by decide +kernel, by decide +kernel⟩
section
variable {P : Program} {w : World} {K : PySem.W.Frag} {mg : Str → Option Value} {base : Heap}
theorem ok_law_long0 {k n : Nat} (F : Df K mg "_law_long" s_law_long ["head", "kind"]) (T : Txt mg) (C_law_long : Cal P w K mg base "_law_long" ["head", "kind"] k (spLong n)) :
    Cal P w K mg base "_law_long" ["head", "kind"] (k + 1) (spLong (n + 1)) := by
  refine F.ok sc_law_long (fun vs H Q E h => ?_) (fun f cdv A outer s H vs Q E hr h => ?_)
  · obtain ⟨hv, kv, s, i, k, rfl, _⟩ := h
    rfl
  obtain ⟨hv, kv, s, i, kd, rfl, hh, hk, ok, dk, q⟩ := h
  rw [Ty.d_eq] at hk
  obtain ⟨ak, xk, rfl, hak, va, r2, rfl, hva, vs2, r3, rfl, hvs2, rfl⟩ := hk
  obtain ⟨a3, x3, rfl, ha3, hs3⟩ := hva
  have l3 : x3.length = kd.as.length := by rw [hs3.len, tyds_len]
  obtain ⟨ah, xh, rfl, hah, vh, r2, rfl, hvh, vi, r3, rfl, hvi, rfl⟩ := hh
  cases hvh.str
  cases hvi.int
  have oka := Ty.Ok.as ok
  refine ⟨_, (pss_cons (ps_set (i := 2) sc_law_long.nd rfl (Or.inr rfl) (pe_callB call_len_seq (by rfl) T.z_len (by decide +kernel) (pa_cons (pe_ix ix_tup (pv 1) pe_int (fun _ _ => rfl)) pa_nil)))
      (Evl.pss_cut (ps_if (pt_cmpR op_eq (pe_ix ix_tup (pv 0) pe_int (fun _ _ => rfl)) pe_str (nomark _)) (pss_one (ps_set (i := 0) sc_law_long.nd rfl (Or.inl rfl) (pe_tup (pa_cons pe_str (pa_cons (pe_op op_add (pe_ix ix_tup (pv 0) pe_int (fun _ _ => rfl)) (pv 2)) pa_nil))))) pss_nil)
      (pss_one (ps_ret (pe_tup (pa_cons (pv 2) (pa_cons (pv 0) (pa_cons (pe_callTy call_tuple_of (by rfl) T.z_tuple (by decide +kernel) (pa_cons (pe_lc (own := [("j", 3)]) (g := gName 3) rfl sc_law_long.nd (pi_range1 rfl T.z_range (pa_cons (pv 2) pa_nil)) (blkOk_by (N := N_law_long) (sc := defScope s_law_long) (by decide +kernel)) (fun _ _ _ _ _ => (pg_name (i := 3) sc_law_long.nd rfl (Or.inl rfl))) (fun _ _ _ _ _ => pts_nil) (fun _ _ _ _ _ => (pe_cal C_law_long hr rfl (pa_cons (pe_tup (pa_cons pe_str (pa_cons (pe_op op_sub (pe_op op_sub (pv 2) pe_int) (pv 3)) pa_nil))) (pa_cons (pe_ix (r := rIxT K) ix_tup (pe_ix (r := rIxT K) ix_tup (pv 1) pe_int (fun _ _ => rfl)) (pv 3) (fun _ _ => rfl)) pa_nil))))) pa_nil)) pa_nil)))))))), ?_⟩
  walk_at "rd"
  refine r_ixT hak rfl ?_
  walk_at "rd"
  refine ⟨a3, x3, rfl, .inr (SqT.of ha3), ?_⟩
  walk_at "rd"
  rw [l3]
  refine r_cut (fun σ H' => ∃ hv', σ = [some hv', some (.ref ak), some (.int kd.as.length), none] ∧ Kp [] H H' ∧ Dt H' (raiseH s i kd.as.length) hv') ?_ ?_
  · walk_at "rd"
    refine r_ixT hah rfl ?_
    walk_at "rd"
    refine if_2 (fun c => ?_) (fun c => ?_)
    · have es : s = "b" := V.str.inj (of_decide_eq_true c)
      walk_at "rd"
      refine r_ixT hah rfl ?_
      walk_at "rd"
      refine r_tupN (ds := [.str "b", .int (i + kd.as.length)]) (by walk_at "dt") (by simp) fun p1 H1 k1 t1 n1 e1 d1 => ?_
      walk_at "rd"
      refine ⟨_, rfl, k1, ?_⟩
      unfold raiseH
      rw [if_pos es]
      exact d1
    · have es : s ≠ "b" := fun z => of_decide_eq_false c (by rw [z])
      walk_at "rd"
      refine ⟨_, rfl, Kp.refl _ _, ?_⟩
      unfold raiseH
      rw [if_neg es]
      exact ⟨ah, _, rfl, hah, Dts.cons dt_str (Dts.cons dt_int Dts.nil)⟩
  rintro _ H1 ⟨hv', rfl, k1, hr1⟩
  walk_at "rd"
  refine ⟨_, rfl, by omega, by omega, fun L nL => lc_it walk_range (fun j H' => ∃ us, H' L = some (.lst us) ∧ Dts H' ((longs kd.as.length 0 kd.as).take j) us ∧ Kp [] H1 H')
    ⟨[], upd_same, rfl, (Kp.refl _ _).up nL⟩ (fun _ _ _ _ => trivial) ?_ ?_⟩
  · rintro j y H0 H2 hj ⟨us, eL, hus, k2⟩ ⟨rfl, rfl⟩
    have hj' : j < kd.as.length := by simpa using hj
    have k02 := k1.trans k2
    walk_at "rd"
    refine ⟨rfl, ?_⟩
    walk_at "rd"
    have ej : ((kd.as.length : Int) - 1 - (0 + (j : Int))) = (kd.as.length : Int) - 1 - (0 + j : Nat) := by omega
    refine r_tupN (ds := [.str "b", .int ((kd.as.length : Int) - 1 - (0 + j : Nat))]) (Dts.cons dt_str (Dts.cons (show (V.int _ : V) = .int _ by rw [ej]) Dts.nil)) (by simp) fun p1 H3 k3 t3 n3 e3 d3 => ?_
    walk_at "rd"
    refine r_ixT ((k02.trans k3).get hak) rfl ?_
    walk_at "rd"
    obtain ⟨w3, hw3, hdw3⟩ := (hs3.mono (k02.trans k3).t0).of (tyds_at (List.getElem?_eq_getElem hj'))
    refine r_ixT ((k02.trans k3).get ha3) (by simpa using atI_nat hw3) ?_
    walk_at "rd"
    have mj := List.getElem_mem hj'
    refine ⟨.ref p1, w3, "b", _, kd.as[j], rfl, d3, hdw3, oka.1.at mj, (by have := ty_dp_mem mj; omega), fun v H4 k4 hv4 => ?_⟩
    have eL4 := (k3.trans k4).get eL
    refine ⟨us, eL4, ?_, us ++ [v], upd_same, ?_, ((k2.trans k3).trans k4).own nL⟩
    · have := hus.len
      rw [List.length_take, longs_len] at this
      have := oka.2.1
      exact Nat.lt_of_le_of_lt (show _ ≤ 1000 by omega) (by decide)
    · rw [take_one (longs_at _ _ _ _ _ (List.getElem?_eq_getElem hj'))]
      exact Dts.mono (fun p xs z => by rw [upd_ne (ne_of z eL4 (fun q => by cases q))]; exact z) ((hus.mono (k3.trans k4).t0).snoc hv4)
  · rintro H2 ⟨us, eL, hus, k2⟩
    rw [List.take_of_length_le (by rw [longs_len]; simp)] at hus
    walk_at "rd"
    refine ⟨L, us, rfl, .inl ⟨SqL.of eL, fun l nl => ?_⟩⟩
    obtain ⟨k3, t3, d3⟩ := new_tup nl hus
    walk_at "rd"
    refine r_tupN (ds := [.int kd.as.length, raiseH s i kd.as.length, .tup (longs kd.as.length 0 kd.as)]) (Dts.cons dt_int (Dts.cons (hr1.mono (k2.trans k3).t0) (Dts.cons d3 Dts.nil))) (by simp) fun p2 H4 k4 t4 n4 e4 d4 => ?_
    walk_at "rd"
    refine q _ H4 (((k1.trans k2).trans k3).trans k4) ?_
    rw [longD_eq]
    exact d4
end
end K02
end

section
/-! Nodes in the order of reading. -/
namespace Lc
open PySem L2 PyProof.Rows PySem.Spec
variable [Lc.Tbs]
/-- a node with the number of binders -/
abbrev Pl := D × Int
def plD (x : Pl) : D := .tup [x.1, .int x.2]
mutual
def preo (o : Int) : D → List Pl
  | .tup [.int n, h, .tup ps] => (.tup [.int n, h, .tup ps], o + n) :: preos (o + n) ps
  | _ => []
def preos (o : Int) : List D → List Pl
  | [] => []
  | p :: ps => preo o p ++ preos o ps
end
mutual
/-- it has the form of a term throughout -/
def tmF : D → Bool
  | .tup [.int _, _, .tup ps] => tmFs ps
  | _ => false
def tmFs : List D → Bool
  | [] => true
  | p :: ps => tmF p && tmFs ps
end
theorem preo_eq (o n : Int) (h : D) (ps : List D) : preo o (.tup [.int n, h, .tup ps]) = (.tup [.int n, h, .tup ps], o + n) :: preos (o + n) ps := by rw [preo]
theorem preos_flat (o : Int) : ∀ ps : List D, preos o ps = (ps.map (preo o)).flatten
  | [] => by rw [preos]; rfl
  | p :: ps => by rw [preos, preos_flat o ps]; rfl
theorem tmF_of {d : D} (h : tmF d = true) : ∃ n x ps, d = .tup [.int n, x, .tup ps] ∧ tmFs ps = true := by
  unfold tmF at h
  split at h
  · exact ⟨_, _, _, rfl, h⟩
  · cases h
theorem tmFs_mem : ∀ {ps : List D}, tmFs ps = true → ∀ p ∈ ps, tmF p = true
  | [], _, p, hp => nomatch hp
  | q :: ps, h, p, hp => by
    rw [tmFs, Bool.and_eq_true] at h
    rcases List.mem_cons.mp hp with rfl | hp
    · exact h.1
    · exact tmFs_mem h.2 p hp
mutual
theorem preo_len (o : Int) : ∀ d : D, (preo o d).length ≤ d.sz
  | .tup xs => by
    unfold preo
    split
    · next n h ps e =>
      injection e with e
      subst e
      have := preos_len (o + n) ps
      have ez : (D.tup [.int n, h, .tup ps]).sz = 1 + (1 + (h.sz + ((1 + szs ps) + 0))) := rfl
      rw [List.length_cons]
      omega
    · exact Nat.zero_le _
  | .non => Nat.zero_le _
  | .bl _ => Nat.zero_le _
  | .int _ => Nat.zero_le _
  | .str _ => Nat.zero_le _
theorem preos_len (o : Int) : ∀ ps : List D, (preos o ps).length ≤ szs ps
  | [] => by rw [preos]; exact Nat.zero_le _
  | p :: ps => by
    have h1 := preo_len o p
    have h2 := preos_len o ps
    rw [preos, szs, List.length_append]
    omega
end
/-- what the stack will still give, its end first -/
def stackPl (t : List Pl) : List Pl := (t.reverse.map fun x => preo x.2 x.1).flatten
theorem stackPl_snoc (t : List Pl) (x : Pl) : stackPl (t ++ [x]) = preo x.2 x.1 ++ stackPl t := by
  unfold stackPl
  rw [List.reverse_append]
  rfl
theorem stackPl_app (t u : List Pl) : stackPl (t ++ u) = stackPl u ++ stackPl t := by
  unfold stackPl
  rw [List.reverse_append, List.map_append, List.flatten_append]
theorem stackPl_parts (o : Int) (ps : List D) : stackPl (ps.reverse.map fun p => (p, o)) = preos o ps := by
  unfold stackPl
  rw [preos_flat, ← List.map_reverse, List.reverse_reverse, List.map_map]
  rfl
def stackZ (t : List Pl) : Nat := (t.map fun x => x.1.sz).sum
theorem stackZ_app (t u : List Pl) : stackZ (t ++ u) = stackZ t + stackZ u := by unfold stackZ; rw [List.map_append, List.sum_append]
theorem stackZ_len (fs : List Pl) : fs.length ≤ stackZ fs := by
  induction fs with
  | nil => exact Nat.le_refl _
  | cons f fs ih =>
    have := f.1.sz_pos
    have e : stackZ (f :: fs) = f.1.sz + stackZ fs := rfl
    rw [e, List.length_cons]
    omega
theorem stackZ_parts (o : Int) : ∀ ps : List D, stackZ (ps.map fun p => (p, o)) = szs ps
  | [] => rfl
  | p :: ps => by
    have e : stackZ ((p :: ps).map fun p => (p, o)) = p.sz + stackZ (ps.map fun p => (p, o)) := rfl
    rw [e, stackZ_parts o ps, szs]
theorem szs_rev (ps : List D) : szs ps.reverse = szs ps := by
  induction ps with
  | nil => rfl
  | cons p ps ih =>
    rw [List.reverse_cons, szs_app, ih, szs, szs, szs]
    omega
section
variable {K : PySem.W.Frag} {a : Addr} {xs : List V}
theorem walk_revT : Walk (RT.ItvT K a xs.length) xs.length (fun H => SqT K H a xs) (fun i H x H' => H' = H ∧ xs[xs.length - 1 - i]? = some x) :=
  ⟨fun i _ hi q => ⟨hi, xs, xs[xs.length - 1 - i]'(by omega), q, by simp [show xs.length - 1 - i < xs.length by omega]⟩, fun _ _ => Nat.le_refl _, fun _ _ _ _ _ q y => ⟨y.1, y.2 xs q⟩⟩
end
section
variable {K : PySem.W.Frag} {σ : L2.St} {H : Hp}
theorem r_iR {te : TE} {R : It → Hp → Prop} (h : te σ H fun v H1 => ∃ (a : Addr) (xs : List V), v = .ref a ∧ ((SqL K H1 a xs ∧ R (Itv K a xs.length) H1) ∨ (SqT K H1 a xs ∧ R (RT.ItvT K a xs.length) H1))) : RT.iRevA K te σ H R := h
theorem r_par3 {i j l : Nat} {A : TA} {D0 : Ends} (h : A σ H fun vs H1 => ∃ u v w, vs = [u, v, w] ∧ D0.nx (((σ.set i (some u)).set j (some v)).set l (some w)) H1) : tPar3 i j l A D0 σ H := h
end
end Lc
end

section
/-! Lifting. -/
namespace Lc
open PySem L2 PyProof.Rows PySem.Spec
variable [Lc.Tbs]
/-- a head, as it is written -/
def hdG : D → Bool
  | .tup [.str s, .int _] => decide (s = "b") || decide (s = "h")
  | .tup [.str s, .str _] => decide (s = "c")
  | _ => false
mutual
def tmG : D → Bool
  | .tup [.int _, h, .tup ps] => hdG h && tmGs ps
  | _ => false
def tmGs : List D → Bool
  | [] => true
  | p :: ps => tmG p && tmGs ps
end
theorem hdG_of {h : D} (g : hdG h = true) : (∃ s i, h = hd2 s i ∧ (s = "b" ∨ s = "h")) ∨ ∃ x, h = .tup [.str "c", .str x] := by
  unfold hdG at g
  split at g
  · next s i =>
    rcases (Bool.or_eq_true _ _).mp g with z | z
    · exact .inl ⟨s, i, rfl, .inl (of_decide_eq_true z)⟩
    · exact .inl ⟨s, i, rfl, .inr (of_decide_eq_true z)⟩
  · next s x =>
    rw [of_decide_eq_true g]
    exact .inr ⟨x, rfl⟩
  · cases g
theorem tmG_of {d : D} (h : tmG d = true) : ∃ n x ps, d = .tup [.int n, x, .tup ps] ∧ hdG x = true ∧ tmGs ps = true := by
  unfold tmG at h
  split at h
  · rw [Bool.and_eq_true] at h
    exact ⟨_, _, _, rfl, h.1, h.2⟩
  · cases h
theorem tmG_eq (n : Int) (x : D) (ps : List D) : tmG (.tup [.int n, x, .tup ps]) = (hdG x && tmGs ps) := by rw [tmG]
theorem tmGs_mem : ∀ {ps : List D}, tmGs ps = true → ∀ p ∈ ps, tmG p = true
  | [], _, p, hp => nomatch hp
  | q :: ps, h, p, hp => by
    rw [tmGs, Bool.and_eq_true] at h
    rcases List.mem_cons.mp hp with rfl | hp
    · exact h.1
    · exact tmGs_mem h.2 p hp
theorem hdB_G {sg : Sg} {hs own : List Ty} {d : D} {t : Ty} (h : hdB sg hs own d = some t) : hdG d = true := by
  unfold hdB at h
  split at h
  · next s m =>
    unfold hkB at h
    split at h
    · next c =>
      rw [Bool.and_eq_true] at c
      cases eqD_strR c.1
      obtain ⟨x, rfl⟩ := D.str_of c.2
      rfl
    · unfold hkM at h
      split at h
      · next i =>
        split at h
        · exact absurd h (by simp)
        · unfold hkI at h
          split at h
          · next c =>
            rw [Bool.and_eq_true] at c
            cases eqD_strR c.1
            rfl
          · split at h
            · next c =>
              rw [Bool.and_eq_true] at c
              cases eqD_strR c.1
              show (decide (("h" : Str) = "b") || decide (("h" : Str) = "h")) = true
              rw [decide_eq_true rfl, Bool.or_true]
            · exact absurd h (by simp)
      · exact absurd h (by simp)
  · exact absurd h (by simp)
mutual
theorem tmB_G {sg : Sg} {hs : List Ty} : ∀ (own : List Ty) (k : Ty) (d : D), tmB sg hs own k d = true → tmG d = true
  | own, k, .tup xs, h => by
    unfold tmB at h
    split at h
    · next n x ps e =>
      injection e with e
      subst e
      rw [Bool.and_eq_true] at h
      obtain ⟨_, h⟩ := h
      split at h
      · cases h
      · next t ht =>
        rw [Bool.and_eq_true] at h
        rw [tmG_eq, hdB_G ht, tmsB_G _ _ ps h.2]
        rfl
    · cases h
  | _, _, .non, h => by simp [tmB] at h
  | _, _, .bl _, h => by simp [tmB] at h
  | _, _, .int _, h => by simp [tmB] at h
  | _, _, .str _, h => by simp [tmB] at h
theorem tmsB_G {sg : Sg} {hs : List Ty} : ∀ (own : List Ty) (ts : List Ty) (ps : List D), tmsB sg hs own ts ps = true → tmGs ps = true
  | _, _, [], _ => by rw [tmGs]
  | own, ts, p :: ps, h => by
    cases ts with
    | nil => simp [tmsB] at h
    | cons t ts =>
      rw [tmsB] at h
      have h' : (tmB sg hs own t p && tmsB sg hs own ts ps) = true := h
      rw [Bool.and_eq_true] at h'
      rw [tmGs, tmB_G own t p h'.1, tmsB_G own ts ps h'.2]
      rfl
end
mutual
theorem tmG_F : ∀ d : D, tmG d = true → tmF d = true
  | .tup xs, h => by
    unfold tmG at h
    split at h
    · next n x ps e =>
      injection e with e
      subst e
      rw [Bool.and_eq_true] at h
      rw [tmF]
      exact tmGs_F ps h.2
    · cases h
  | .non, h => by simp [tmG] at h
  | .bl _, h => by simp [tmG] at h
  | .int _, h => by simp [tmG] at h
  | .str _, h => by simp [tmG] at h
theorem tmGs_F : ∀ ps : List D, tmGs ps = true → tmFs ps = true
  | [], _ => by rw [tmFs]
  | p :: ps, h => by
    rw [tmGs, Bool.and_eq_true] at h
    rw [tmFs, tmG_F p h.1, tmGs_F ps h.2]
    rfl
end
/-- a head lifted by k, inner binders being its own -/
def liftH (k inner : Int) : D → D
  | .tup [.str s, .int i] => if s = "b" ∧ inner ≤ i then hb (i + k) else hd2 s i
  | h => h
mutual
def liftD (k o : Int) : D → D
  | .tup [.int n, h, .tup ps] => .tup [.int n, liftH k (o + n) h, .tup (lifts k (o + n) ps)]
  | .tup xs => .tup xs
  | .non => .non
  | .bl b => .bl b
  | .int i => .int i
  | .str x => .str x
def lifts (k o : Int) : List D → List D
  | [] => []
  | p :: ps => liftD k o p :: lifts k o ps
end
theorem liftD_eq (k o n : Int) (h : D) (ps : List D) : liftD k o (.tup [.int n, h, .tup ps]) = .tup [.int n, liftH k (o + n) h, .tup (lifts k (o + n) ps)] := by rw [liftD]
theorem lifts_map (k o : Int) : ∀ ps : List D, lifts k o ps = ps.map (liftD k o)
  | [] => by rw [lifts]; rfl
  | p :: ps => by rw [lifts, lifts_map k o ps, List.map_cons]
end Lc
end

section
/-! The law's lifting. -/
namespace K02
open PySem L2 PyProof.Rows PySem.Spec Lc
variable [Lc.Tbs]
local macro_rules | `(tactic| walk_at "rd") => `(tactic| repeat (first
  | with_reducible refine r_seq ?_ | with_reducible refine r_mknx ?_ | with_reducible refine r_mkrt ?_ | with_reducible refine r_asg ?_ | with_reducible refine r_name ?_ | with_reducible refine r_next ?_
  | with_reducible refine r_drop ?_ | with_reducible refine r_ret ?_ | with_reducible refine r_if ?_
  | ((with_reducible refine' r_var ?e ?_); (case e => rfl)) | with_reducible refine r_c ?_ | with_reducible refine r_op ?_ | with_reducible refine r_un ?_ | with_reducible refine r_test ?_ | with_reducible refine r_tb ?_
  | with_reducible refine r_and ?_ | with_reducible refine r_or ?_ | with_reducible refine r_not ?_ | with_reducible refine r_andV ?_ | with_reducible refine r_orV ?_ | with_reducible refine r_notV ?_ | with_reducible refine r_bl ?_
  | with_reducible refine r_cb ?_ | with_reducible refine r_cons ?_ | with_reducible refine r_nil ?_ | with_reducible refine r_tup ?_ | with_reducible refine r_lst ?_ | with_reducible refine r_call ?_
  | with_reducible refine r_i0 ?_ | with_reducible refine r_par ?_ | with_reducible refine r_two ?_ | with_reducible refine r_lc ?_ | with_reducible refine r_iL ?_ | with_reducible refine r_iT ?_ | with_reducible refine r_iS ?_ | with_reducible refine r_i1 ?_ | with_reducible refine r_yes ?_ | with_reducible refine r_chain ?_ | with_reducible refine if_t rfl ?_ | with_reducible refine if_f rfl ?_ | with_reducible refine r_nt ?_ | ((with_reducible refine r_eq ?e ?_); (case e => rfl)) | ((with_reducible refine r_ne ?e ?_); (case e => rfl))
  | with_reducible refine r_sub ?_ | with_reducible refine r_sl ?_ | with_reducible refine r_nopart ?_ | with_reducible refine r_part ?_ | with_reducible refine r_int ?_ | with_reducible refine r_bm ?_ | with_reducible refine r_bm0 ?_ | with_reducible refine r_gcons ?_ | with_reducible refine r_gnil ?_ | with_reducible refine r_dget1 ?_ | with_reducible refine r_dget2 ?_))


local macro_rules | `(tactic| walk_at "dt") => `(tactic| repeat' (first | (show Dt _ _ _; assumption) | exact dt_str | exact dt_int | exact dt_bl | exact dt_non | exact Dts.nil | refine' Dts.cons ?_ ?_ | (refine' Dt.mono ?kk ?_; (case kk => assumption)) | fail))
local macro_rules | `(tactic| walk_at "at") => `(tactic| repeat (first | assumption | (refine' Kp.ge ?kk ?nn ?_; (case kk => assumption); (case nn => intro _ z; cases z)) | fail))
local macro_rules | `(tactic| walk_at "kp") => `(tactic| repeat (first | assumption | exact Kp.refl _ _ | (refine' Kp.trans ?_ ?kk; (case kk => assumption)) | fail))
local macro_rules | `(tactic| walk_at "tup") => `(tactic| (refine' r_tupN ?h ?f ?k; (case h => walk_at "dt"); (case f => simp); skip))
def spLiftL (n : Nat) : Sp := fun vs H Q _ => ∃ v d k o, vs = [v, .int k, .int o] ∧ Dt H d v ∧ tmG d = true ∧ d.dp < n ∧ d.sz ≤ 1000000 ∧ ∀ r H', Kp [] H H' → Dt H' (liftD k o d) r → Q r H'

section
variable {P : Program} {w : World} {K : PySem.W.Frag} {mg : Str → Option Value} {base : Heap}
end
end K02
end

section
/-! The program's long forms. -/
namespace K02
open PySem L2 PyProof.Rows PySem.Spec Lc
variable [Lc.Tbs]
local macro_rules | `(tactic| walk_at "rd") => `(tactic| repeat (first
  | with_reducible refine r_seq ?_ | with_reducible refine r_mknx ?_ | with_reducible refine r_mkrt ?_ | with_reducible refine r_asg ?_ | with_reducible refine r_name ?_ | with_reducible refine r_next ?_
  | with_reducible refine r_drop ?_ | with_reducible refine r_ret ?_ | with_reducible refine r_if ?_
  | ((with_reducible refine' r_var ?e ?_); (case e => rfl)) | with_reducible refine r_c ?_ | with_reducible refine r_op ?_ | with_reducible refine r_un ?_ | with_reducible refine r_test ?_ | with_reducible refine r_tb ?_
  | with_reducible refine r_and ?_ | with_reducible refine r_or ?_ | with_reducible refine r_not ?_ | with_reducible refine r_andV ?_ | with_reducible refine r_orV ?_ | with_reducible refine r_notV ?_ | with_reducible refine r_bl ?_
  | with_reducible refine r_cb ?_ | with_reducible refine r_cons ?_ | with_reducible refine r_nil ?_ | with_reducible refine r_tup ?_ | with_reducible refine r_lst ?_ | with_reducible refine r_call ?_
  | with_reducible refine r_i0 ?_ | with_reducible refine r_par ?_ | with_reducible refine r_two ?_ | with_reducible refine r_lc ?_ | with_reducible refine r_iL ?_ | with_reducible refine r_iT ?_ | with_reducible refine r_iS ?_ | with_reducible refine r_i1 ?_ | with_reducible refine r_yes ?_ | with_reducible refine r_chain ?_ | with_reducible refine if_t rfl ?_ | with_reducible refine if_f rfl ?_ | with_reducible refine r_nt ?_ | ((with_reducible refine r_eq ?e ?_); (case e => rfl)) | ((with_reducible refine r_ne ?e ?_); (case e => rfl))
  | with_reducible refine r_sub ?_ | with_reducible refine r_sl ?_ | with_reducible refine r_nopart ?_ | with_reducible refine r_part ?_ | with_reducible refine r_int ?_ | with_reducible refine r_bm ?_ | with_reducible refine r_bm0 ?_ | with_reducible refine r_gcons ?_ | with_reducible refine r_gnil ?_ | with_reducible refine r_dget1 ?_ | with_reducible refine r_dget2 ?_))


local macro_rules | `(tactic| walk_at "dt") => `(tactic| repeat' (first | (show Dt _ _ _; assumption) | exact dt_str | exact dt_int | exact dt_bl | exact dt_non | exact Dts.nil | refine' Dts.cons ?_ ?_ | (refine' Dt.mono ?kk ?_; (case kk => assumption)) | fail))
local macro_rules | `(tactic| walk_at "at") => `(tactic| repeat (first | assumption | (refine' Kp.ge ?kk ?nn ?_; (case kk => assumption); (case nn => intro _ z; cases z)) | fail))
local macro_rules | `(tactic| walk_at "kp") => `(tactic| repeat (first | assumption | exact Kp.refl _ _ | (refine' Kp.trans ?_ ?kk; (case kk => assumption)) | fail))
local macro_rules | `(tactic| walk_at "tup") => `(tactic| (refine' r_tupN ?h ?f ?k; (case h => walk_at "dt"); (case f => simp); skip))
def raiseG (n : Int) : D → D
  | .tup [.str s, .int i] => raiseH s i n
  | h => h
def spRaised : Sp := fun vs H Q _ => ∃ hv h n, vs = [hv, .int n] ∧ Dt H h hv ∧ hdG h = true ∧ ∀ r H', Kp [] H H' → Dt H' (raiseG n h) r → Q r H'
def spLongP (n : Nat) : Sp := fun vs H Q _ => ∃ hv kv s i k, vs = [hv, kv] ∧ Dt H (hd2 s i) hv ∧ (s = "b" ∨ s = "h") ∧ Dt H (Lc.Ty.d k) kv ∧ k.Ok 1000 ∧ k.d.dp < n ∧ ∀ v H', Kp [] H H' → Dt H' (longD s i k) v → Q v H'
def spLongRow (n : Nat) : Sp := fun vs H Q _ => ∃ bv ts, vs = [bv] ∧ Dt H (.tup (tyds ts)) bv ∧ TysOk 1000 ts ∧ ts.length ≤ 1000 ∧ dps (tyds ts) < n ∧ ∀ v H', Kp [] H H' → Dt H' (.tup (longs ts.length 0 ts)) v → Q v H'
def spLongOf (s : Str) (n : Nat) : Sp := fun vs H Q _ => ∃ kv i k, vs = [.int i, kv] ∧ Dt H (Lc.Ty.d k) kv ∧ k.Ok 1000 ∧ k.d.dp < n ∧ ∀ v H', Kp [] H H' → Dt H' (longD s i k) v → Q v H'
abbrev s_raised_head : Stmt := top 8
abbrev N_raised_head : List Str := ["head", "k"]
theorem sc_raised_head : FnScope N_raised_head ["head", "k"] (defScope s_raised_head) := ⟨rfl, rfl, rfl, by decide +kernel, rfl, by decide +kernel, by decide +kernel⟩
section
variable {P : Program} {w : World} {K : PySem.W.Frag} {mg : Str → Option Value} {base : Heap}
theorem ok_raised (F : Df K mg "raised_head" s_raised_head ["head", "k"]) (T : Txt mg) : Cal P w K mg base "raised_head" ["head", "k"] 1 spRaised := by
  refine F.ok sc_raised_head (fun vs H Q E h => ?_) (fun f cdv A outer s H vs Q E hr h => ?_)
  · obtain ⟨hv, h, n, rfl, _⟩ := h
    rfl
  obtain ⟨hv, h, n, rfl, h2, gx, q⟩ := h
  refine ⟨_, (pss_cons (ps_if (pt_cmpR op_eq (pe_ix ix_tup (pv 0) pe_int (fun _ _ => rfl)) pe_str (nomark _)) (pss_one (ps_ret (pe_tup (pa_cons pe_str (pa_cons (pe_op op_add (pe_ix ix_tup (pv 0) pe_int (fun _ _ => rfl)) (pv 1)) pa_nil))))) pss_nil)
      (pss_one (ps_ret (pv 0)))), ?_⟩
  walk_at "rd"
  rcases hdG_of gx with ⟨s, i, rfl, _⟩ | ⟨y, rfl⟩
  · have h20 := h2
    obtain ⟨ah, xh, rfl, hah, vh, r2, rfl, hvh, vi, r3, rfl, hvi, rfl⟩ := h2
    cases hvh.str
    cases hvi.int
    have el : raiseG n (hd2 s i) = if s = "b" then hd2 "b" (i + n) else hd2 s i := rfl
    refine r_ixT hah rfl ?_
    walk_at "rd"
    refine if_2 (fun c => ?_) (fun c => ?_)
    · have es : s = "b" := V.str.inj (of_decide_eq_true c)
      walk_at "rd"
      refine r_ixT hah rfl ?_
      walk_at "rd"
      refine r_tupN (ds := [.str "b", .int (i + n)]) (by walk_at "dt") (by simp) fun p1 H1 k1 t1 n1 e1 d1 => ?_
      walk_at "rd"
      refine q _ H1 k1 ?_
      rw [el, if_pos es]
      exact d1
    · walk_at "rd"
      refine q _ H (Kp.refl _ _) ?_
      rw [el, if_neg (fun z => of_decide_eq_false c (by rw [z]))]
      exact h20
  · have h20 := h2
    obtain ⟨ah, xh, rfl, hah, vh, r2, rfl, hvh, vi, r3, rfl, hvi, rfl⟩ := h2
    cases hvh.str
    refine r_ixT hah rfl ?_
    walk_at "rd"
    exact q _ H (Kp.refl _ _) h20
end
end K02
end

section
/-! The program's places. -/
namespace K02
open PySem L2 PyProof.Rows PySem.Spec Lc
variable [Lc.Tbs]
local macro_rules | `(tactic| walk_at "rd") => `(tactic| repeat (first
  | with_reducible refine r_seq ?_ | with_reducible refine r_mknx ?_ | with_reducible refine r_mkrt ?_ | with_reducible refine r_asg ?_ | with_reducible refine r_name ?_ | with_reducible refine r_next ?_
  | with_reducible refine r_drop ?_ | with_reducible refine r_ret ?_ | with_reducible refine r_if ?_
  | ((with_reducible refine' r_var ?e ?_); (case e => rfl)) | with_reducible refine r_c ?_ | with_reducible refine r_op ?_ | with_reducible refine r_un ?_ | with_reducible refine r_test ?_ | with_reducible refine r_tb ?_
  | with_reducible refine r_and ?_ | with_reducible refine r_or ?_ | with_reducible refine r_not ?_ | with_reducible refine r_andV ?_ | with_reducible refine r_orV ?_ | with_reducible refine r_notV ?_ | with_reducible refine r_bl ?_
  | with_reducible refine r_cb ?_ | with_reducible refine r_cons ?_ | with_reducible refine r_nil ?_ | with_reducible refine r_tup ?_ | with_reducible refine r_lst ?_ | with_reducible refine r_call ?_
  | with_reducible refine r_i0 ?_ | with_reducible refine r_par ?_ | with_reducible refine r_two ?_ | with_reducible refine r_lc ?_ | with_reducible refine r_iL ?_ | with_reducible refine r_iT ?_ | with_reducible refine r_iS ?_ | with_reducible refine r_i1 ?_ | with_reducible refine r_yes ?_ | with_reducible refine r_chain ?_ | with_reducible refine if_t rfl ?_ | with_reducible refine if_f rfl ?_ | with_reducible refine r_nt ?_ | ((with_reducible refine r_eq ?e ?_); (case e => rfl)) | ((with_reducible refine r_ne ?e ?_); (case e => rfl))
  | with_reducible refine r_sub ?_ | with_reducible refine r_sl ?_ | with_reducible refine r_nopart ?_ | with_reducible refine r_part ?_ | with_reducible refine r_int ?_ | with_reducible refine r_bm ?_ | with_reducible refine r_bm0 ?_ | with_reducible refine r_gcons ?_ | with_reducible refine r_gnil ?_ | with_reducible refine r_dget1 ?_ | with_reducible refine r_dget2 ?_))


local macro_rules | `(tactic| walk_at "dt") => `(tactic| repeat' (first | (show Dt _ _ _; assumption) | exact dt_str | exact dt_int | exact dt_bl | exact dt_non | exact Dts.nil | refine' Dts.cons ?_ ?_ | (refine' Dt.mono ?kk ?_; (case kk => assumption)) | fail))
local macro_rules | `(tactic| walk_at "at") => `(tactic| repeat (first | assumption | (refine' Kp.ge ?kk ?nn ?_; (case kk => assumption); (case nn => intro _ z; cases z)) | fail))
local macro_rules | `(tactic| walk_at "kp") => `(tactic| repeat (first | assumption | exact Kp.refl _ _ | (refine' Kp.trans ?_ ?kk; (case kk => assumption)) | fail))
local macro_rules | `(tactic| walk_at "tup") => `(tactic| (refine' r_tupN ?h ?f ?k; (case h => walk_at "dt"); (case f => simp); skip))
def spPlaces : Sp := fun vs H Q _ => ∃ v d, vs = [v] ∧ Dt H d v ∧ tmF d = true ∧ d.sz ≤ 1000000 ∧ ∀ (L : Addr) (ys : List V) (H' : Hp), Kp [] H H' → H L = none → H' L = some (.lst ys) → Dts H' ((preo 0 d).map plD) ys → Q (.ref L) H'
abbrev s_places : Stmt := top 6
abbrev N_places : List Str := ["term", "found", "todo", "inner", "part", "node", "outer"]
theorem sc_places : FnScope N_places ["term"] (defScope s_places) := ⟨rfl, rfl, rfl, by decide +kernel, rfl, by decide +kernel, by decide +kernel⟩
section
variable {P : Program} {w : World} {K : PySem.W.Frag} {mg : Str → Option Value} {base : Heap}
theorem ok_places (F : Df K mg "places" s_places ["term"]) (T : Txt mg) : Cal P w K mg base "places" ["term"] 1 spPlaces := by
  refine F.ok sc_places (fun vs H Q E h => ?_) (fun f cdv A outer s H vs Q E hr h => ?_)
  · obtain ⟨v, d, rfl, _⟩ := h
    rfl
  obtain ⟨v, d, rfl, hd, fm, zd, q⟩ := h
  refine ⟨_, (pss_cons (ps_set (i := 1) sc_places.nd rfl (Or.inl rfl) (pe_lst pa_nil))
      (pss_cons (ps_set (i := 2) sc_places.nd rfl (Or.inl rfl) (pe_lst (pa_cons (pe_tup (pa_cons (pv 0) (pa_cons pe_int pa_nil))) pa_nil)))
      (pss_cons (ps_while PassesOwn.never (pt_truth (pv 2) (by intro _; rfl)) (pss_cons (ps_asg (pe_bm0 PySem.F.plainAttrs_list PySem.F.slot_list_pop PySem.F.type_list_pop mt_pop (pv 2)) (pg_tup (by rfl) (pgs_cons (pg_name (i := 5) sc_places.nd rfl (.inl rfl)) (pgs_cons (pg_name (i := 6) sc_places.nd rfl (.inl rfl)) pgs_nil))))
      (pss_cons (ps_set (i := 3) sc_places.nd rfl (Or.inl rfl) (pe_op op_add (pv 6) (pe_ix ix_tup (pv 5) pe_int (fun _ _ => rfl))))
      (pss_cons (ps_expr (pe_bm PySem.F.plainAttrs_list PySem.F.slot_list_append PySem.F.type_list_append mt_append (pv 1) (pa_cons (pe_tup (pa_cons (pv 5) (pa_cons (pv 3) pa_nil))) pa_nil)))
      (pss_one (ps_for PassesOwn.never rfl (RT.pi_revA rfl T.z_reversed (pe_ix ix_tup (pv 5) pe_int (fun _ _ => rfl))) (pg_name (i := 4) sc_places.nd rfl (.inl rfl)) (pss_one (ps_expr (pe_bm PySem.F.plainAttrs_list PySem.F.slot_list_append PySem.F.type_list_append mt_append (pv 2) (pa_cons (pe_tup (pa_cons (pv 4) (pa_cons (pv 3) pa_nil))) pa_nil))))))))))
      (pss_one (ps_ret (pv 1)))))), ?_⟩
  walk_at "rd"
  refine r_lstN (show 0 ≤ 10000 by decide) fun L1 H1 k1 t1 n1 e1 => ?_
  walk_at "rd"
  refine r_tupN (ds := [d, .int 0]) (Dts.cons (hd.mono t1) (Dts.cons dt_int Dts.nil)) (show 2 ≤ 10000 by decide) fun p1 H2 k2 t2 n2 e2 d2 => ?_
  walk_at "rd"
  refine r_lstN (show 1 ≤ 10000 by decide) fun L2 H3 k3 t3 n3 e3 => ?_
  walk_at "rd"
  have k03 : Kp [] H H3 := k1.trans (k2.trans k3)
  have hL1 : H L1 = none := n1
  have hL2 : H L2 = none := (k1.trans k2).none n3
  have ne12 : L1 ≠ L2 := fun z => by
    rw [← z, k2.get e1] at n3
    cases n3
  refine ⟨fun m σ H' => ∃ (fs T : List Pl) (us zs : List V) (v3 v4 v5 v6 : Option V), σ = [some v, some (.ref L1), some (.ref L2), v3, v4, v5, v6] ∧ Kp [] H H' ∧ H' L1 = some (.lst us) ∧ H' L2 = some (.lst zs) ∧ Dts H' (fs.map plD) us ∧ Dts H' (T.map plD) zs ∧ (∀ x ∈ T, tmF x.1 = true) ∧
      preo 0 d = fs ++ stackPl T ∧ stackZ T ≤ 1000000 ∧ m = stackZ T,
    ⟨_, [], [(d, 0)], [], [.ref p1], none, none, none, none, rfl, k03, k3.get (k2.get e1), e3, rfl, Dts.cons (d2.mono t3) Dts.nil, ?_, ?_, ?_, rfl⟩, ?_⟩
  · intro x hx
    rw [List.mem_singleton.mp hx]
    exact fm
  · show preo 0 d = [] ++ (preo 0 d ++ [])
    rw [List.nil_append, List.append_nil]
  · show d.sz + 0 ≤ 1000000
    omega
  rintro m σ H4 ⟨fs, T, us, zs, v3, v4, v5, v6, rfl, k4, eL1, eL2, hfs, hT, fT, epre, zT, rfl⟩
  walk_at "rd"
  refine ⟨_, .inl ⟨zs, SqL.of eL2, rfl⟩, if_2 (fun c1 => ?_) (fun c1 => ?_)⟩
  · obtain ⟨ds, dl, us2, y, eds, rfl, hds, hy⟩ := hT.last (by rintro rfl; cases c1)
    obtain ⟨T0, x, rfl⟩ : ∃ T0 x, T = T0 ++ [x] := by
      rcases List.eq_nil_or_concat T with rfl | ⟨T0, x, rfl⟩
      · have := congrArg List.length eds
        simp at this
      · exact ⟨T0, x, by rw [List.concat_eq_append]⟩
    rw [List.map_append] at eds
    obtain ⟨rfl, ex⟩ := List.append_inj' eds rfl
    have edl : dl = plD x := (List.singleton_inj.mp ex).symm
    subst edl
    obtain ⟨node, o⟩ := x
    have fx := fT (node, o) (by simp)
    obtain ⟨n, hd2', ps, rfl, fps⟩ := tmF_of fx
    refine ⟨_, fun _ _ z => z, ?_⟩
    walk_at "rd"
    have k5 : Kp [] H (upd H4 L2 (.lst us2)) := k4.own hL2
    have t5 : KeepT H4 (upd H4 L2 (.lst us2)) := fun p xs z => by rw [upd_ne (ne_of z eL2 (fun q => by cases q))]; exact z
    refine ⟨.inl ⟨rfl, _, SqL.of eL2⟩, L2, _, _, rfl, rfl, eL2, at_last us2 _, ?_⟩
    rw [drop_last]
    obtain ⟨py, xy, rfl, hpy, w1, r1, rfl, hw1, w2, r2, rfl, hw2, rfl⟩ := (hy.mono t5)
    cases hw2.int
    have hw0 := hw1
    obtain ⟨pn, xn, rfl, hpn, u1', r1, rfl, hu1, u2', r2, rfl, hu2, u3', r3, rfl, hu3, rfl⟩ := hw1
    cases hu1.int
    obtain ⟨pp, xp, rfl, hpp, hps⟩ := hu3
    refine r_gtup hpy rfl ?_
    walk_at "rd"
    refine r_ixT hpn rfl ?_
    walk_at "rd"
    have eL15 : (upd H4 L2 (.lst us2)) L1 = some (.lst us) := by rw [upd_ne ne12]; exact eL1
    have eL25 : (upd H4 L2 (.lst us2)) L2 = some (.lst us2) := upd_same
    generalize (upd H4 L2 (.lst us2)) = H5 at k5 t5 hpy hw0 hpn hu2 hpp hps eL15 eL25
    refine ⟨.inl ⟨rfl, _, SqL.of eL15⟩, ?_⟩
    walk_at "rd"
    refine r_tupN (ds := [.tup [.int n, hd2', .tup ps], .int (o + n)]) (Dts.cons hw0 (Dts.cons dt_int Dts.nil)) (show 2 ≤ 10000 by decide) fun p2 H6 k6 t6 n6 e6 d6 => ?_
    walk_at "rd"
    have lfs : us.length = fs.length := by
      have := hfs.len
      rw [List.length_map] at this
      exact this
    have lpre : fs.length ≤ 1000000 := by
      have h1 := preo_len 0 d
      rw [epre, List.length_append] at h1
      omega
    refine ⟨L1, us, _, rfl, rfl, k6.get eL15, Nat.lt_of_le_of_lt (show _ ≤ 1000000 by omega) (by decide), ?_⟩
    have eL26 := k6.get eL25
    have t7 : KeepT H6 (upd H6 L1 (.lst (us ++ [.ref p2]))) := fun p xs z => by rw [upd_ne (ne_of z (k6.get eL15) (fun q => by cases q))]; exact z
    have k7 : Kp [] H (upd H6 L1 (.lst (us ++ [.ref p2]))) := (k5.trans k6).own hL1 ⟨_, k6.get eL15, rfl⟩
    have eL17 : (upd H6 L1 (.lst (us ++ [.ref p2]))) L1 = some (.lst (us ++ [.ref p2])) := upd_same
    have eL27 : (upd H6 L1 (.lst (us ++ [.ref p2]))) L2 = some (.lst us2) := by rw [upd_ne ne12.symm]; exact eL26
    have t47 : KeepT H5 (upd H6 L1 (.lst (us ++ [.ref p2]))) := t6.trans t7
    have t67 := t7
    generalize (upd H6 L1 (.lst (us ++ [.ref p2]))) = H7 at t7 t67 k7 eL17 eL27 t47
    have lps : xp.length = ps.length := hps.len
    have zall : stackZ (T0 ++ [(D.tup [.int n, hd2', .tup ps], o)]) = stackZ T0 + (D.tup [.int n, hd2', .tup ps]).sz := by
      rw [stackZ_app]
      rfl
    have ez : (D.tup [.int n, hd2', .tup ps]).sz = 1 + (1 + (hd2'.sz + ((1 + szs ps) + 0))) := rfl
    have lps2 := szs_len ps
    have lT0 := stackZ_len T0
    walk_at "rd"
    refine r_iR ?_
    walk_at "rd"
    refine r_ixT (t47 _ _ hpn) rfl ?_
    refine ⟨pp, xp, rfl, .inr ⟨SqT.of (t47 _ _ hpp), for_it (walk_revT (K := K) (a := pp) (xs := xp)) (fun i σ H' => ∃ zs' v4', σ = [some v, some (.ref L1), some (.ref L2), some (.int (o + n)), v4', some (.ref pn), some (.int o)] ∧ Kp [L2] H7 H' ∧ H' L2 = some (.lst zs') ∧ Dts H' ((T0 ++ (ps.reverse.take i).map fun p => (p, o + n)).map plD) zs')
      ⟨us2, _, rfl, Kp.refl _ _, eL27, ?_⟩ (fun i σ H' _ ⟨_, _, _, k, _, _⟩ => SqT.of (k.t1 (NoT.lst eL27) _ _ (t47 _ _ hpp))) ?_ ?_⟩⟩
    · rw [List.take_zero]
      show Dts H7 ((T0 ++ []).map plD) us2
      rw [List.append_nil]
      exact hds.mono (t5.trans t47)
    · rintro i y σ H8 _ hi ⟨zs', v4', rfl, k8, e8, hz8⟩ ⟨rfl, hy8⟩
      obtain ⟨dp8, hdp8, hdy8⟩ := (hps.mono (t47.trans (k8.t1 (NoT.lst eL27)))).at hy8
      have hrev : ps.reverse[i]? = some dp8 := by
        rw [List.getElem?_reverse (by omega), ← lps]
        exact hdp8
      walk_at "rd"
      refine ⟨.inl ⟨rfl, _, SqL.of e8⟩, ?_⟩
      walk_at "rd"
      refine r_tupN (ds := [dp8, .int (o + n)]) (Dts.cons hdy8 (Dts.cons dt_int Dts.nil)) (show 2 ≤ 10000 by decide) fun p9 H9 k9 t9 n9 e9 d9 => ?_
      walk_at "rd"
      have lz := hz8.len
      rw [List.length_map, List.length_append, List.length_map] at lz
      have lt8 := List.length_take_le' i ps.reverse
      rw [List.length_reverse] at lt8
      refine ⟨L2, zs', _, rfl, rfl, k9.get e8, Nat.lt_of_le_of_lt (show _ ≤ 2000000 by omega) (by decide), ?_⟩
      walk_at "rd"
      refine ⟨zs' ++ [.ref p9], _, rfl, (k8.trans k9.of0).at (by simp) ⟨_, k9.get e8, rfl⟩, upd_same, ?_⟩
      have e : (T0 ++ (ps.reverse.take i ++ [dp8]).map fun p => (p, o + n)).map plD = (T0 ++ (ps.reverse.take i).map fun p => (p, o + n)).map plD ++ [plD (dp8, o + n)] := by simp
      rw [take_one hrev, e]
      exact Dts.mono (fun p xs z => by rw [upd_ne (ne_of z (k9.get e8) (fun q => by cases q))]; exact z) ((hz8.mono t9).snoc d9)
    · rintro σ H8 ⟨zs', v4', rfl, k8, e8, hz8⟩
      rw [List.take_of_length_le (by rw [List.length_reverse]; omega)] at hz8
      have t8 : KeepT H7 H8 := k8.t1 (NoT.lst eL27)
      walk_at "rd"
      have szr : stackZ (ps.reverse.map fun p => (p, o + n)) = szs ps := by rw [stackZ_parts, szs_rev]
      refine ⟨stackZ (T0 ++ ps.reverse.map fun p => (p, o + n)), ?_, fs ++ [(.tup [.int n, hd2', .tup ps], o + n)], T0 ++ ps.reverse.map fun p => (p, o + n), us ++ [.ref p2], zs', _, _, _, _, rfl, (k7.of0.trans k8).drop hL2, ?_, e8, ?_, hz8, ?_, ?_, ?_, rfl⟩
      · rw [stackZ_app, szr, zall]
        omega
      · exact k8 L1 _ (by simpa using ne12) eL17
      · rw [List.map_append]
        exact ((hfs.mono ((t5.trans t6).trans t67)).snoc (d6.mono t67)).mono t8
      · intro x hx
        rcases List.mem_append.mp hx with hx | hx
        · exact fT x (List.mem_append_left _ hx)
        · obtain ⟨p, hp, rfl⟩ := List.mem_map.mp hx
          exact tmFs_mem fps p (List.mem_reverse.mp hp)
      · rw [epre, stackPl_snoc, preo_eq, stackPl_app, stackPl_parts]
        simp
      · rw [stackZ_app, szr]
        rw [zall] at zT
        omega
  · walk_at "rd"
    have e0 : zs = [] := by
      cases zs with
      | nil => rfl
      | cons _ _ => cases c1
    subst e0
    have e1 : T = [] := by
      have := hT.len
      rw [List.length_map] at this
      exact List.eq_nil_of_length_eq_zero this.symm
    subst e1
    refine q L1 us H4 k4 hL1 eL1 ?_
    rw [epre]
    show Dts H4 ((fs ++ []).map plD) us
    rw [List.append_nil]
    exact hfs
end
end K02
end

section
/-! Long forms are terms; lifting keeps terms and adds up. -/
namespace Lc
open PySem L2 PyProof.Rows PySem.Spec
variable [Lc.Tbs]
theorem tmB_inv {sg : Sg} {hs own : List Ty} {k : Ty} {d : D} (h : tmB sg hs own k d = true) : ∃ x ps t, d = .tup [.int (k.as.length : Nat), x, .tup ps] ∧ hdB sg hs (own ++ k.as) x = some t ∧ t.s = k.s ∧ t.as.length = ps.length ∧ tmsB sg hs (own ++ k.as) t.as ps = true := by
  unfold tmB at h
  split at h
  · next n x ps =>
    rw [Bool.and_eq_true] at h
    obtain ⟨h1, h⟩ := h
    have en := of_decide_eq_true h1
    split at h
    · cases h
    · next t ht =>
      rw [Bool.and_eq_true, Bool.and_eq_true] at h
      exact ⟨x, ps, t, by rw [en], ht, of_decide_eq_true h.1.1, of_decide_eq_true h.1.2, h.2⟩
  · cases h
theorem tmB_mk {sg : Sg} {hs own : List Ty} {k : Ty} {x : D} {ps : List D} {t : Ty} (h1 : hdB sg hs (own ++ k.as) x = some t) (h2 : t.s = k.s) (h3 : t.as.length = ps.length) (h4 : tmsB sg hs (own ++ k.as) t.as ps = true) :
    tmB sg hs own k (.tup [.int (k.as.length : Nat), x, .tup ps]) = true := by
  rw [tmB_eq, h1]
  simp [h2, h3, h4]
theorem hdB_bI {sg : Sg} {hs own : List Ty} {i : Int} (h0 : 0 ≤ i) (h : i < own.length) : hdB sg hs own (hb i) = own[own.length - 1 - i.toNat]? := by
  show hkB sg hs own (.str "b") (.int i) = _
  unfold hkB
  rw [show (eqD (.str "b") (.str "c") && (D.int i).isS) = false by rw [eqD_str]; rfl, if_neg (by decide), hkM_int, if_neg (by omega)]
  unfold hkI
  rw [eqD_str, decide_eq_true rfl, decide_eq_true h]
  rfl
theorem hdB_b_inv {sg : Sg} {hs own : List Ty} {i : Int} {t : Ty} (h : hdB sg hs own (hb i) = some t) : 0 ≤ i ∧ i < own.length := by
  replace h : hkB sg hs own (.str "b") (.int i) = some t := h
  unfold hkB at h
  rw [show (eqD (.str "b") (.str "c") && (D.int i).isS) = false by rw [eqD_str]; rfl, if_neg (by decide), hkM_int] at h
  split at h
  · exact absurd h (by simp)
  · unfold hkI at h
    split at h
    · next c =>
      rw [Bool.and_eq_true] at c
      exact ⟨by omega, of_decide_eq_true c.2⟩
    · rw [show eqD (.str "b") (.str "h") = false by rw [eqD_str]; exact decide_eq_false (by decide), Bool.false_and] at h
      exact absurd h (by simp)
theorem hdB_h_own {sg : Sg} {hs own own' : List Ty} {i : Int} : hdB sg hs own (hd2 "h" i) = hdB sg hs own' (hd2 "h" i) := by
  show hkB sg hs own (.str "h") (.int i) = hkB sg hs own' (.str "h") (.int i)
  unfold hkB
  rw [show (eqD (.str "h") (.str "c") && (D.int i).isS) = false by rw [eqD_str]; rfl, if_neg (by decide), if_neg (by decide), hkM_int, hkM_int]
  unfold hkI
  rw [show eqD (.str "h") (.str "b") = false by rw [eqD_str]; exact decide_eq_false (by decide), Bool.false_and, Bool.false_and]
  simp only [Bool.false_eq_true, if_false]
theorem hdB_c_own {sg : Sg} {hs own own' : List Ty} {x : Str} : hdB sg hs own (.tup [.str "c", .str x]) = hdB sg hs own' (.tup [.str "c", .str x]) := by
  show hkB sg hs own (.str "c") (.str x) = hkB sg hs own' (.str "c") (.str x)
  unfold hkB
  rw [show (eqD (.str "c") (.str "c") && (D.str x).isS) = true by rw [eqD_str, decide_eq_true rfl]; rfl, if_pos rfl, if_pos rfl]
theorem lift_hd {sg : Sg} {hs pre more loc : List Ty} {h : D} {t : Ty} (e : hdB sg hs (pre ++ loc) h = some t) : hdB sg hs (pre ++ more ++ loc) (liftH more.length loc.length h) = some t := by
  rcases hdG_of (hdB_G e) with ⟨s, i, rfl, rfl | rfl⟩ | ⟨x, rfl⟩
  · obtain ⟨i0, il⟩ := hdB_b_inv e
    rw [hdB_bI i0 il] at e
    have el : liftH more.length loc.length (hd2 "b" i) = if "b" = ("b" : Str) ∧ (loc.length : Int) ≤ i then hb (i + more.length) else hd2 "b" i := rfl
    rw [List.length_append] at il e
    rw [el]
    by_cases c : (loc.length : Int) ≤ i
    · rw [if_pos ⟨rfl, c⟩, hdB_bI (by omega) (by rw [List.length_append, List.length_append]; omega)]
      have j1 : (pre ++ more ++ loc).length - 1 - (i + more.length).toNat = pre.length + loc.length - 1 - i.toNat := by
        rw [List.length_append, List.length_append]
        omega
      have lt : pre.length + loc.length - 1 - i.toNat < pre.length := by omega
      rw [j1, List.append_assoc, List.getElem?_append_left lt]
      rw [List.getElem?_append_left lt] at e
      exact e
    · rw [if_neg (fun z => c z.2), hdB_bI i0 (by rw [List.length_append, List.length_append]; omega)]
      have ge : pre.length ≤ pre.length + loc.length - 1 - i.toNat := by omega
      rw [List.getElem?_append_right ge] at e
      rw [List.getElem?_append_right (by rw [List.length_append, List.length_append, List.length_append]; omega)]
      have j1 : (pre ++ more ++ loc).length - 1 - i.toNat - (pre ++ more).length = pre.length + loc.length - 1 - i.toNat - pre.length := by
        rw [List.length_append, List.length_append]
        omega
      rw [j1]
      exact e
  · have el : liftH more.length loc.length (hd2 "h" i) = if "h" = ("b" : Str) ∧ (loc.length : Int) ≤ i then hb (i + more.length) else hd2 "h" i := rfl
    rw [el, if_neg (fun z => absurd z.1 (by decide)), ← e]
    exact hdB_h_own
  · show hdB sg hs (pre ++ more ++ loc) (.tup [.str "c", .str x]) = _
    rw [← e]
    exact hdB_c_own
mutual
theorem tm_lift {sg : Sg} {hs pre more : List Ty} : ∀ (loc : List Ty) (k : Ty) (d : D), tmB sg hs (pre ++ loc) k d = true → tmB sg hs (pre ++ more ++ loc) k (liftD more.length loc.length d) = true
  | loc, k, .tup xs, h => by
    obtain ⟨x, ps, t, e, h1, h2, h3, h4⟩ := tmB_inv h
    injection e with e
    subst e
    rw [List.append_assoc] at h1 h4
    have q1 := lift_hd (more := more) h1
    rw [liftD_eq]
    have eo : ((loc.length : Int) + (k.as.length : Nat)) = ((loc ++ k.as).length : Nat) := by
      rw [List.length_append]
      omega
    rw [eo]
    refine tmB_mk (t := t) (by rw [List.append_assoc]; exact q1) h2 (by rw [lifts_map, List.length_map]; exact h3) ?_
    rw [List.append_assoc (pre ++ more)]
    exact tms_lift (loc ++ k.as) t.as ps h4
  | _, _, .non, h => by simp [tmB] at h
  | _, _, .bl _, h => by simp [tmB] at h
  | _, _, .int _, h => by simp [tmB] at h
  | _, _, .str _, h => by simp [tmB] at h
theorem tms_lift {sg : Sg} {hs pre more : List Ty} : ∀ (loc : List Ty) (ts : List Ty) (ps : List D), tmsB sg hs (pre ++ loc) ts ps = true → tmsB sg hs (pre ++ more ++ loc) ts (lifts more.length loc.length ps) = true
  | _, ts, [], h => by
    rw [lifts]
    cases ts with
    | nil => rw [tmsB]; rfl
    | cons t ts => simp [tmsB] at h
  | loc, ts, p :: ps, h => by
    cases ts with
    | nil => simp [tmsB] at h
    | cons t ts =>
      rw [tmsB] at h
      have h' : (tmB sg hs (pre ++ loc) t p && tmsB sg hs (pre ++ loc) ts ps) = true := h
      rw [Bool.and_eq_true] at h'
      rw [lifts, tmsB]
      show (tmB sg hs (pre ++ more ++ loc) t _ && tmsB sg hs (pre ++ more ++ loc) ts _) = true
      rw [tm_lift loc t p h'.1, tms_lift loc ts ps h'.2]
      rfl
end
theorem liftH_add {a b inner : Int} (ha : 0 ≤ a) {h : D} (g : hdG h = true) : liftH b inner (liftH a inner h) = liftH (a + b) inner h := by
  rcases hdG_of g with ⟨s, i, rfl, _⟩ | ⟨x, rfl⟩
  · have e : ∀ c, liftH c inner (hd2 s i) = if s = "b" ∧ inner ≤ i then hb (i + c) else hd2 s i := fun _ => rfl
    rw [e a, e (a + b)]
    by_cases c : s = "b" ∧ inner ≤ i
    · rw [if_pos c, if_pos c]
      have e2 : liftH b inner (hb (i + a)) = if "b" = ("b" : Str) ∧ inner ≤ i + a then hb (i + a + b) else hb (i + a) := rfl
      rw [e2, if_pos ⟨rfl, by omega⟩, Int.add_assoc]
    · rw [if_neg c, if_neg c, e b, if_neg c]
  · rfl
theorem liftH_G {a inner : Int} {h : D} (g : hdG h = true) : hdG (liftH a inner h) = true := by
  rcases hdG_of g with ⟨s, i, rfl, hs⟩ | ⟨x, rfl⟩
  · have e : liftH a inner (hd2 s i) = if s = "b" ∧ inner ≤ i then hb (i + a) else hd2 s i := rfl
    rw [e]
    split
    · rfl
    · exact g
  · exact g
mutual
theorem lift_add {a b : Int} (ha : 0 ≤ a) : ∀ (o : Int) (d : D), tmG d = true → liftD b o (liftD a o d) = liftD (a + b) o d
  | o, .tup xs, h => by
    obtain ⟨n, x, ps, e, gx, gp⟩ := tmG_of h
    injection e with e
    subst e
    rw [liftD_eq, liftD_eq, liftD_eq, liftH_add ha gx, lifts_add ha (o + n) ps gp]
  | _, .non, h => by simp [tmG] at h
  | _, .bl _, h => by simp [tmG] at h
  | _, .int _, h => by simp [tmG] at h
  | _, .str _, h => by simp [tmG] at h
theorem lifts_add {a b : Int} (ha : 0 ≤ a) : ∀ (o : Int) (ps : List D), tmGs ps = true → lifts b o (lifts a o ps) = lifts (a + b) o ps
  | _, [], _ => by rw [lifts, lifts, lifts]
  | o, p :: ps, h => by
    rw [tmGs, Bool.and_eq_true] at h
    rw [lifts, lifts, lifts, lift_add ha o p h.1, lifts_add ha o ps h.2]
end
mutual
theorem lift_G {a : Int} : ∀ (o : Int) (d : D), tmG d = true → tmG (liftD a o d) = true ∧ (liftD a o d).sz = d.sz ∧ (liftD a o d).dp = d.dp
  | o, .tup xs, h => by
    obtain ⟨n, x, ps, e, gx, gp⟩ := tmG_of h
    injection e with e
    subst e
    obtain ⟨q1, q2, q3⟩ := lifts_G (a := a) (o + n) ps gp
    have hz : (liftH a (o + n) x).sz = x.sz ∧ (liftH a (o + n) x).dp = x.dp := by
      rcases hdG_of gx with ⟨s, i, rfl, _⟩ | ⟨y, rfl⟩
      · have e : liftH a (o + n) (hd2 s i) = if s = "b" ∧ o + n ≤ i then hb (i + a) else hd2 s i := rfl
        rw [e]
        split <;> exact ⟨rfl, rfl⟩
      · exact ⟨rfl, rfl⟩
    rw [liftD_eq]
    refine ⟨by rw [tmG_eq, liftH_G gx, q1]; rfl, ?_, ?_⟩
    · show 1 + (1 + ((liftH a (o + n) x).sz + ((1 + szs (lifts a (o + n) ps)) + 0))) = 1 + (1 + (x.sz + ((1 + szs ps) + 0)))
      rw [hz.1, q2]
    · show 1 + max 1 (max (liftH a (o + n) x).dp (max (1 + dps (lifts a (o + n) ps)) 0)) = 1 + max 1 (max x.dp (max (1 + dps ps) 0))
      rw [hz.2, q3]
  | _, .non, h => by simp [tmG] at h
  | _, .bl _, h => by simp [tmG] at h
  | _, .int _, h => by simp [tmG] at h
  | _, .str _, h => by simp [tmG] at h
theorem lifts_G {a : Int} : ∀ (o : Int) (ps : List D), tmGs ps = true → tmGs (lifts a o ps) = true ∧ szs (lifts a o ps) = szs ps ∧ dps (lifts a o ps) = dps ps
  | _, [], _ => by rw [lifts]; exact ⟨by rw [tmGs], rfl, rfl⟩
  | o, p :: ps, h => by
    rw [tmGs, Bool.and_eq_true] at h
    obtain ⟨a1, a2, a3⟩ := lift_G (a := a) o p h.1
    obtain ⟨b1, b2, b3⟩ := lifts_G (a := a) o ps h.2
    rw [lifts, tmGs, szs, szs, dps, dps, a1, a2, a3, b1, b2, b3]
    exact ⟨rfl, rfl, rfl⟩
end
mutual
theorem lift_0 : ∀ (o : Int) (d : D), tmG d = true → liftD 0 o d = d
  | o, .tup xs, h => by
    obtain ⟨n, x, ps, e, gx, gp⟩ := tmG_of h
    injection e with e
    subst e
    have hx : liftH 0 (o + n) x = x := by
      rcases hdG_of gx with ⟨s, i, rfl, _⟩ | ⟨y, rfl⟩
      · have e : liftH 0 (o + n) (hd2 s i) = if s = "b" ∧ o + n ≤ i then hb (i + 0) else hd2 s i := rfl
        rw [e, Int.add_zero]
        split
        · next c => rw [c.1]
        · rfl
      · rfl
    rw [liftD_eq, hx, lifts_0 (o + n) ps gp]
  | _, .non, h => by simp [tmG] at h
  | _, .bl _, h => by simp [tmG] at h
  | _, .int _, h => by simp [tmG] at h
  | _, .str _, h => by simp [tmG] at h
theorem lifts_0 : ∀ (o : Int) (ps : List D), tmGs ps = true → lifts 0 o ps = ps
  | _, [], _ => by rw [lifts]
  | o, p :: ps, h => by
    rw [tmGs, Bool.and_eq_true] at h
    rw [lifts, lift_0 o p h.1, lifts_0 o ps h.2]
end
mutual
theorem lift_Wd {W : Nat} (hW : 3 ≤ W) {a : Int} : ∀ (o : Int) (d : D), tmG d = true → Wd Tx W d → Wd Tx W (liftD a o d)
  | o, .tup xs, h, w => by
    obtain ⟨n, x, ps, e, gx, gp⟩ := tmG_of h
    injection e with e
    subst e
    rw [liftD_eq]
    have wx : Wd Tx W (liftH a (o + n) x) := by
      rcases hdG_of gx with ⟨s, i, rfl, _⟩ | ⟨y, rfl⟩
      · have e : liftH a (o + n) (hd2 s i) = if s = "b" ∧ o + n ≤ i then hb (i + a) else hd2 s i := rfl
        rw [e]
        split
        · exact ⟨by show 2 ≤ W; omega, (by decide +kernel : Tx "b"), trivial, trivial⟩
        · exact w.2.2.1
      · exact w.2.2.1
    refine ⟨hW, trivial, wx, ⟨?_, lifts_Wd hW (o + n) ps gp w.2.2.2.1.2⟩, trivial⟩
    rw [lifts_map, List.length_map]
    exact w.2.2.2.1.1
  | _, .non, h, _ => by simp [tmG] at h
  | _, .bl _, h, _ => by simp [tmG] at h
  | _, .int _, h, _ => by simp [tmG] at h
  | _, .str _, h, _ => by simp [tmG] at h
theorem lifts_Wd {W : Nat} (hW : 3 ≤ W) {a : Int} : ∀ (o : Int) (ps : List D), tmGs ps = true → Wds Tx W ps → Wds Tx W (lifts a o ps)
  | _, [], _, _ => by rw [lifts]; trivial
  | o, p :: ps, h, w => by
    rw [tmGs, Bool.and_eq_true] at h
    rw [lifts]
    exact ⟨lift_Wd hW o p h.1 w.1, lifts_Wd hW o ps h.2 w.2⟩
end
mutual
theorem tm_long {sg : Sg} {hs : List Ty} : ∀ (k : Ty) (own : List Ty) (s : Str) (i : Int), (s = "b" ∨ s = "h") → hdB sg hs own (hd2 s i) = some k → tmB sg hs own k (longD s i k) = true
  | .mk as srt, own, s, i, hs', h => by
    rw [longD]
    have hr : hdB sg hs (own ++ as) (raiseH s i as.length) = some (.mk as srt) := by
      unfold raiseH
      rcases hs' with rfl | rfl
      · rw [if_pos rfl]
        obtain ⟨i0, il⟩ := hdB_b_inv h
        rw [hdB_bI i0 il] at h
        rw [hdB_bI (by omega) (by rw [List.length_append]; omega)]
        have lt : own.length - 1 - i.toNat < own.length := by omega
        have j1 : (own ++ as).length - 1 - (i + as.length).toNat = own.length - 1 - i.toNat := by
          rw [List.length_append]
          omega
        rw [j1, List.getElem?_append_left lt]
        exact h
      · rw [if_neg (by decide), ← h]
        exact hdB_h_own
    refine tmB_mk (k := .mk as srt) (t := .mk as srt) hr rfl (by show as.length = _; rw [longs_len]) ?_
    exact tms_long as (own ++ as) as.length 0 (fun m t ht => by
      have lt : m < as.length := (List.getElem?_eq_some_iff.mp ht).1
      rw [hdB_bI (by omega) (by rw [List.length_append]; omega)]
      have j1 : (own ++ as).length - 1 - ((as.length : Int) - 1 - (0 + m : Nat)).toNat = own.length + m := by
        rw [List.length_append]
        omega
      rw [j1, List.getElem?_append_right (Nat.le_add_right _ _), Nat.add_sub_cancel_left]
      exact ht)
theorem tms_long {sg : Sg} {hs : List Ty} : ∀ (ts own : List Ty) (n j : Nat), (∀ (m : Nat) (t : Ty), ts[m]? = some t → hdB sg hs own (hb ((n : Int) - 1 - (j + m : Nat))) = some t) → tmsB sg hs own ts (longs n j ts) = true
  | [], _, _, _, _ => by rw [longs, tmsB]; rfl
  | t :: ts, own, n, j, h => by
    rw [longs, tmsB]
    show (tmB sg hs own t (longD "b" ((n : Int) - 1 - j) t) && tmsB sg hs own ts (longs n (j + 1) ts)) = true
    have h0 := h 0 t rfl
    rw [Nat.add_zero] at h0
    rw [tm_long t own "b" _ (.inl rfl) h0, tms_long ts own n (j + 1) (fun m u hu => by
      have := h (m + 1) u (by simpa using hu)
      rw [show j + 1 + m = j + (m + 1) by omega]
      exact this)]
    rfl
end
mutual
theorem long_bd {W : Nat} (hW : 3 ≤ W) : ∀ (k : Ty) (s : Str) (i : Int), Tx s → k.Ok W → Wd Tx W (longD s i k) ∧ (longD s i k).dp ≤ k.d.dp + 1 ∧ (longD s i k).sz ≤ 2 * k.d.sz
  | .mk as srt, s, i, ts, ok => by
    have oka := Ty.Ok.as (t := .mk as srt) ok
    have la : as.length ≤ W := oka.2.1
    obtain ⟨q1, q2, q3⟩ := longs_bd hW as as.length 0 oka.1
    have hr : Wd Tx W (raiseH s i as.length) ∧ (raiseH s i as.length).dp = 2 ∧ (raiseH s i as.length).sz = 3 := by
      unfold raiseH
      split
      · exact ⟨⟨by show 2 ≤ W; omega, (by decide +kernel : Tx "b"), trivial, trivial⟩, rfl, rfl⟩
      · exact ⟨⟨by show 2 ≤ W; omega, ts, trivial, trivial⟩, rfl, rfl⟩
    rw [longD, Ty.d]
    refine ⟨⟨hW, trivial, hr.1, ⟨by rw [longs_len]; exact la, q1⟩, trivial⟩, ?_, ?_⟩
    · show 1 + max 1 (max (raiseH s i as.length).dp (max (1 + dps (longs as.length 0 as)) 0)) ≤ 1 + max (1 + dps (tyds as)) (max 1 0) + 1
      rw [hr.2.1]
      omega
    · show 1 + (1 + ((raiseH s i as.length).sz + ((1 + szs (longs as.length 0 as)) + 0))) ≤ 2 * (1 + ((1 + szs (tyds as)) + (1 + 0)))
      rw [hr.2.2]
      omega
theorem longs_bd {W : Nat} (hW : 3 ≤ W) : ∀ (ts : List Ty) (n j : Nat), TysOk W ts → Wds Tx W (longs n j ts) ∧ dps (longs n j ts) ≤ dps (tyds ts) + 1 ∧ szs (longs n j ts) ≤ 2 * szs (tyds ts)
  | [], _, _, _ => by rw [longs]; exact ⟨trivial, Nat.zero_le _, Nat.zero_le _⟩
  | t :: ts, n, j, ok => by
    have ok' : Wd Tx W t.d ∧ Wds Tx W (tyds ts) := ok
    obtain ⟨a1, a2, a3⟩ := long_bd hW t "b" ((n : Int) - 1 - j) (by decide +kernel) ok'.1
    obtain ⟨b1, b2, b3⟩ := longs_bd hW ts n (j + 1) ok'.2
    rw [longs, tyds, dps, dps, szs, szs]
    exact ⟨⟨a1, b1⟩, by omega, by omega⟩
end
theorem eqD_refl {W : Nat} {d : D} (h : Wd Tx W d) : eqD d d = true := SeqAt.eqv_refl d.py (D.can h)
end Lc
end

section
/-! Tidy fillings: orders, numbers, what becomes of terms. -/
namespace Lc
open PySem L2 PyProof.Rows PySem.Spec
/-- what stands at the places of o -/
def pick {α : Type} (xs : List α) (o : List Nat) : List α := o.filterMap fun j => xs[j]?
theorem pick_nil {α : Type} (xs : List α) : pick xs [] = [] := rfl
theorem pick_cons {α : Type} (xs : List α) (j : Nat) (o : List Nat) {x : α} (h : xs[j]? = some x) : pick xs (j :: o) = x :: pick xs o := by
  unfold pick
  rw [List.filterMap_cons, h]
theorem pick_len {α : Type} {xs : List α} : ∀ {o : List Nat}, (∀ j ∈ o, j < xs.length) → (pick xs o).length = o.length
  | [], _ => rfl
  | j :: o, h => by
    rw [pick_cons xs j o (List.getElem?_eq_getElem (h j List.mem_cons_self)), List.length_cons, List.length_cons, pick_len fun i hi => h i (List.mem_cons_of_mem _ hi)]
theorem pick_at {α : Type} {xs : List α} : ∀ {o : List Nat} {i : Nat}, (∀ j ∈ o, j < xs.length) → (pick xs o)[i]? = o[i]?.bind fun j => xs[j]?
  | [], i, _ => by simp [pick]
  | j :: o, i, h => by
    have hj := List.getElem?_eq_getElem (h j List.mem_cons_self)
    rw [pick_cons xs j o hj]
    cases i with
    | zero => simp [hj]
    | succ i =>
      rw [List.getElem?_cons_succ, List.getElem?_cons_succ]
      exact pick_at fun i hi => h i (List.mem_cons_of_mem _ hi)
theorem pick_map {α β : Type} (f : α → β) (xs : List α) : ∀ (o : List Nat), pick (xs.map f) o = (pick xs o).map f
  | [] => rfl
  | j :: o => by
    have ih := pick_map f xs o
    unfold pick at *
    rw [List.filterMap_cons, List.filterMap_cons, List.getElem?_map]
    cases xs[j]? with
    | none => exact ih
    | some x =>
      show f x :: _ = List.map f (x :: _)
      rw [List.map_cons, ih]
theorem pick_pick {α : Type} {xs : List α} {o : List Nat} (h : ∀ j ∈ o, j < xs.length) : ∀ {f : List Nat}, (∀ i ∈ f, i < o.length) → pick (pick xs o) f = pick xs (pick o f)
  | [], _ => rfl
  | i :: f, hf => by
    have hi := hf i List.mem_cons_self
    have e1 : o[i]? = some o[i] := List.getElem?_eq_getElem hi
    have hj := h o[i] (List.getElem_mem hi)
    have e2 : xs[o[i]]? = some xs[o[i]] := List.getElem?_eq_getElem hj
    have e3 : (pick xs o)[i]? = some xs[o[i]] := by
      rw [pick_at h, e1]
      exact e2
    rw [pick_cons _ i f e3, pick_cons o i f e1, pick_cons xs _ _ e2, pick_pick h fun i hi => hf i (List.mem_cons_of_mem _ hi)]
/-- an order of n places -/
def IsOrd (n : Nat) (o : List Nat) : Prop := o.Perm (List.range n)
theorem IsOrd.lt {n : Nat} {o : List Nat} (h : IsOrd n o) : ∀ j ∈ o, j < n := fun j hj => List.mem_range.mp (h.mem_iff.mp hj)
theorem IsOrd.len {n : Nat} {o : List Nat} (h : IsOrd n o) : o.length = n := by
  have := h.length_eq
  rw [List.length_range] at this
  exact this
theorem pick_range {α : Type} : ∀ (xs : List α), pick xs (List.range xs.length) = xs := fun xs => by
  apply List.ext_getElem?
  intro i
  rw [pick_at fun j hj => List.mem_range.mp hj]
  rcases Nat.lt_or_ge i xs.length with lt | ge
  · rw [List.getElem?_range lt]
    rfl
  · rw [List.getElem?_eq_none (by rw [List.length_range]; exact ge), List.getElem?_eq_none ge]
    rfl
theorem pick_perm {α : Type} {xs : List α} {o : List Nat} (h : IsOrd xs.length o) : (pick xs o).Perm xs := by
  have e : (pick xs o).Perm (pick xs (List.range xs.length)) := List.Perm.filterMap _ h
  rw [pick_range] at e
  exact e
/-- the places in the order of falling numbers -/
structure IsFall (is : List Nat) (f : List Nat) : Prop where
  ord : IsOrd is.length f
  fall : (pick is f).Pairwise (· > ·)
theorem perm_fall : ∀ {l m : List Nat}, l.Perm m → l.Pairwise (· > ·) → m.Pairwise (· > ·) → l = m
  | [], m, p, _, _ => (List.Perm.eq_nil p.symm).symm
  | x :: l, [], p, _, _ => absurd p.length_eq (by simp)
  | x :: l, y :: m, p, h1, h2 => by
    have a1 := List.pairwise_cons.mp h1
    have a2 := List.pairwise_cons.mp h2
    have e : x = y := by
      rcases List.mem_cons.mp (p.mem_iff.mp List.mem_cons_self) with e | hx
      · exact e
      · rcases List.mem_cons.mp (p.mem_iff.mpr List.mem_cons_self) with e | hy
        · exact e.symm
        · have b1 := a1.1 y hy
          have b2 := a2.1 x hx
          omega
    subst e
    rw [perm_fall p.cons_inv a1.2 a2.2]
theorem nodup_pick_inj {is f g : List Nat} (nd : is.Nodup) (hf : ∀ j ∈ f, j < is.length) (hg : ∀ j ∈ g, j < is.length) (h : pick is f = pick is g) : f = g := by
  have l : f.length = g.length := by
    rw [← pick_len hf, ← pick_len hg, h]
  apply List.ext_getElem? 
  intro i
  rcases Nat.lt_or_ge i f.length with lt | ge
  · have lt2 : i < g.length := by omega
    have e1 := pick_at (i := i) hf
    have e2 := pick_at (i := i) hg
    rw [h, e2, List.getElem?_eq_getElem lt, List.getElem?_eq_getElem lt2] at e1
    have b1 := hf f[i] (List.getElem_mem lt)
    have b2 := hg g[i] (List.getElem_mem lt2)
    have e3 : is[g[i]]? = is[f[i]]? := e1
    rw [List.getElem?_eq_getElem lt, List.getElem?_eq_getElem lt2]
    have := (List.getElem?_inj b2 nd).mp e3
    rw [this]
  · rw [List.getElem?_eq_none ge, List.getElem?_eq_none (by omega)]
theorem IsFall.uniq {is f g : List Nat} (nd : is.Nodup) (h1 : IsFall is f) (h2 : IsFall is g) : f = g := by
  refine nodup_pick_inj nd h1.ord.lt h2.ord.lt (perm_fall ?_ h1.fall h2.fall)
  exact (pick_perm h1.ord).trans (pick_perm h2.ord).symm
/-- numbers in another order: their falling order, read there -/
theorem IsFall.pick {is o f g : List Nat} (nd : is.Nodup) (ho : IsOrd is.length o) (h1 : IsFall is f) (h2 : IsFall (pick is o) g) : Lc.pick o g = f := by
  have lo := ho.len
  have lp : (Lc.pick is o).length = o.length := pick_len ho.lt
  have hg : ∀ j ∈ g, j < o.length := fun j hj => by
    have := h2.ord.lt j hj
    omega
  have e := pick_pick (xs := is) (o := o) (f := g) ho.lt hg
  have lt : ∀ j ∈ Lc.pick o g, j < is.length := fun j hj => by
    obtain ⟨i, _, hi⟩ := List.mem_filterMap.mp hj
    exact ho.lt j (List.mem_of_getElem? hi)
  refine nodup_pick_inj nd lt h1.ord.lt (perm_fall ?_ ?_ h1.fall)
  · rw [← e]
    exact ((pick_perm h2.ord).trans (pick_perm ho)).trans (pick_perm h1.ord).symm
  · rw [← e]
    exact h2.fall
/-! ### terms -/
/-- a head's hole -/
def holeN : D → Option Nat
  | .tup [.str s, .int i] => if s = "h" ∧ 0 ≤ i then some i.toNat else none
  | _ => none
theorem holeN_h (k : Nat) : holeN (hd2 "h" k) = some k := by
  show (if ("h" : Str) = "h" ∧ (0 : Int) ≤ (k : Int) then some (k : Int).toNat else none) = some k
  rw [if_pos ⟨rfl, by omega⟩, Int.toNat_natCast]
theorem holeN_b (i : Int) : holeN (hd2 "b" i) = none := by
  show (if ("b" : Str) = "h" ∧ (0 : Int) ≤ i then some i.toNat else none) = none
  rw [if_neg (fun z => absurd z.1 (by decide))]
theorem holeN_c (x : Str) : holeN (.tup [.str "c", .str x]) = none := rfl
/-- a head that is no hole -/
def NotH (h : D) : Prop := (∃ i, h = hd2 "b" i) ∨ ∃ x, h = .tup [.str "c", .str x]
theorem NotH.none {h : D} (n : NotH h) : holeN h = none := by
  rcases n with ⟨i, rfl⟩ | ⟨x, rfl⟩
  · exact holeN_b i
  · exact holeN_c x
theorem NotH.G {h : D} (n : NotH h) : hdG h = true := by
  rcases n with ⟨i, rfl⟩ | ⟨x, rfl⟩
  · rfl
  · rfl
def intsOf (is : List Nat) : List Int := is.map fun (i : Nat) => (i : Int)
/-- parts that are long forms of binders -/
def lgPs (is : List Int) (ts : List Ty) : List D := (is.zip ts).map fun p => longD "b" p.1 p.2
theorem lgPs_len {is : List Int} {ts : List Ty} (h : is.length = ts.length) : (lgPs is ts).length = ts.length := by
  unfold lgPs
  rw [List.length_map, List.length_zip, h, Nat.min_self]
theorem lgPs_at {is : List Int} {ts : List Ty} {j : Nat} {i : Int} {t : Ty} (h1 : is[j]? = some i) (h2 : ts[j]? = some t) : (lgPs is ts)[j]? = some (longD "b" i t) := by
  unfold lgPs
  rw [List.getElem?_map, (List.getElem?_zip_eq_some (z := (i, t))).mpr ⟨h1, h2⟩]
  rfl
mutual
/-- a pattern: the parts of holes are long forms of different binders -/
def Pt (hs : List Ty) : D → Prop
  | .tup [.int _, h, .tup ps] => (∃ (k : Nat) (t : Ty) (is : List Nat), h = hd2 "h" k ∧ hs[k]? = some t ∧ is.length = t.as.length ∧ is.Nodup ∧ ps = lgPs (intsOf is) t.as) ∨ (NotH h ∧ Pts hs ps)
  | _ => False
def Pts (hs : List Ty) : List D → Prop
  | [] => True
  | p :: ps => Pt hs p ∧ Pts hs ps
end
theorem Pts.mem {hs : List Ty} : ∀ {ps : List D}, Pts hs ps ↔ ∀ p ∈ ps, Pt hs p
  | [] => ⟨fun _ p h => (nomatch h), fun _ => by rw [Pts]; trivial⟩
  | q :: ps => by
    rw [Pts, Pts.mem (ps := ps)]
    constructor
    · rintro ⟨h1, h2⟩ p hp
      rcases List.mem_cons.mp hp with rfl | hp
      · exact h1
      · exact h2 p hp
    · intro h
      exact ⟨h q List.mem_cons_self, fun p hp => h p (List.mem_cons_of_mem _ hp)⟩
theorem Pt.inv {hs : List Ty} {d : D} (h : Pt hs d) : ∃ n x ps, d = .tup [.int n, x, .tup ps] ∧ ((∃ (k : Nat) (t : Ty) (is : List Nat), x = hd2 "h" k ∧ hs[k]? = some t ∧ is.length = t.as.length ∧ is.Nodup ∧ ps = lgPs (intsOf is) t.as) ∨ (NotH x ∧ Pts hs ps)) := by
  unfold Pt at h
  split at h
  · exact ⟨_, _, _, rfl, h⟩
  · exact h.elim
theorem pt_hole {hs : List Ty} {n : Int} {k : Nat} {t : Ty} {is : List Nat} (h1 : hs[k]? = some t) (h2 : is.length = t.as.length) (h3 : is.Nodup) : Pt hs (.tup [.int n, hd2 "h" k, .tup (lgPs (intsOf is) t.as)]) := by
  rw [Pt]
  exact .inl ⟨k, t, is, rfl, h1, h2, h3, rfl⟩
theorem pt_node {hs : List Ty} {n : Int} {x : D} {ps : List D} (h : NotH x) (q : Pts hs ps) : Pt hs (.tup [.int n, x, .tup ps]) := by
  rw [Pt]
  exact .inr ⟨h, q⟩
mutual
/-- the parts of the holes, in the order of reading -/
def met : D → List (Nat × List D)
  | .tup [.int _, h, .tup ps] => match holeN h with
    | some k => (k, ps) :: mets ps
    | none => mets ps
  | _ => []
def mets : List D → List (Nat × List D)
  | [] => []
  | p :: ps => met p ++ mets ps
end
theorem met_h (n : Int) (k : Nat) (ps : List D) : met (.tup [.int n, hd2 "h" k, .tup ps]) = (k, ps) :: mets ps := by
  rw [met, holeN_h]
theorem met_n {n : Int} {x : D} {ps : List D} (h : NotH x) : met (.tup [.int n, x, .tup ps]) = mets ps := by
  rw [met, h.none]
mutual
theorem met_long : ∀ (t : Ty) (i : Int), met (longD "b" i t) = []
  | .mk as s, i => by
    have e : raiseH "b" i as.length = hd2 "b" (i + as.length) := by
      unfold raiseH
      rw [if_pos rfl]
    rw [longD, e, met_n (.inl ⟨_, rfl⟩)]
    exact mets_long as as.length 0
theorem mets_long : ∀ (ts : List Ty) (n j : Nat), mets (longs n j ts) = []
  | [], _, _ => by rw [longs, mets]
  | t :: ts, n, j => by rw [longs, mets, met_long t, mets_long ts n (j + 1)]; rfl
end
theorem mets_lg : ∀ (is : List Int) (ts : List Ty), mets (lgPs is ts) = []
  | [], _ => by rw [show lgPs [] _ = [] from rfl, mets]
  | _ :: _, [] => by rw [show lgPs (_ :: _) [] = [] from rfl, mets]
  | i :: is, t :: ts => by
    rw [show lgPs (i :: is) (t :: ts) = longD "b" i t :: lgPs is ts from rfl, mets, met_long, mets_lg is ts]
    rfl
theorem mets_app : ∀ (a b : List D), mets (a ++ b) = mets a ++ mets b
  | [], b => by rw [mets]; rfl
  | x :: a, b => by rw [List.cons_append, mets, mets, mets_app a b, List.append_assoc]
mutual
/-- holes numbered, their parts ordered, as ρ tells -/
def tdD (ρ : Nat → Nat × List Nat) : D → D
  | .tup [.int n, h, .tup ps] => match holeN h with
    | some k => .tup [.int n, hd2 "h" (ρ k).1, .tup (pick (tdDs ρ ps) (ρ k).2)]
    | none => .tup [.int n, h, .tup (tdDs ρ ps)]
  | .tup xs => .tup xs
  | .non => .non
  | .bl b => .bl b
  | .int i => .int i
  | .str x => .str x
def tdDs (ρ : Nat → Nat × List Nat) : List D → List D
  | [] => []
  | p :: ps => tdD ρ p :: tdDs ρ ps
end
theorem tdDs_map (ρ : Nat → Nat × List Nat) : ∀ ps : List D, tdDs ρ ps = ps.map (tdD ρ)
  | [] => by rw [tdDs]; rfl
  | p :: ps => by rw [tdDs, tdDs_map ρ ps, List.map_cons]
theorem tdD_h (ρ : Nat → Nat × List Nat) (n : Int) (k : Nat) (ps : List D) : tdD ρ (.tup [.int n, hd2 "h" k, .tup ps]) = .tup [.int n, hd2 "h" (ρ k).1, .tup (pick (tdDs ρ ps) (ρ k).2)] := by
  rw [tdD, holeN_h]
theorem tdD_n (ρ : Nat → Nat × List Nat) {n : Int} {x : D} {ps : List D} (h : NotH x) : tdD ρ (.tup [.int n, x, .tup ps]) = .tup [.int n, x, .tup (tdDs ρ ps)] := by
  rw [tdD, h.none]
mutual
theorem td_long (ρ : Nat → Nat × List Nat) : ∀ (t : Ty) (i : Int), tdD ρ (longD "b" i t) = longD "b" i t
  | .mk as s, i => by
    have e : raiseH "b" i as.length = hd2 "b" (i + as.length) := by
      unfold raiseH
      rw [if_pos rfl]
    rw [longD, e, tdD_n ρ (.inl ⟨_, rfl⟩), td_longs ρ as as.length 0]
theorem td_longs (ρ : Nat → Nat × List Nat) : ∀ (ts : List Ty) (n j : Nat), tdDs ρ (longs n j ts) = longs n j ts
  | [], _, _ => by rw [longs, tdDs]
  | t :: ts, n, j => by rw [longs, tdDs, td_long ρ t, td_longs ρ ts n (j + 1)]
end
theorem td_lg (ρ : Nat → Nat × List Nat) : ∀ (is : List Int) (ts : List Ty), tdDs ρ (lgPs is ts) = lgPs is ts
  | [], _ => by rw [show lgPs [] _ = [] from rfl, tdDs]
  | _ :: _, [] => by rw [show lgPs (_ :: _) [] = [] from rfl, tdDs]
  | i :: is, t :: ts => by
    rw [show lgPs (i :: is) (t :: ts) = longD "b" i t :: lgPs is ts from rfl, tdDs, td_long, td_lg ρ is ts]
theorem lg_pick {ts : List Ty} {is : List Nat} {o : List Nat} (h : is.length = ts.length) (ho : ∀ j ∈ o, j < ts.length) : pick (lgPs (intsOf is) ts) o = lgPs (intsOf (pick is o)) (pick ts o) := by
  have l1 : (lgPs (intsOf is) ts).length = ts.length := lgPs_len (by unfold intsOf; rw [List.length_map]; exact h)
  apply List.ext_getElem?
  intro i
  rw [pick_at (by rw [l1]; exact ho)]
  rcases Nat.lt_or_ge i o.length with lt | ge
  · have hj := ho o[i] (List.getElem_mem lt)
    rw [List.getElem?_eq_getElem lt]
    have e1 : ts[o[i]]? = some ts[o[i]] := List.getElem?_eq_getElem hj
    have hj2 : o[i] < is.length := by omega
    have e2 : (intsOf is)[o[i]]? = some (is[o[i]] : Int) := by
      unfold intsOf
      rw [List.getElem?_map, List.getElem?_eq_getElem hj2]
      rfl
    have f1 : (pick ts o)[i]? = some ts[o[i]] := by
      rw [pick_at ho, List.getElem?_eq_getElem lt]
      exact e1
    have f2 : (intsOf (pick is o))[i]? = some (is[o[i]] : Int) := by
      unfold intsOf
      rw [List.getElem?_map, pick_at (fun j hj => by have := ho j hj; omega), List.getElem?_eq_getElem lt]
      show Option.map _ is[o[i]]? = _
      rw [List.getElem?_eq_getElem hj2]
      rfl
    show (lgPs (intsOf is) ts)[o[i]]? = _
    rw [lgPs_at e2 e1, lgPs_at f2 f1]
  · rw [List.getElem?_eq_none ge, List.getElem?_eq_none]
    · rfl
    · unfold lgPs
      rw [List.length_map, List.length_zip, pick_len ho]
      omega
end Lc
end

section
/-! Tidy fillings: the orders that there are, and that they do not hang on numbers and orders. -/
namespace Lc
open PySem L2 PyProof.Rows PySem.Spec
variable [Lc.Tbs]
abbrev Mt := Nat × List D
def addF (acc : List Mt) (x : Mt) : List Mt := if acc.any (fun y => decide (y.1 = x.1)) = true then acc else acc ++ [x]
/-- the first parts of each hole -/
def firsts (l : List Mt) : List Mt := l.foldl addF []
theorem any_key {acc : List Mt} {k : Nat} : acc.any (fun y => decide (y.1 = k)) = true ↔ k ∈ acc.map (·.1) := by
  rw [List.any_eq_true, List.mem_map]
  constructor
  · rintro ⟨y, hy, e⟩
    exact ⟨y, hy, of_decide_eq_true e⟩
  · rintro ⟨y, hy, e⟩
    exact ⟨y, hy, decide_eq_true e⟩
theorem addF_keys {acc : List Mt} {x : Mt} (h : (acc.map (·.1)).Nodup) : ((addF acc x).map (·.1)).Nodup ∧ (∀ y ∈ addF acc x, y ∈ acc ∨ y = x) ∧ x.1 ∈ (addF acc x).map (·.1) ∧ ∀ y ∈ acc, y ∈ addF acc x := by
  unfold addF
  by_cases c : acc.any (fun y => decide (y.1 = x.1)) = true
  · rw [if_pos c]
    exact ⟨h, fun y hy => .inl hy, any_key.mp c, fun y hy => hy⟩
  · rw [if_neg c]
    have n : x.1 ∉ acc.map (·.1) := fun z => c (any_key.mpr z)
    refine ⟨?_, fun y hy => ?_, by simp, fun y hy => List.mem_append_left _ hy⟩
    · rw [List.map_append, List.nodup_append]
      refine ⟨h, by simp, fun a ha b hb e => ?_⟩
      rw [show b = x.1 by simpa using hb] at e
      rw [e] at ha
      exact n ha
    · rcases List.mem_append.mp hy with hy | hy
      · exact .inl hy
      · exact .inr (by simpa using hy)
theorem fold_keys : ∀ {l acc : List Mt}, (acc.map (·.1)).Nodup → ((l.foldl addF acc).map (·.1)).Nodup ∧ (∀ y ∈ l.foldl addF acc, y ∈ acc ∨ y ∈ l) ∧ (∀ y ∈ acc, y ∈ l.foldl addF acc) ∧ ∀ y ∈ l, y.1 ∈ (l.foldl addF acc).map (·.1)
  | [], acc, h => ⟨h, fun y hy => .inl hy, fun y hy => hy, fun y hy => nomatch hy⟩
  | x :: l, acc, h => by
    obtain ⟨a1, a2, a3, a4⟩ := addF_keys (x := x) h
    obtain ⟨b1, b2, b3, b4⟩ := fold_keys (l := l) a1
    refine ⟨b1, fun y hy => ?_, fun y hy => b3 y (a4 y hy), fun y hy => ?_⟩
    · rcases b2 y hy with z | z
      · rcases a2 y z with z | z
        · exact .inl z
        · exact .inr (by rw [z]; exact List.mem_cons_self)
      · exact .inr (List.mem_cons_of_mem _ z)
    · rcases List.mem_cons.mp hy with rfl | hy
      · obtain ⟨z, hz, e⟩ := List.mem_map.mp a3
        exact List.mem_map.mpr ⟨z, b3 z hz, e⟩
      · exact b4 y hy
theorem firsts_nd (l : List Mt) : ((firsts l).map (·.1)).Nodup := (fold_keys (l := l) (acc := []) List.nodup_nil).1
theorem firsts_mem {l : List Mt} {y : Mt} (h : y ∈ firsts l) : y ∈ l := by
  rcases (fold_keys (l := l) (acc := []) List.nodup_nil).2.1 y h with z | z
  · cases z
  · exact z
theorem firsts_key {l : List Mt} {y : Mt} (h : y ∈ l) : y.1 ∈ (firsts l).map (·.1) := (fold_keys (l := l) (acc := []) List.nodup_nil).2.2.2 y h
theorem fold_map {r : Nat → Nat} {φ : Mt → Mt} (hφ : ∀ x, (φ x).1 = r x.1) : ∀ {l acc : List Mt}, (∀ x ∈ acc ++ l, ∀ y ∈ acc ++ l, r x.1 = r y.1 → x.1 = y.1) → (l.map φ).foldl addF (acc.map φ) = (l.foldl addF acc).map φ
  | [], acc, _ => rfl
  | x :: l, acc, inj => by
    have e : addF (acc.map φ) (φ x) = (addF acc x).map φ := by
      unfold addF
      have c : (acc.map φ).any (fun y => decide (y.1 = (φ x).1)) = acc.any (fun y => decide (y.1 = x.1)) := by
        rw [List.any_map]
        rw [Bool.eq_iff_iff, List.any_eq_true, List.any_eq_true]
        constructor
        · rintro ⟨y, hy, h⟩
          refine ⟨y, hy, decide_eq_true ?_⟩
          have h' : (φ y).1 = (φ x).1 := of_decide_eq_true h
          rw [hφ, hφ] at h'
          exact inj y (List.mem_append_left _ hy) x (by simp) h'
        · rintro ⟨y, hy, h⟩
          refine ⟨y, hy, decide_eq_true (show (φ y).1 = (φ x).1 from ?_)⟩
          rw [hφ, hφ, of_decide_eq_true h]
      rw [c]
      split
      · rfl
      · rw [List.map_append]
        rfl
    rw [List.map_cons, List.foldl_cons, List.foldl_cons, e]
    refine fold_map hφ fun a ha b hb h => inj a ?_ b ?_ h
    · rcases List.mem_append.mp ha with ha | ha
      · unfold addF at ha
        split at ha
        · exact List.mem_append_left _ ha
        · rcases List.mem_append.mp ha with ha | ha
          · exact List.mem_append_left _ ha
          · rw [List.mem_singleton.mp ha]
            simp
      · exact List.mem_append_right _ (List.mem_cons_of_mem _ ha)
    · rcases List.mem_append.mp hb with ha | ha
      · unfold addF at ha
        split at ha
        · exact List.mem_append_left _ ha
        · rcases List.mem_append.mp ha with ha | ha
          · exact List.mem_append_left _ ha
          · rw [List.mem_singleton.mp ha]
            simp
      · exact List.mem_append_right _ (List.mem_cons_of_mem _ ha)
theorem firsts_map {r : Nat → Nat} {φ : Mt → Mt} (hφ : ∀ x, (φ x).1 = r x.1) {l : List Mt} (inj : ∀ x ∈ l, ∀ y ∈ l, r x.1 = r y.1 → x.1 = y.1) : firsts (l.map φ) = (firsts l).map φ := fold_map (acc := []) hφ inj
/-! ### orders -/
abbrev Ods := List (Nat × List Nat)
def rkO (o : Ods) (k : Nat) : Nat := (o.map (·.1)).idxOf k
def odO (o : Ods) (k : Nat) : List Nat := ((o[rkO o k]?).map (·.2)).getD []
def rhoO (o : Ods) (k : Nat) : Nat × List Nat := (rkO o k, odO o k)
def tyAt (hs : List Ty) (k : Nat) : Ty := (hs[k]?).getD (.mk [] "")
def kindsO (hs : List Ty) (o : Ods) : List Ty := o.map fun x => .mk (pick (tyAt hs x.1).as x.2) (tyAt hs x.1).s
def tidyAll (hs : List Ty) (ds : List D) (o : Ods) : D := .tup [.tup (tyds (kindsO hs o)), .tup (tdDs (rhoO o) ds)]
/-- a hole's parts, and the order that they have -/
structure OdOk (hs : List Ty) (m : Mt) (x : Nat × List Nat) : Prop where
  key : x.1 = m.1
  ex : ∃ is t, hs[m.1]? = some t ∧ m.2 = lgPs (intsOf is) t.as ∧ is.length = t.as.length ∧ is.Nodup ∧ IsFall is x.2
structure OdsOk (hs : List Ty) (M : List Mt) (o : Ods) : Prop where
  len : o.length = M.length
  at_ : ∀ (i : Nat) (m : Mt) (x : Nat × List Nat), M[i]? = some m → o[i]? = some x → OdOk hs m x
theorem long_inj {t : Ty} {i j : Int} (h : longD "b" i t = longD "b" j t) : i = j := by
  rw [longD_eq, longD_eq] at h
  injection h with h
  injection h with _ h
  injection h with h _
  have e : ∀ i : Int, raiseH "b" i t.as.length = hd2 "b" (i + t.as.length) := fun i => by
    unfold raiseH
    rw [if_pos rfl]
  rw [e, e] at h
  injection h with h
  injection h with _ h
  injection h with h _
  injection h with h
  omega
theorem lg_inj : ∀ {ts : List Ty} {a b : List Nat}, a.length = ts.length → b.length = ts.length → lgPs (intsOf a) ts = lgPs (intsOf b) ts → a = b
  | [], [], [], _, _, _ => rfl
  | [], _ :: _, _, h, _, _ => by cases h
  | [], [], _ :: _, _, h, _ => by cases h
  | _ :: _, [], _, h, _, _ => by cases h
  | _ :: _, _ :: _, [], _, h, _ => by cases h
  | t :: ts, i :: a, j :: b, h1, h2, h => by
    have h' : longD "b" (i : Int) t :: lgPs (intsOf a) ts = longD "b" (j : Int) t :: lgPs (intsOf b) ts := h
    injection h' with e1 e2
    have := long_inj e1
    rw [lg_inj (Nat.succ.inj h1) (Nat.succ.inj h2) e2, show i = j by omega]
theorem OdsOk.uniq {hs : List Ty} {M : List Mt} {o p : Ods} (h1 : OdsOk hs M o) (h2 : OdsOk hs M p) : o = p := by
  apply List.ext_getElem?
  intro i
  rcases Nat.lt_or_ge i M.length with lt | ge
  · have l1 : i < o.length := by rw [h1.len]; exact lt
    have l2 : i < p.length := by rw [h2.len]; exact lt
    have a := h1.at_ i _ _ (List.getElem?_eq_getElem lt) (List.getElem?_eq_getElem l1)
    have b := h2.at_ i _ _ (List.getElem?_eq_getElem lt) (List.getElem?_eq_getElem l2)
    obtain ⟨is, t, ht, e1, len1, nd, f1⟩ := a.ex
    obtain ⟨js, u, hu, e2, len2, _, f2⟩ := b.ex
    rw [ht] at hu
    cases hu
    rw [e1] at e2
    cases lg_inj len1 len2 e2
    rw [List.getElem?_eq_getElem l1, List.getElem?_eq_getElem l2]
    congr 1
    exact Prod.ext (a.key.trans b.key.symm) (f1.uniq nd f2)
  · rw [List.getElem?_eq_none (by rw [h1.len]; exact ge), List.getElem?_eq_none (by rw [h2.len]; exact ge)]
theorem OdsOk.keys {hs : List Ty} {M : List Mt} {o : Ods} (h : OdsOk hs M o) : o.map (·.1) = M.map (·.1) := by
  apply List.ext_getElem?
  intro i
  rw [List.getElem?_map, List.getElem?_map]
  rcases Nat.lt_or_ge i M.length with lt | ge
  · have l1 : i < o.length := by rw [h.len]; exact lt
    rw [List.getElem?_eq_getElem l1, List.getElem?_eq_getElem lt]
    exact congrArg some (h.at_ i _ _ (List.getElem?_eq_getElem lt) (List.getElem?_eq_getElem l1)).key
  · rw [List.getElem?_eq_none (by rw [h.len]; exact ge), List.getElem?_eq_none ge]
    rfl
/-- what is told of a hole that occurs -/
theorem OdsOk.find {hs : List Ty} {M : List Mt} {o : Ods} (h : OdsOk hs M o) (nd : (M.map (·.1)).Nodup) {k : Nat} (hk : k ∈ M.map (·.1)) : ∃ i ps f, M[i]? = some (k, ps) ∧ o[i]? = some (k, f) ∧ rhoO o k = (i, f) := by
  obtain ⟨⟨k', ps⟩, hm, rfl⟩ := List.mem_map.mp hk
  obtain ⟨i, hi⟩ := List.getElem?_of_mem hm
  have lt : i < M.length := (List.getElem?_eq_some_iff.mp hi).1
  have l1 : i < o.length := by rw [h.len]; exact lt
  have a := h.at_ i _ _ hi (List.getElem?_eq_getElem l1)
  have e0 : o[i].1 = k' := a.key
  have lk : i < (o.map (·.1)).length := by rw [List.length_map]; exact l1
  have e1 : (o.map (·.1))[i] = k' := by rw [List.getElem_map]; exact e0
  have nd' : (o.map (·.1)).Nodup := by rw [h.keys]; exact nd
  have rk : rkO o k' = i := by
    unfold rkO
    have := nd'.idxOf_getElem i lk
    rw [e1] at this
    exact this
  refine ⟨i, ps, o[i].2, hi, ?_, ?_⟩
  · rw [List.getElem?_eq_getElem l1, ← e0]
  · unfold rhoO odO
    rw [rk, List.getElem?_eq_getElem l1]
    rfl
/-- holes numbered and ordered otherwise, their types with them -/
structure Turns (hs hs' : List Ty) (ks : List Nat) (ρ : Nat → Nat × List Nat) : Prop where
  inj : ∀ a ∈ ks, ∀ b ∈ ks, (ρ a).1 = (ρ b).1 → a = b
  ord : ∀ k ∈ ks, ∀ t, hs[k]? = some t → IsOrd t.as.length (ρ k).2
  ty : ∀ k ∈ ks, ∀ t, hs[k]? = some t → hs'[(ρ k).1]? = some (.mk (pick t.as (ρ k).2) t.s)
def phi (ρ : Nat → Nat × List Nat) (m : Mt) : Mt := ((ρ m.1).1, pick m.2 (ρ m.1).2)
theorem nodup_pick {is o : List Nat} (nd : is.Nodup) (h : IsOrd is.length o) : (pick is o).Nodup := (pick_perm h).nodup_iff.mpr nd
section
variable {hs hs' : List Ty} {ρ : Nat → Nat × List Nat}
mutual
theorem pt_td : ∀ (d : D), Pt hs d → (∀ k ∈ (met d).map (·.1), ∀ t, hs[k]? = some t → IsOrd t.as.length (ρ k).2) → (∀ k ∈ (met d).map (·.1), ∀ t, hs[k]? = some t → hs'[(ρ k).1]? = some (.mk (pick t.as (ρ k).2) t.s)) →
    Pt hs' (tdD ρ d) ∧ met (tdD ρ d) = (met d).map (phi ρ)
  | .tup xs, h, ho, ht => by
    obtain ⟨n, x, ps, e, q⟩ := h.inv
    injection e with e
    subst e
    rcases q with ⟨k, t, is, rfl, hk, li, nd, rfl⟩ | ⟨nh, q⟩
    · rw [met_h] at ho ht ⊢
      have mk : k ∈ ((k, lgPs (intsOf is) t.as) :: mets (lgPs (intsOf is) t.as)).map (·.1) := by simp
      have o1 := ho k mk t hk
      have t1 := ht k mk t hk
      have e2 := lg_pick (is := is) (ts := t.as) li o1.lt
      have o2 : IsOrd is.length (ρ k).2 := by rw [li]; exact o1
      rw [tdD_h, td_lg, e2, met_h, mets_lg, mets_lg]
      refine ⟨pt_hole (t := .mk (pick t.as (ρ k).2) t.s) t1 ?_ (nodup_pick nd o2), ?_⟩
      · show (pick is (ρ k).2).length = (pick t.as (ρ k).2).length
        rw [pick_len o2.lt, pick_len o1.lt]
      · show [_] = [phi ρ _]
        unfold phi
        rw [e2]
    · rw [met_n nh] at ho ht ⊢
      rw [tdD_n ρ nh, met_n nh]
      obtain ⟨a1, a2⟩ := pts_td ps q ho ht
      exact ⟨pt_node nh a1, a2⟩
  | .non, h, _, _ => by simp [Pt] at h
  | .bl _, h, _, _ => by simp [Pt] at h
  | .int _, h, _, _ => by simp [Pt] at h
  | .str _, h, _, _ => by simp [Pt] at h
theorem pts_td : ∀ (ds : List D), Pts hs ds → (∀ k ∈ (mets ds).map (·.1), ∀ t, hs[k]? = some t → IsOrd t.as.length (ρ k).2) → (∀ k ∈ (mets ds).map (·.1), ∀ t, hs[k]? = some t → hs'[(ρ k).1]? = some (.mk (pick t.as (ρ k).2) t.s)) →
    Pts hs' (tdDs ρ ds) ∧ mets (tdDs ρ ds) = (mets ds).map (phi ρ)
  | [], _, _, _ => by
    rw [tdDs, mets, Pts]
    exact ⟨trivial, rfl⟩
  | d :: ds, h, ho, ht => by
    rw [Pts] at h
    rw [mets, List.map_append] at ho ht
    obtain ⟨a1, a2⟩ := pt_td d h.1 (fun k hk => ho k (List.mem_append_left _ hk)) fun k hk => ht k (List.mem_append_left _ hk)
    obtain ⟨b1, b2⟩ := pts_td ds h.2 (fun k hk => ho k (List.mem_append_right _ hk)) fun k hk => ht k (List.mem_append_right _ hk)
    rw [tdDs, mets, Pts, mets, a2, b2, List.map_append]
    exact ⟨⟨a1, b1⟩, rfl⟩
end
mutual
/-- one behind the other -/
theorem td_td {ρ1 ρ2 : Nat → Nat × List Nat} : ∀ (d : D), Pt hs d → (∀ k ∈ (met d).map (·.1), ∀ t, hs[k]? = some t → IsOrd t.as.length (ρ k).2 ∧ (ρ1 (ρ k).1).1 = (ρ2 k).1 ∧ (∀ i ∈ (ρ1 (ρ k).1).2, i < t.as.length) ∧ pick (ρ k).2 (ρ1 (ρ k).1).2 = (ρ2 k).2) → tdD ρ1 (tdD ρ d) = tdD ρ2 d
  | .tup xs, h, hk => by
    obtain ⟨n, x, ps, e, q⟩ := h.inv
    injection e with e
    subst e
    rcases q with ⟨k, t, is, rfl, hk0, li, nd, rfl⟩ | ⟨nh, q⟩
    · rw [met_h] at hk
      obtain ⟨o1, e1, e2, e3⟩ := hk k (by simp) t hk0
      have l1 : (lgPs (intsOf is) t.as).length = t.as.length := lgPs_len (by unfold intsOf; rw [List.length_map]; exact li)
      have e4 := lg_pick (is := is) (ts := t.as) li o1.lt
      rw [tdD_h, tdD_h, td_lg, tdD_h, td_lg, e4, td_lg, ← e4, pick_pick (by rw [l1]; exact o1.lt) (by rw [o1.len]; exact e2), e3, e1]
    · rw [met_n nh] at hk
      rw [tdD_n ρ nh, tdD_n ρ1 nh, tdD_n ρ2 nh, tds_tds ps q hk]
  | .non, h, _ => by simp [Pt] at h
  | .bl _, h, _ => by simp [Pt] at h
  | .int _, h, _ => by simp [Pt] at h
  | .str _, h, _ => by simp [Pt] at h
theorem tds_tds {ρ1 ρ2 : Nat → Nat × List Nat} : ∀ (ds : List D), Pts hs ds → (∀ k ∈ (mets ds).map (·.1), ∀ t, hs[k]? = some t → IsOrd t.as.length (ρ k).2 ∧ (ρ1 (ρ k).1).1 = (ρ2 k).1 ∧ (∀ i ∈ (ρ1 (ρ k).1).2, i < t.as.length) ∧ pick (ρ k).2 (ρ1 (ρ k).1).2 = (ρ2 k).2) → tdDs ρ1 (tdDs ρ ds) = tdDs ρ2 ds
  | [], _, _ => by rw [tdDs, tdDs, tdDs]
  | d :: ds, h, hk => by
    rw [Pts] at h
    rw [mets, List.map_append] at hk
    rw [tdDs, tdDs, tdDs, td_td d h.1 (fun k q => hk k (List.mem_append_left _ q)), tds_tds ds h.2 fun k q => hk k (List.mem_append_right _ q)]
end
/-- what is tidy does not hang on numbers and orders -/
theorem tidy_same {ds : List D} {o o' : Ods} (hp : Pts hs ds) (ho : OdsOk hs (firsts (mets ds)) o) (T : Turns hs hs' ((mets ds).map (·.1)) ρ) (ho' : OdsOk hs' (firsts (mets (tdDs ρ ds))) o') : tidyAll hs' (tdDs ρ ds) o' = tidyAll hs ds o := by
  obtain ⟨_, em⟩ := pts_td (hs' := hs') ds hp T.ord T.ty
  have ef : firsts (mets (tdDs ρ ds)) = (firsts (mets ds)).map (phi ρ) := by
    rw [em]
    exact firsts_map (r := fun k => (ρ k).1) (fun _ => rfl) fun x hx y hy e => T.inj x.1 (List.mem_map.mpr ⟨x, hx, rfl⟩) y.1 (List.mem_map.mpr ⟨y, hy, rfl⟩) e
  have nd := firsts_nd (mets ds)
  have nd' := firsts_nd (mets (tdDs ρ ds))
  have sub : ∀ k ∈ (firsts (mets ds)).map (·.1), k ∈ (mets ds).map (·.1) := fun k hk => by
    obtain ⟨y, hy, rfl⟩ := List.mem_map.mp hk
    exact List.mem_map.mpr ⟨y, firsts_mem hy, rfl⟩
  -- at each place the orders fit
  have fit : ∀ (i : Nat) (m : Mt) (x x' : Nat × List Nat), (firsts (mets ds))[i]? = some m → o[i]? = some x → o'[i]? = some x' → ∃ t, hs[m.1]? = some t ∧ IsOrd t.as.length (ρ m.1).2 ∧ x.1 = m.1 ∧ x'.1 = (ρ m.1).1 ∧ (∀ j ∈ x'.2, j < t.as.length) ∧ pick (ρ m.1).2 x'.2 = x.2 := by
    intro i m x x' hm hx hx'
    have a := ho.at_ i m x hm hx
    have hm' : (firsts (mets (tdDs ρ ds)))[i]? = some (phi ρ m) := by rw [ef, List.getElem?_map, hm]; rfl
    have b := ho'.at_ i _ x' hm' hx'
    obtain ⟨is, t, ht, e1, li, ndi, f1⟩ := a.ex
    obtain ⟨js, u, hu, e2, lj, ndj, f2⟩ := b.ex
    have km : m.1 ∈ (mets ds).map (·.1) := sub _ (List.mem_map.mpr ⟨m, List.mem_of_getElem? hm, rfl⟩)
    have o1 := T.ord _ km t ht
    have t1 := T.ty _ km t ht
    have hu' : hs'[(ρ m.1).1]? = some u := hu
    rw [t1] at hu'
    cases hu'
    have e3 : pick m.2 (ρ m.1).2 = lgPs (intsOf js) (pick t.as (ρ m.1).2) := e2
    rw [e1, lg_pick li o1.lt] at e3
    have o2 : IsOrd is.length (ρ m.1).2 := by rw [li]; exact o1
    have ej : pick is (ρ m.1).2 = js := lg_inj (by show (pick is _).length = (pick t.as _).length; rw [pick_len o2.lt, pick_len o1.lt]) lj e3
    rw [← ej] at f2
    refine ⟨t, ht, o1, a.key, b.key, fun j hj => ?_, f1.pick ndi o2 f2⟩
    have := f2.ord.lt j hj
    rw [pick_len o2.lt, o1.len] at this
    exact this
  have ll : o'.length = o.length := by rw [ho'.len, ho.len, ef, List.length_map]
  have kinds : kindsO hs' o' = kindsO hs o := by
    apply List.ext_getElem?
    intro i
    unfold kindsO
    rw [List.getElem?_map, List.getElem?_map]
    rcases Nat.lt_or_ge i o.length with lt | ge
    · have l' : i < o'.length := by omega
      have lm : i < (firsts (mets ds)).length := by rw [← ho.len]; exact lt
      obtain ⟨t, ht, o1, k1, k2, b1, p1⟩ := fit i _ _ _ (List.getElem?_eq_getElem lm) (List.getElem?_eq_getElem lt) (List.getElem?_eq_getElem l')
      have km : (firsts (mets ds))[i].1 ∈ (mets ds).map (·.1) := sub _ (List.mem_map.mpr ⟨_, List.getElem_mem lm, rfl⟩)
      have t1 := T.ty _ km t ht
      rw [List.getElem?_eq_getElem lt, List.getElem?_eq_getElem l']
      have u1 : tyAt hs' o'[i].1 = .mk (pick t.as (ρ (firsts (mets ds))[i].1).2) t.s := by
        unfold tyAt
        rw [k2, t1]
        rfl
      have u2 : tyAt hs o[i].1 = t := by
        unfold tyAt
        rw [k1, ht]
        rfl
      show some (Ty.mk (pick (tyAt hs' o'[i].1).as o'[i].2) (tyAt hs' o'[i].1).s) = some (Ty.mk (pick (tyAt hs o[i].1).as o[i].2) (tyAt hs o[i].1).s)
      rw [u1, u2]
      show some (Ty.mk (pick (pick t.as _) _) t.s) = _
      rw [pick_pick o1.lt (by rw [o1.len]; exact b1), p1]
    · rw [List.getElem?_eq_none ge, List.getElem?_eq_none (by omega)]
      rfl
  unfold tidyAll
  rw [kinds]
  suffices hs : tdDs (rhoO o') (tdDs ρ ds) = tdDs (rhoO o) ds by rw [hs]
  refine tds_tds ds hp fun k hk t ht => ?_
  obtain ⟨y, hy, rfl⟩ := List.mem_map.mp hk
  have kf := firsts_key hy
  obtain ⟨i, ps, f, hi, hoi, hr⟩ := ho.find nd kf
  have kf' : (ρ y.1).1 ∈ (firsts (mets (tdDs ρ ds))).map (·.1) := by
    rw [ef, List.map_map]
    obtain ⟨z, hz, ez⟩ := List.mem_map.mp kf
    exact List.mem_map.mpr ⟨z, hz, by rw [← ez]; rfl⟩
  obtain ⟨i', ps', f', hi', hoi', hr'⟩ := ho'.find nd' kf'
  have hm' : (firsts (mets (tdDs ρ ds)))[i]? = some (phi ρ (y.1, ps)) := by rw [ef, List.getElem?_map, hi]; rfl
  have ei : i' = i := by
    have l1 : i' < (firsts (mets (tdDs ρ ds))).length := (List.getElem?_eq_some_iff.mp hi').1
    have l1' : i' < ((firsts (mets (tdDs ρ ds))).map (·.1)).length := by rw [List.length_map]; exact l1
    refine (List.getElem?_inj l1' nd').mp ?_
    rw [List.getElem?_map, List.getElem?_map, hi', hm']
    rfl
  subst ei
  obtain ⟨t', ht', o1, k1, k2, b1, p1⟩ := fit i' _ _ _ hi hoi hoi'
  rw [ht] at ht'
  cases ht'
  rw [hr', hr]
  exact ⟨o1, rfl, b1, p1⟩
end
end Lc
end

section
/-! A function made within a def is handed on to another def of the text, which calls it. -/
namespace Lc
open PySem L2 PyProof.Rows PySem.Spec NdefX
variable [Lc.Tbs]
/-- a def's promise where more is known at the call: Φ speaks of the callers' frames, the state, what is tracked and the arguments -/
structure OkC (P : Program) (w : World) (K : PySem.W.Frag) (mg : Str → Option Value) (base : Heap) (k : Nat) (f : Addr) (fd : FuncData) (ps : List Str) (Φ : List Env → Shared → Hp → List V → Prop) (sp : Sp) : Prop where
  len : ∀ vs H Q E, sp vs H Q E → vs.length = ps.length
  go : ∀ (A : Around) (out : List Env) (s : Shared) (H : Hp) (us : List Value) (vs : List V) (Q : VK) (E : XK), Room k A → Env0 P w K mg base A out s H → BindsTo s fd ⟨us, []⟩ (ps.zip us) → Vals vs us → Φ out s H vs → sp vs H Q E →
    codeAny (model P w) A (.call (.ref f) ⟨us, []⟩) (CR CX0 out P w H s Q E) s
section
variable {P : Program} {w : World} {K : PySem.W.Frag} {mg : Str → Option Value} {base : Heap}
theorem okC_of {x qual : Str} {st : Stmt} {f : Addr} {fd : FuncData} {N ps : List Str} {k : Nat} {Φ : List Env → Shared → Hp → List V → Prop} {sp : Sp} (F : Fun K x qual st f fd) (S : FnScope N ps (defScope st)) (len : ∀ vs H Q E, sp vs H Q E → vs.length = ps.length)
    (body : ∀ (cdv : Value) (A : Around) (out : List Env) (s : Shared) (H : Hp) (vs : List V) (Q : VK) (E : XK), Room k (A.deeper (envOfC qual (defScope st) s.heap.objs.size f cdv)) → Φ out s H vs → sp vs H Q E →
      ∃ t, PSs (cxOf CX0 P w K mg base N qual (defScope st) f cdv A out s H E).nox (defBody st) t ∧ t { nx := fun _ H' => Q .non H', rt := Q } (start N vs) H) : OkC P w K mg base (k + 1) f fd ps Φ sp := by
  obtain ⟨oc, od, kV, doc, pm, an, cdv, ct, osl, rfl, lk, hcd⟩ := F.ex
  constructor
  · exact len
  intro A out s H us vs Q E room env bnd rel more want
  have inK : K.In s.heap := env.mod.kin.keeps fun b o e => (env.bs b o e).1
  have free : s.heap.NoLimit := env.mod.nolimit.keeps fun b o e => (env.bs b o e).1
  have params : ∀ y ∈ ps.zip us, (defScope st).names.lookup y.1 = some .local ∨ ((defScope st).names.lookup y.1 = some .cell ∧ ((cellsFrom (s.heap.objs.size + 1) (defScope st).names []).lookup y.1).isSome = true) := by
    rintro ⟨n, v⟩ hy
    refine (S.par n (List.of_mem_zip hy).1).imp id fun q => ⟨q, PySem.W.cellsFrom_some _ _ _ (.inl q)⟩
  refine codeAny_call_function room.depth (inK _ _ lk) rfl S.co S.gen rfl (PySem.W.codeRec_of inK hcd) (bnd _ _ _ _ (wpAny_newFunctionEnv_cells S.kind params fun e he s1 made => ?_))
  subst he
  refine ⟨free.keeps made.toInCall.keep, codeAny_func ?_⟩
  obtain ⟨t, rule, read⟩ := body cdv A out s H vs Q E (room.deeper _) more want
  have I := inv_start (CX := CX0) (P := P) (w := w) (K := K) (mg := mg) (base := base) (E := E) S room.hd env (len _ _ _ _ want) rel made
  refine wpAny_mono (rule.nox.run [] s1 (start N vs) H _ I read) (fun fl s2 h => ?_) (fun _ _ h => h)
  match fl, h with
  | .ret u, h =>
    obtain ⟨v, σ2, H2, J, rv, q⟩ := h
    exact ⟨v, H2, J.os, J.bare, J.base, J.hok, rv, q⟩
  | .next, h =>
    obtain ⟨σ2, H2, J, q⟩ := h
    exact ⟨.non, H2, J.os, J.bare, J.base, J.hok, rfl, q⟩
  | .brk, h =>
    obtain ⟨_, _, _, q⟩ := h
    exact q.elim
  | .cont, h =>
    obtain ⟨_, _, _, q⟩ := h
    exact q.elim
end
/-- the call: M is what the reading tells of the arguments -/
def tCallM (M : L2.St → Hp → List V → Prop) (sp : Sp) (E : XK) (t : TA) : TE := fun σ H Q => t σ H fun vs H1 => M σ H1 vs ∧ sp vs H1 Q E
section
variable {X : Cx} {k : Nat} {f : Addr} {fd : FuncData} {ps : List Str} {Φ : List Env → Shared → Hp → List V → Prop} {sp : Sp} {M : L2.St → Hp → List V → Prop} {E : XK} {x : Str} {p pos : Pos} {e : Expr} {es : List Expr} {t : TA}
theorem pe_callM (F : OkC X.prog X.w X.K X.mg X.base k f fd ps Φ sp) (room : Room k X.A) (hg : Gl X x) (hm : X.mg x = some (.ref f)) (hk : PySem.W.keepIn X.K (.ref f) = true) (bnd : Binds X.K fd ps []) (pass : Passes CX0 X E)
    (tell : ∀ (pins : List (Addr × Obj)) (s : Shared) (σ : L2.St) (H : Hp) (vs : List V), Inv X pins σ H s → M σ H vs → Φ X.stack s H vs) (ha : PA X (e :: es) t) (hdb : (x == ("__debug__" : Str)) = false := by decide)
    (he : starEach (e :: es) X.env = (false, eval e X.env) :: starEach es X.env := by rfl) (hpl : (backTo pos (starEach es X.env)).any (·.1) = false := by rfl) : PE X (.Call (.Name x p) (e :: es) [] pos) (tCallM M sp E t) := by
  constructor
  intro pins s σ H Q I h
  refine wpAny_Call_Name_kw (ld_glob I hg hm ?_ hdb)
  refine PySem.W.callWith_K (h₀ := X.base) I.ok.mod.kin hk (thn (ha.run pos pins s σ H _ I h) fun us s1 ⟨vs, H1, I1, r, m, q⟩ => ⟨I1.kIn, ?_⟩) he hpl
  have len : us.length = ps.length := r.length.symm.trans (F.len _ _ _ _ q)
  have b := bnd s1 us I1.kIn (by rw [List.append_nil]; exact len)
  rw [List.append_nil] at b
  show wpAny (model X.prog X.w) X.A (call (.ref f) us) _ _ _
  refine wpAny_call (codeAny_mono (F.go X.A X.stack s1 H1 us vs Q E room I1.env0 b r (tell pins s1 σ H1 vs I1 m) q) fun end_ s2 h2 => ?_)
  match end_, h2 with
  | .error v, h2 => exact pass pins σ H1 s1 v s2 I1 h2
  | .ok (.ret u), h2 => exact I1.after h2
  | .ok .next, h2 => exact h2.elim
  | .ok .brk, h2 => exact h2.elim
  | .ok .cont, h2 => exact h2.elim
end
/-- a function that was handed on is called: it lies in the slot i, its captured cells held ws when the running def began -/
def tCallH (F : NF) (f : Addr) (i : Nat) (ws : List (Option V)) (sp : List (Option V) → Sp) (E : XK) (t : TA) : TE := fun σ H Q => σ[i]? = some (some (.ref f)) ∧ H f = some (FnO f F) ∧ t σ H fun vs H1 => H1 f = some (FnO f F) ∧ H1 F.c = some (LamX.CodeO F.c F.qual) ∧ sp ws vs H1 Q E
section
variable {X : Cx} {F : NF} {f : Addr} {ps fr : List Str} {ws : List (Option V)} {i j k : Nat} {x : Str} {sp : List (Option V) → Sp} {E : XK} {t : TA} {e : Expr} {es : List Expr} {p pos : Pos}
theorem pe_callH (Fn : NOk X.prog X.w X.K X.mg X.base CX0 k f F ps fr sp) (C : CellsAt F.cl fr ws X.s_0.heap X.H_0) (far : ∀ y c, F.cl.lookup y = some c → c ∉ X.fs) (noex : X.ex = []) (room : Room j X.A) (hk : k ≤ j) (pass : Passes CX0 X E) (hN : X.N[i]? = some x) (hv : Vis X.env.scope x) (ha : PA X (e :: es) t)
    (hd : (x == ("__debug__" : Str)) = false := by decide) (hcd : (x == ("__classdict__" : Str)) = false := by decide) (he : starEach (e :: es) X.env = (false, eval e X.env) :: starEach es X.env := by rfl) (hpl : (backTo pos (starEach es X.env)).any (·.1) = false := by rfl) :
    PE X (.Call (.Name x p) (e :: es) [] pos) (tCallH F f i ws sp E t) := by
  constructor
  intro pins s σ H Q I h
  obtain ⟨hs, hf, ht⟩ := h
  refine wpAny_Call_Name_kw (thn ((pe_var (pos := p) hN hv hd hcd).run pins s σ H (fun v H1 => v = .ref f ∧ H1 = H) I ⟨.ref f, hs, rfl, rfl⟩) fun u s1 ⟨v, H1, I1, r1, ev, eH⟩ => ?_)
  subst ev eH
  cases r1
  refine PySem.W.callWith_F (first := []) (fnAt_of I1 hf) (thn (ha.run pos pins s1 σ _ _ I1 ht) fun us s2 ⟨vs, H2, I2, r, h1, hc, q⟩ => ⟨fnAt_of I2 h1, ?_⟩) he hpl
  show wpAny (model X.prog X.w) X.A (call (.ref f) us) _ _ _
  have C2 : CellsAt F.cl fr ws s2.heap H2 := C.later far (fun y c _ => by rw [noex]; simp) I2
  refine wpAny_call (codeAny_mono (Fn.run X.A X.stack s2 H2 us vs ws Q E (room.mono hk) I2.env0 h1 hc C2 r q) fun end_ s3 h2 => ?_)
  match end_, h2 with
  | .error v, h2 => exact pass pins σ H2 s2 v s3 I2 h2
  | .ok (.ret u), h2 => exact I2.after h2
  | .ok .next, h2 => exact h2.elim
  | .ok .brk, h2 => exact h2.elim
  | .ok .cont, h2 => exact h2.elim
/-- the cells of a running def are no frames of its callers, nor its own -/
theorem cells_far {X : Cx} {pins : List (Addr × Obj)} {σ : L2.St} {H : Hp} {s : Shared} (I : Inv X pins σ H s) (all : ∀ y, X.fn y = true) {y : Str} {c : Addr} (e : X.env.cells.lookup y = some c) : c ∉ frs X.stack := by
  intro m
  rcases List.mem_cons.mp (I.stkSub c m) with z | z
  · exact I.cne y c e z
  · obtain ⟨_, o, ho, _⟩ := I.ok.funs.mem z
    exact absurd (Nat.lt_of_lt_of_le (Heap.lt_size ho) (I.ok.cab y c (all y) e)) (Nat.lt_irrefl _)
end
end Lc
end

section
/-! What comes of a term when each node is changed, its parts first. -/
namespace Lc
open PySem L2 PyProof.Rows PySem.Spec NdefX
variable [Lc.Tbs]
mutual
def foldD (g : D → Int → List D → D) (o : Int) : D → D
  | .tup [.int n, h, .tup ps] => g (.tup [.int n, h, .tup ps]) (o + n) (folds g (o + n) ps)
  | .tup xs => .tup xs
  | .non => .non
  | .bl b => .bl b
  | .int i => .int i
  | .str x => .str x
def folds (g : D → Int → List D → D) (o : Int) : List D → List D
  | [] => []
  | p :: ps => foldD g o p :: folds g o ps
end
theorem foldD_eq (g : D → Int → List D → D) (o n : Int) (h : D) (ps : List D) : foldD g o (.tup [.int n, h, .tup ps]) = g (.tup [.int n, h, .tup ps]) (o + n) (folds g (o + n) ps) := by rw [foldD]
theorem folds_map (g : D → Int → List D → D) (o : Int) : ∀ ps : List D, folds g o ps = ps.map (foldD g o)
  | [] => by rw [folds]; rfl
  | p :: ps => by rw [folds, folds_map g o ps, List.map_cons]
/-- the stack, its top first -/
def stepS : List Pl → List Pl
  | (.tup [.int n, _, .tup ps], o) :: S => ps.map (fun p => (p, o + n)) ++ S
  | _ => []
def stS (S0 : List Pl) : Nat → List Pl
  | 0 => S0
  | j + 1 => stepS (stS S0 j)
def stackS (S : List Pl) : List Pl := (S.map fun x => preo x.2 x.1).flatten
theorem stackS_cons (n o : Int) (h : D) (ps : List D) (S : List Pl) : stackS ((.tup [.int n, h, .tup ps], o) :: S) = (.tup [.int n, h, .tup ps], o + n) :: stackS (stepS ((.tup [.int n, h, .tup ps], o) :: S)) := by
  unfold stackS
  show preo o (.tup [.int n, h, .tup ps]) ++ _ = _ :: (((ps.map fun p => (p, o + n)) ++ S).map fun x => preo x.2 x.1).flatten
  rw [preo_eq, List.map_append, List.flatten_append, preos_flat, List.map_map]
  rfl
theorem stS_all {S0 : List Pl} (h : ∀ x ∈ S0, tmF x.1 = true) : ∀ j, (∀ x ∈ stS S0 j, tmF x.1 = true) ∧ stackS (stS S0 j) = (stackS S0).drop j
  | 0 => ⟨h, rfl⟩
  | j + 1 => by
    obtain ⟨h1, h2⟩ := stS_all h j
    cases e : stS S0 j with
    | nil =>
      rw [e] at h2
      refine ⟨fun x hx => ?_, ?_⟩
      · have : stS S0 (j + 1) = [] := by show stepS (stS S0 j) = []; rw [e]; rfl
        rw [this] at hx
        cases hx
      · have e1 : stS S0 (j + 1) = [] := by show stepS (stS S0 j) = []; rw [e]; rfl
        rw [e1, ← List.drop_drop, ← h2]
        rfl
    | cons y S =>
      rw [e] at h1 h2
      obtain ⟨node, o⟩ := y
      obtain ⟨n, hd, ps, rfl, fps⟩ := tmF_of (h1 (node, o) List.mem_cons_self)
      have e1 : stS S0 (j + 1) = stepS ((.tup [.int n, hd, .tup ps], o) :: S) := by show stepS (stS S0 j) = _; rw [e]
      rw [e1]
      refine ⟨fun x hx => ?_, ?_⟩
      · have hx' : x ∈ ps.map (fun p => (p, o + n)) ++ S := hx
        rcases List.mem_append.mp hx' with hx | hx
        · obtain ⟨p, hp, rfl⟩ := List.mem_map.mp hx
          exact tmFs_mem fps p hp
        · exact h1 x (List.mem_cons_of_mem _ hx)
      · rw [stackS_cons] at h2
        rw [← List.drop_drop, ← h2]
        rfl
/-- the results that wait, the last one on top -/
def doneD (g : D → Int → List D → D) (S : List Pl) : List D := (S.map fun x => foldD g x.2 x.1).reverse
theorem doneD_cons (g : D → Int → List D → D) (x : Pl) (S : List Pl) : doneD g (x :: S) = doneD g S ++ [foldD g x.2 x.1] := by
  unfold doneD
  rw [List.map_cons, List.reverse_cons]
theorem doneD_step (g : D → Int → List D → D) (n o : Int) (h : D) (ps : List D) (S : List Pl) : doneD g (stepS ((.tup [.int n, h, .tup ps], o) :: S)) = doneD g S ++ (folds g (o + n) ps).reverse := by
  unfold doneD
  show ((ps.map (fun p => (p, o + n)) ++ S).map fun x => foldD g x.2 x.1).reverse = _
  rw [List.map_append, List.reverse_append, folds_map, List.map_map]
  rfl
structure CalC (P : Program) (w : World) (K : PySem.W.Frag) (mg : Str → Option Value) (base : Heap) (x : Str) (ps : List Str) (k : Nat) (Φ : List Env → Shared → Hp → List V → Prop) (sp : Sp) : Prop where
  ex : ∃ f fd, OkC P w K mg base k f fd ps Φ sp ∧ Binds K fd ps [] ∧ mg x = some (.ref f) ∧ PySem.W.keepIn K (.ref f) = true
section
variable {P : Program} {w : World} {K : PySem.W.Frag} {mg : Str → Option Value} {base : Heap} {x : Str} {ps N : List Str} {k j : Nat} {Φ : List Env → Shared → Hp → List V → Prop} {sp : Sp} {st : Stmt}
theorem CalC.mono (c : CalC P w K mg base x ps j Φ sp) (h : j ≤ k) : CalC P w K mg base x ps k Φ sp := by
  obtain ⟨f, fd, a, b, m, d⟩ := c.ex
  exact ⟨f, fd, ⟨a.len, fun A out s H us vs Q E r => a.go A out s H us vs Q E (r.mono h)⟩, b, m, d⟩
theorem Df.okC (d : Df K mg x st ps) (S : FnScope N ps (defScope st)) (len : ∀ vs H Q E, sp vs H Q E → vs.length = ps.length)
    (body : ∀ (f : Addr) (cdv : Value) (A : Around) (out : List Env) (s : Shared) (H : Hp) (vs : List V) (Q : VK) (E : XK), Room k (A.deeper (envOfC x (defScope st) s.heap.objs.size f cdv)) → Φ out s H vs → sp vs H Q E →
      ∃ t, PSs (cxOf CX0 P w K mg base N x (defScope st) f cdv A out s H E).nox (defBody st) t ∧ t { nx := fun _ H' => Q .non H', rt := Q } (start N vs) H) : CalC P w K mg base x ps (k + 1) Φ sp := by
  obtain ⟨f, fd, F, b, m⟩ := d.ex
  exact ⟨f, fd, okC_of F S len fun cdv A out s H vs Q E => body f cdv A out s H vs Q E, b, m, F.kp⟩
end
section
variable {X : Cx} {k : Nat} {ps : List Str} {Φ : List Env → Shared → Hp → List V → Prop} {sp : Sp} {M : L2.St → Hp → List V → Prop} {E : XK} {x : Str} {p pos : Pos} {e : Expr} {es : List Expr} {t : TA}
theorem pe_calM (c : CalC X.prog X.w X.K X.mg X.base x ps k Φ sp) (room : Room k X.A) (hg : Gl X x) (pass : Passes CX0 X E)
    (tell : ∀ (pins : List (Addr × Obj)) (s : Shared) (σ : L2.St) (H : Hp) (vs : List V), Inv X pins σ H s → M σ H vs → Φ X.stack s H vs) (ha : PA X (e :: es) t) (hdb : (x == ("__debug__" : Str)) = false := by decide)
    (he : starEach (e :: es) X.env = (false, eval e X.env) :: starEach es X.env := by rfl) (hpl : (backTo pos (starEach es X.env)).any (·.1) = false := by rfl) : PE X (.Call (.Name x p) (e :: es) [] pos) (tCallM M sp E t) := by
  obtain ⟨f, fd, a, b, m, d⟩ := c.ex
  exact pe_callM a room hg m d b pass tell ha hdb he hpl
end
/-- how many parts a node has -/
def nLen : D → Nat
  | .tup [_, _, .tup ps] => ps.length
  | _ => 0
/-- what is asked of a change: J of its captured values, g what it gives -/
def spCh (g : D → Int → List D → D) (ok : D → Prop) (J : List (Option V) → Hp → Prop) (ws : List (Option V)) : Sp := fun vs H Q _ => ∃ (nv : V) (node : D) (inner : Int) (L : Addr) (ys : List V) (ds : List D), vs = [nv, .int inner, .ref L] ∧ J ws H ∧ Dt H node nv ∧ ok node ∧ H L = some (.lst ys) ∧ Dts H ds ys ∧ ds.length ≤ 1000000 ∧ ds.length = nLen node ∧
  ∀ r H', Kp [] H H' → Dt H' (g node inner ds) r → Q r H'
/-- a function with this promise is handed on -/
def FnH (P : Program) (w : World) (K : PySem.W.Frag) (mg : Str → Option Value) (base : Heap) (kc : Nat) (g : D → Int → List D → D) (ok : D → Prop) (J : List (Option V) → Hp → Prop) (out : List Env) (s : Shared) (H : Hp) (vs : List V) : Prop :=
  ∃ (F : NF) (f : Addr) (fr : List Str) (ws : List (Option V)) (v : V), vs = [v, .ref f] ∧ H f = some (FnO f F) ∧ H F.c = some (LamX.CodeO F.c F.qual) ∧ CellsAt F.cl fr ws s.heap H ∧ (∀ y c, F.cl.lookup y = some c → c ∉ frs out) ∧ J ws H ∧ NOk P w K mg base CX0 kc f F ["node", "inner", "parts"] fr (spCh g ok J)
theorem r_callM {M : L2.St → Hp → List V → Prop} {sp : Sp} {E : XK} {t : TA} {σ : L2.St} {H : Hp} {Q : VK} (h : t σ H fun vs H1 => M σ H1 vs ∧ sp vs H1 Q E) : tCallM M sp E t σ H Q := h
theorem r_callH {F : NF} {f : Addr} {i : Nat} {ws : List (Option V)} {sp : List (Option V) → Sp} {E : XK} {t : TA} {σ : L2.St} {H : Hp} {Q : VK} (h1 : σ[i]? = some (some (.ref f))) (h2 : H f = some (FnO f F)) (h : t σ H fun vs H1 => H1 f = some (FnO f F) ∧ H1 F.c = some (LamX.CodeO F.c F.qual) ∧ sp ws vs H1 Q E) : tCallH F f i ws sp E t σ H Q := ⟨h1, h2, h⟩
/-- e.pop() within a comprehension -/
theorem pe_popB {X : Cx} {K : PySem.W.Frag} {o : Expr} {to : TE} {apos cpos : Pos} (hK : X.K = K) (ho : PE X o to) (hbase : attributeBase o "pop" X.env (eval o X.env) = eval o X.env := by rfl) (hline : (apos.endLine == cpos.line) = true := by rfl) :
    PE X (.Call (.Attribute o "pop" apos) [] [] cpos) (tBM0 K "list" rPop to) := by
  subst hK
  exact pe_bm0 PySem.F.plainAttrs_list PySem.F.slot_list_pop PySem.F.type_list_pop mt_pop ho hbase hline
theorem stackS_len : ∀ {S : List Pl}, (∀ x ∈ S, tmF x.1 = true) → S.length ≤ (stackS S).length
  | [], _ => Nat.le_refl _
  | (nd, o) :: S, h => by
    obtain ⟨n, hd, ps, rfl, _⟩ := tmF_of (h (nd, o) List.mem_cons_self)
    have ih := stackS_len (S := S) fun x hx => h x (List.mem_cons_of_mem _ hx)
    have e : stackS ((.tup [.int n, hd, .tup ps], o) :: S) = preo o (.tup [.int n, hd, .tup ps]) ++ stackS S := rfl
    rw [e, List.length_append, preo_eq, List.length_cons, List.length_cons]
    omega
theorem stackS_nil {S : List Pl} (h : ∀ x ∈ S, tmF x.1 = true) (e : stackS S = []) : S = [] := by
  have := stackS_len h
  rw [e] at this
  exact List.eq_nil_of_length_eq_zero (Nat.le_zero.mp this)
theorem Dts.split {H : Hp} : ∀ {ds es : List D} {zs : List V}, Dts H (ds ++ es) zs → ∃ xs ys, zs = xs ++ ys ∧ Dts H ds xs ∧ Dts H es ys
  | [], es, zs, h => ⟨[], zs, rfl, rfl, h⟩
  | d :: ds, es, zs, h => by
    obtain ⟨x, r, rfl, h1, h2⟩ := h
    obtain ⟨xs, ys, rfl, h3, h4⟩ := Dts.split h2
    exact ⟨x :: xs, ys, rfl, .cons h1 h3, h4⟩
theorem drop_rev {α : Type} {l : List α} {i : Nat} {x : α} (h : l[i]? = some x) : (l.drop i).reverse = (l.drop (i + 1)).reverse ++ [x] := by
  have hl : i < l.length := (List.getElem?_eq_some_iff.mp h).1
  rw [List.drop_eq_getElem_cons hl, List.reverse_cons]
  congr 2
  rw [List.getElem?_eq_getElem hl] at h
  exact Option.some.inj h
/-- a function is made: its code object is new, or known -/
theorem r_ndef {i : Nat} {mk : Addr → NF} {D0 : Ends} {σ : L2.St} {H : Hp} (tb : TabsN Tbs.T H) (h : ∀ (fa c' : Addr) (H1 : Hp), Kp [] H H1 → H fa = none → H1 fa = some (FnO fa (mk c')) → H1 c' = some (LamX.CodeO c' (mk c').qual) → D0.nx (σ.set i (some (.ref fa))) H1) : tNdefM Tbs.T i mk D0 σ H :=
  ⟨tb, fun fa c' H1 e n t f0 f1 c1 => h fa c' H1 ⟨fun b o _ z => .of (fun q => by rw [n b q] at z; cases z) fun m => e b o z m, fun _ => t⟩ f0 f1 c1⟩
end Lc
end

section
/-! The head: where defs stand; tables of code objects of inner functions. -/
namespace Lc
open PySem L2 PyProof.Rows PySem.Spec NdefX LamX
/-- code object, its table, the one inner function's name -/
abbrev TabL := List (Addr × Addr × Str)
def tbsOf (L : TabL) : Tbs := ⟨L.map fun r => (r.2.1, fun _ _ => r.2.2)⟩
def csOf (L : TabL) : List (Addr × Addr) := L.map fun r => (r.1, r.2.1)
theorem tb_start {L : TabL} {H : Hp} (h : ∀ p ∈ csOf L, H p.2 = some (.tbl #[])) : TabsN (tbsOf L).T H := fun q hq => by
  obtain ⟨r, hr, rfl⟩ := List.mem_map.mp hq
  exact TabN.nil (h (r.1, r.2.1) (List.mem_map.mpr ⟨r, hr, rfl⟩))
theorem tb_mem {L : TabL} {c Pt : Addr} {q : Str} (m : (c, Pt, q) ∈ L) : (Pt, fun _ _ => q) ∈ (tbsOf L).T := List.mem_map.mpr ⟨_, m, rfl⟩
theorem tb_one : ∀ {L : TabL} {c Pt : Addr} {q : Str}, (L.map (·.2.1)).Nodup → (c, Pt, q) ∈ L → ∀ p ∈ (tbsOf L).T, p.1 = Pt → p.2 = fun _ _ => q
  | r :: L, c, Pt, q, nd, m, p, hp, e => by
    rw [List.map_cons, List.nodup_cons] at nd
    have hp' : p = (r.2.1, fun _ _ => r.2.2) ∨ p ∈ (tbsOf L).T := List.mem_cons.mp hp
    rcases hp' with rfl | hp' <;> rcases List.mem_cons.mp m with m' | m'
    · rw [← m']
    · exact absurd (List.mem_map.mpr ⟨_, m', e.symm⟩) nd.1
    · obtain ⟨r', hr', rfl⟩ := List.mem_map.mp hp'
      rw [← m'] at nd
      exact absurd (List.mem_map.mpr ⟨r', hr', e⟩) nd.1
    · exact tb_one nd.2 m' p hp' e
/-- where a def that makes a function stands: its own code object and the table of the inner ones -/
structure DfN [Tbs] (K : PySem.W.Frag) (mg : Str → Option Value) (base : Heap) (x : Str) (st : Stmt) (qual : Str) (ps : List Str) : Prop where
  ex : ∃ (f : Addr) (oc : Value) (od : Option Addr) (kV doc pm : Value) (an : Option Addr) (ct : Value) (sl : Array (Option Value)) (c Pt : Addr),
    K.lookup f = some ⟨oc, od, .func (PySem.W.fnOf x x (defArgs st) (defBody st) (defScope st) .none kV doc pm an (.ref c) ct), sl⟩ ∧ PySem.W.codeIn K (.ref c) x = true ∧ PySem.W.keepIn K (.ref f) = true ∧ mg x = some (.ref f) ∧
    (∀ us : List Value, us.length = ps.length → bindArgs (PySem.W.fnOf x x (defArgs st) (defBody st) (defScope st) .none kV doc pm an (.ref c) ct) ⟨us, []⟩ = pure (ps.zip us)) ∧
    TabB base mg c Pt ∧ (Pt, fun _ _ => qual) ∈ Tbs.T ∧ ∀ p ∈ Tbs.T, p.1 = Pt → p.2 = fun _ _ => qual
theorem dfN_mk {L : TabL} {K : PySem.W.Frag} {h base : Heap} {mg : Str → Option Value} {x : Str} {st : Stmt} {qual : Str} {ps : List Str} {f c Pt : Addr} {oc : Value} {od an : Option Addr} {sl : Array (Option Value)} {kV doc pm ct : Value} (X : K.In h) (G : h.Ns mainGlobals mg)
    (a : PySem.W.nsIn K mainGlobals x = some (some (.ref f))) (l : K.lookup f = some ⟨oc, od, .func (PySem.W.fnOf x x (defArgs st) (defBody st) (defScope st) .none kV doc pm an (.ref c) ct), sl⟩) (cd : PySem.W.codeIn K (.ref c) x = true) (k : PySem.W.keepIn K (.ref f) = true)
    (hb : ∀ us : List Value, us.length = ps.length → bindArgs (PySem.W.fnOf x x (defArgs st) (defBody st) (defScope st) .none kV doc pm an (.ref c) ct) ⟨us, []⟩ = pure (ps.zip us))
    (nd : (L.map (·.2.1)).Nodup) (m : (c, Pt, qual) ∈ L) (TB : ∀ p ∈ csOf L, TabB base mg p.1 p.2) : @DfN (tbsOf L) K mg base x st qual ps :=
  letI := tbsOf L
  ⟨⟨f, oc, od, kV, doc, pm, an, ct, sl, c, Pt, l, cd, k, PySem.W.mg_of X G a, hb, TB (c, Pt) (List.mem_map.mpr ⟨_, m, rfl⟩), tb_mem m, tb_one nd m⟩⟩
/-- what the head asks -/
theorem at_head {l : PySem.W.OpenLaw} {w : World} {K : PySem.W.Frag} {k : Nat} {mg : Str → Option Value} {fa : Addr} {h : Heap} {L : TabL} {sp : Sp} (hT : ∀ P ∈ L.map (·.2.1), h.get? P = some { cls := .none, data := .fields #[] }) (nT : ∀ r ∈ L, K.lookup r.2.1 = none)
    (C : ∀ r ∈ L, PySem.W.CodeHd h r.1 r.2.1) (hsp : ∀ (H : Hp) (a : Addr) (ns : List Int), ns.length ≤ 63 → TabsN (tbsOf L).T H → SqL K H a (ns.map V.int) → sp [.ref a] H (fun v _ => v = .bl true) fun _ _ _ => False)
    (F : ∃ fd : FuncData, (∀ (s : Shared) (u : Value), BindsTo s fd ⟨[u], []⟩ [("script", u)]) ∧ ∀ base : Heap, K.In base → base.Ns mainGlobals mg → (∀ p ∈ csOf L, TabB base mg p.1 p.2) → FnOk l.prog w K mg base CX0 k fa fd ["script"] sp) :
    LawAtS l w K CX0 k 63 "script" mg fa h := by
  obtain ⟨fd, hb, hF⟩ := F
  refine ⟨fd, csOf L, sp, fun p hp => ?_, fun p hp => ?_, fun p hp => ?_, hb, fun H a ns hl _ hH hS => hsp H a ns hl (tb_start hH) hS, hF⟩
  · obtain ⟨r, hr, rfl⟩ := List.mem_map.mp hp
    exact hT _ (List.mem_map.mpr ⟨r, hr, rfl⟩)
  · obtain ⟨r, hr, rfl⟩ := List.mem_map.mp hp
    exact nT r hr
  · obtain ⟨r, hr, rfl⟩ := List.mem_map.mp hp
    exact C r hr
theorem r_ife {T : TT} {ta tb : TE} {σ : L2.St} {H : Hp} {Q : VK} (h : T σ H fun b H1 => if b = true then ta σ H1 Q else tb σ H1 Q) : tIf T ta tb σ H Q := h
end Lc
end

section
/-! sorted(pairs of ints, reverse=True). -/
namespace Lc
open PySem L2 PyProof.Rows PySem.Spec
/-- the pairs as they stand in falling order: sorted ones, read backwards -/
def rFall (K : PySem.W.Frag) : List V → List V → Hp → VK → Prop := fun vs zs H Q => ∃ (a : Addr) (xs : List V) (k : V → Int × Int), vs = [V.ref a] ∧ zs = [.bl true] ∧ SqL K H a xs ∧ (∀ x ∈ xs, ∃ t, x = V.ref t ∧ H t = some (.tup [.int (k x).1, .int (k x).2])) ∧
  ∀ us p, SrtO.Srtd (ltP k) us → us.Perm xs → H p = none → Q (.ref p) (upd H p (.lst us.reverse))
theorem cr_fall {X : Cx} : CallRK X (.builtin "sorted") [Str.ofString "reverse"] (rFall X.K) := by
  intro pins s σ H vs zs us ws Q I r rz h
  obtain ⟨a, xs, k, rfl, rfl, hs, hx, q⟩ := h
  obtain rfl := Vals.ref1 r
  obtain ⟨w1, rfl, ew⟩ := vals1 rz
  obtain rfl : w1 = Value.bool true := ew
  obtain ⟨its, rv, hl, hz⟩ := I.list hs
  have back := refs_back rv fun x m => by
    obtain ⟨t, e, _⟩ := hx x m
    exact ⟨t, e⟩
  obtain ⟨e1, e2⟩ := back
  have isP : ∀ v ∈ its, Srt.IsPair s.heap v (k (backV v)).1 (k (backV v)).2 := by
    intro v hv
    obtain ⟨t, rfl⟩ := e2 v hv
    have mem : V.ref t ∈ xs := by
      rw [e1]
      exact List.mem_map.mpr ⟨_, hv, rfl⟩
    obtain ⟨t', e, ht⟩ := hx _ mem
    cases e
    obtain ⟨_, its2, r2, o, ho, hc, n, hd⟩ := I.hok _ _ ht
    obtain ⟨u1, u2, rfl, ri, rj⟩ := vals2 r2
    obtain ⟨t1, rfl⟩ := ri
    obtain ⟨t2, rfl⟩ := rj
    exact ⟨t, o, t1, t2, n, rfl, ho, hc, hd⟩
  refine SrtR.sorted_ordK (b := true) (fun _ => rfl) (PyProof.Rows.args_sorted_rev _ _) (fun _ => PyProof.Rows.args_list_sort_rev _ _) (SrtO.swo_lex fun u => k (backV u)) hl.isList (by rw [← rv.length]; exact hz) (fun two h₁ a' ha' keep => ?_) fun out h1 h2 => ?_
  · refine SrtO.pairs_sortableO (s := { s with heap := h₁ }) (by omega) (fun v hv => (isP v hv).keeps fun b o e _ => (keep b o e).2) fun o e => ?_
    have same : some o = some (seqObj "list" its.toArray 0) := e.symm.trans ha'
    cases same
    intro c
    exact absurd (Value.type.inj c) (by decide)
  · have perm : out.Perm its := h2.perm.trans (List.reverse_perm _)
    have refs : ∀ u ∈ out.reverse, ∃ a, u = Value.ref a := fun u hu => e2 u (perm.mem_iff.mp (List.mem_reverse.mp hu))
    have hb : (out.map backV).Perm xs := by
      rw [e1]
      exact perm.map backV
    obtain ⟨ep, he'⟩ := PyProof.Rows.sortedAll_at s.heap its out.toArray.reverse
    have few : (out.map backV).reverse.length ≤ sizeLine := by
      rw [List.length_reverse, hb.length_eq]
      exact hz
    have er : (out.map backV).reverse = out.reverse.map backV := by rw [List.map_reverse]
    have ea : out.reverse.toArray = out.toArray.reverse := by
      apply Array.ext'
      rw [Array.toList_reverse]
    exact ⟨.ref _, upd H (s.heap.objs.size + 1) (.lst (out.map backV).reverse), I.laid (t' := s.toks) (fun _ _ => PyProof.Rows.sortedAll_old) (Nat.le_succ _) ⟨few, out.reverse, ep, by rw [er]; exact vals_back refs, by rw [ea]; exact he'⟩, rfl, q _ _ (SrtO.srtd_map h1) hb (I.hok.fresh (Nat.le_succ _))⟩
end Lc
end

section
/-! enumerate(d), d a dict that is locked. -/
namespace Lc
open PySem L2 PyProof.Rows PySem.Spec
section
variable {prog : Program} {w : World} {A : Around} {E : Value → Shared → Prop} {s : Shared}
theorem keys_next {jt dt : Addr} {i n ep : Nat} {od : Obj} {es : Array DictEntry} {en : DictEntry} {Q : Value → Shared → Prop} (st : s.heap.IsKeyIter jt dt i n ep) (god : s.heap.get? dt = some od) (dod : od.data = .dict es ep) (size : es.size = n) (at_ : es[i]? = some en)
    (fin : ∀ h', h'.IsKeyIter jt dt (i + 1) n ep → Heap.SameBut jt s.heap h' → Q en.key { s with heap := h' }) : wpAny (model prog w) A (Builtin.SmallTypes.nextOf (.ref jt)) Q E s := by
  obtain ⟨oj, hoj, cj, dj⟩ := id st
  unfold Builtin.SmallTypes.nextOf
  refine wpAny_bind (wpAny_callSpecial?_slot (name := Str.ofString "__next__") st.typeIs F.slot_dict_keyiterator_next (wpAny_call_entry F.slot_dict_keyiterator_next st.typeIs F.entry_dict_keyiterator_next ?goal (F.args_dict_keyiterator_next_1 _)))
  case goal =>
    refine wpAny_bind (wpAny_pure (wpAny_bind (wpAny_bind ?a)))
    case a =>
      first | refine wpAny_bind (wpAny_typeNameOfWhole_keyiter st.typeIs (wpAny_pure ?b)) | refine wpAny_bind (wpAny_typeNameOf_keyiter st.typeIs (wpAny_pure ?b))
      case b =>
        refine wpAny_bind (wpAny_fieldsOf hoj dj ?c)
        case c =>
          have own0 : Builtin.Dict_items.ownsTuple "dict_keyiterator" = false := by decide
          simp only [own0, Bool.false_eq_true, if_false]
          show wpAny _ _ (if (Value.ref dt == Value.none) = true then _ else _) _ _ s
          rw [if_neg (show ¬ (Value.ref dt == Value.none) = true from Bool.false_ne_true)]
          refine wpAny_bind (wpAny_pure (wpAny_bind (wpAny_dictEntries god dod ?d)))
          case d =>
            rw [if_neg (by simp [size])]
            refine wpAny_bind (wpAny_pure (wpAny_bind (wpAny_dictEpoch god dod ?e)))
            case e =>
              rw [if_neg (by simp)]
              obtain ⟨lt, got⟩ := Array.getElem?_eq_some_iff.mp at_
              refine wpAny_pure ?f
              case f =>
                simp only [show ¬ (i : Int) < 0 by omega, if_false, Int.toNat_natCast, Array.getElem?_eq_getElem lt]
                refine wpAny_bind ?g
                case g =>
                  first | refine wpAny_bind (wpAny_typeNameOfWhole_keyiter st.typeIs (wpAny_pure ?k)) | refine wpAny_bind (wpAny_typeNameOf_keyiter st.typeIs (wpAny_pure ?k))
                  case k =>
                    refine wpAny_bind (wpAny_isOneOf_keyiter st.typeIs ?l)
                    case l =>
                      show wpAny _ _ (setField (.ref jt) 1 (rawInt ((i : Int) + 1)) >>= _) _ _ s
                      have next : (s.heap.update jt (Obj.mapFields (·.setIfInBounds 1 (rawInt ((i : Int) + 1))))).IsKeyIter jt dt (i + 1) n ep :=
                        ⟨_, Heap.get?_update_self _ hoj (Obj.isFreed_of_fields (Obj.data_mapFields dj _)), (Obj.cls_mapFields ..).trans cj, by rw [Obj.data_mapFields dj]; simp [rawInt]⟩
                      refine wpAny_bind (wpAny_setField hoj dj (by simp) (wpAny_bind (wpAny_holding (wpAny_bind (wpAny_isOneOf_keyiter (s := { s with heap := s.heap.update jt (Obj.mapFields (·.setIfInBounds 1 (rawInt ((i : Int) + 1)))) }) next.typeIs ?m)))))
                      case m =>
                        show wpAny _ _ (pure es[i].key) _ _ _
                        rw [got]
                        exact wpAny_pure (wpAny_pure ⟨_, rfl, wpAny_pure (fin _ next (Heap.SameBut.update ..))⟩)
theorem keys_over {jt dt : Addr} {i n ep : Nat} {od : Obj} {es : Array DictEntry} {Q : Value → Shared → Prop} (calm : A.handled = none) (st : s.heap.IsKeyIter jt dt i n ep) (god : s.heap.get? dt = some od) (dod : od.data = .dict es ep) (size : es.size = n) (ge : n ≤ i)
    (fin : ∀ h' e, Heap.ExtBut jt s.heap h' → (∃ o, h'.get? e = some o ∧ o.cls = .type "StopIteration") → E (.ref e) { s with heap := h' }) : wpAny (model prog w) A (Builtin.SmallTypes.nextOf (.ref jt)) Q E s := by
  obtain ⟨oj, hoj, cj, dj⟩ := id st
  unfold Builtin.SmallTypes.nextOf
  refine wpAny_bind (wpAny_callSpecial?_slot (name := Str.ofString "__next__") st.typeIs F.slot_dict_keyiterator_next (wpAny_call_entry F.slot_dict_keyiterator_next st.typeIs F.entry_dict_keyiterator_next ?goal (F.args_dict_keyiterator_next_1 _)))
  case goal =>
    refine wpAny_bind (wpAny_pure (wpAny_bind (wpAny_bind ?a)))
    case a =>
      first | refine wpAny_bind (wpAny_typeNameOfWhole_keyiter st.typeIs (wpAny_pure ?b)) | refine wpAny_bind (wpAny_typeNameOf_keyiter st.typeIs (wpAny_pure ?b))
      case b =>
        refine wpAny_bind (wpAny_fieldsOf hoj dj ?c)
        case c =>
          have own0 : Builtin.Dict_items.ownsTuple "dict_keyiterator" = false := by decide
          simp only [own0, Bool.false_eq_true, if_false]
          show wpAny _ _ (if (Value.ref dt == Value.none) = true then _ else _) _ _ s
          rw [if_neg (show ¬ (Value.ref dt == Value.none) = true from Bool.false_ne_true)]
          refine wpAny_bind (wpAny_pure (wpAny_bind (wpAny_dictEntries god dod ?d)))
          case d =>
            rw [if_neg (by simp [size])]
            refine wpAny_bind (wpAny_pure (wpAny_bind (wpAny_dictEpoch god dod ?e)))
            case e =>
              rw [if_neg (by simp)]
              have big : es.size ≤ i := by omega
              refine wpAny_pure ?f
              case f =>
                simp only [show ¬ (i : Int) < 0 by omega, if_false, Int.toNat_natCast, Array.getElem?_eq_none big]
                refine wpAny_bind ?g
                case g =>
                  first | refine wpAny_bind (wpAny_typeNameOfWhole_keyiter st.typeIs (wpAny_pure ?k)) | refine wpAny_bind (wpAny_typeNameOf_keyiter st.typeIs (wpAny_pure ?k))
                  case k =>
                    show wpAny _ _ (setField (.ref jt) 0 .none >>= _) _ _ s
                    refine wpAny_bind (wpAny_setField hoj dj (by simp) ?l)
                    case l =>
                      show wpAny _ _ (newExc (.type "StopIteration") [] >>= _) _ _ _
                      refine wpAny_bind ?m
                      simp only [newExc, newTuple]
                      refine wpAny_bind (wpAny_newObj_type (wpAny_bind (m := firstArgMember _ _) (wpAny_of_eq (a := Value.none) (by first | rfl | (simp only [firstArgMember]; rfl)) (wpAny_newObj_type ?n (by size_fits)))) (by size_fits))
                      case n =>
                        simp only [raiseNew]
                        refine wpAny_bind (wpAny_handled ?hnd)
                        rw [show A.in1.handled = none from calm]
                        refine wpAny_bind (wpAny_pure (wpAny_throw ?thr))
                        exact fin _ _ (((Heap.SameBut.update ..).extBut.push _).push _) ⟨_, Heap.get?_push_size _ rfl, rfl⟩
theorem draws_keys (calm : A.handled = none) (jt dt : Addr) {od : Obj} {es : Array DictEntry} {ep : Nat} (dod : od.data = .dict es ep) :
    Draws prog w A jt [jt, dt] es.size (fun i v => ∃ en, es[i]? = some en ∧ v = en.key) (fun i h => h.IsKeyIter jt dt i es.size ep ∧ h.get? dt = some od) where
  live := fun i h st => by
    obtain ⟨⟨o, ho, _⟩, _⟩ := st
    exact ⟨o, ho⟩
  frame := fun i h h' st k => ⟨st.1.at fun o e => k jt (by simp) o e, k dt (by simp) _ st.2⟩
  item := fun i s Q E lt st fin => by
    have at_ : es[i]? = some es[i] := Array.getElem?_eq_getElem lt
    have ne : dt ≠ jt := fun z => by
      obtain ⟨⟨o, ho, co, d1⟩, g⟩ := st
      rw [z, ho] at g
      cases g
      rw [dod] at d1
      cases d1
    exact keys_next st.1 st.2 dod rfl at_ fun h' st' sb => fin es[i].key h' s.toks ⟨_, at_, rfl⟩ ⟨st', (sb.2 dt ne).trans st.2⟩ sb
  done := fun s Q E st fin => keys_over calm st.1 st.2 dod rfl (Nat.le_refl _) fin
end
set_option maxHeartbeats 4000000 in
theorem meets_enum1 {v : Value} {o : Obj} {G : Heap → Prop} (B : Begins v o G) :
    Meets (Builtin.«enumerate.__new__» ⟨[.type "enumerate", v], []⟩) (fun _ R s => G s.heap ∧
      R (.ok (.ret (.ref (s.heap.push o).objs.size))) { s with heap := (s.heap.push o).push { cls := .type "enumerate", data := .fields #[.none, .bool false, .ref s.heap.objs.size, rawInt 0, .none, .none] } }) :=
  .of_wp fun prog w A R s h => by
    obtain ⟨hp, gs, dr, tk, os⟩ := s
    obtain ⟨g1, h⟩ := h
    have sub0 := sub_enumerate
    have it0 : ∀ {A' : Around} {E : Value → Shared → Prop} {Q : Value → Shared → Prop}, Q (.ref hp.objs.size) ⟨hp.push o, gs, dr, tk, os⟩ → wpAny (model prog w) A' (pyIter v) Q E ⟨hp, gs, dr, tk, os⟩ := fun q => B.iter prog w _ _ ⟨hp, gs, dr, tk, os⟩ _ g1 q
    wp_walk using it0
    refine wpAny_stack_any fun st => wpAny_pure ?_
    split
    · rename_i c _ _ _ _ _
      cases (c == Value.type "enumerate") <;> (wp_walk using it0; exact ⟨_, rfl, h⟩)
    · wp_walk using it0
      exact ⟨_, rfl, h⟩
section
variable {prog : Program} {w : World} {A : Around} {E : Value → Shared → Prop} {s : Shared}
/-- enumerate(v): its two new cells -/
theorem enum_begin1 {v : Value} {o : Obj} {G : Heap → Prop} {Q : Value → Shared → Prop} (B : Begins v o G) (g1 : G s.heap)
    (h : ∀ h', IsEnum h' (s.heap.objs.size + 1) s.heap.objs.size 0 .none → h'.get? s.heap.objs.size = some o → h'.objs.size = s.heap.objs.size + 2 → (∀ b o, s.heap.get? b = some o → h'.get? b = some o) → Q (.ref (s.heap.objs.size + 1)) { s with heap := h' }) :
    wpAny (model prog w) A (call (.type "enumerate") [v]) Q E s := by
  refine callType_new F.called_enumerate (by decide) (F.typeCall_enumerate_1 _) (F.newCall_enumerate_1 _) (fun obj => F.args_object_init_2 obj _) F.entry_enumerate_new (meets_enum1 B) ⟨g1, ?_⟩
  have more : (s.heap.push o).objs.size = s.heap.objs.size + 1 := Heap.size_push ..
  show _ ∧ _
  rw [more]
  have made : IsEnum ((s.heap.push o).push { cls := .type "enumerate", data := .fields #[.none, .bool false, .ref s.heap.objs.size, rawInt 0, .none, .none] }) (s.heap.objs.size + 1) s.heap.objs.size 0 .none := by
    have q := Heap.get?_push_size (s.heap.push o) (o := { cls := .type "enumerate", data := .fields #[.none, .bool false, .ref s.heap.objs.size, rawInt 0, .none, .none] }) rfl
    rw [more] at q
    exact q
  exact ⟨⟨_, made, rfl⟩, h _ made (Heap.get?_push_of_some _ (Heap.get?_push_size _ B.free)) (by rw [Heap.size_push, more]) fun b o x => Heap.get?_push_of_some _ (Heap.get?_push_of_some _ x)⟩
theorem begins_dict {dt : Addr} {od : Obj} {es : Array DictEntry} {ep : Nat} (ns : (dt == sysModules) = false) (ex : od.ExactDict) (dod : od.data = .dict es ep) :
    Begins (.ref dt) { cls := .type "dict_keyiterator", data := .fields #[.ref dt, .int 0 0, .int es.size 0, .int ep 0] } fun h => h.get? dt = some od where
  iter := fun prog w A E s Q g h => iter_keys ns g ex dod h
  keeps := fun h h' g k => k dt od g
  free := rfl
end
/-- the numbered keys of the locked dict at d -/
def Itek (d : Addr) (o : Obj) (kvs : List (Key × V)) : It :=
  ⟨fun i H => H d = some (.frz o (.dK kvs)) ∧ i < kvs.length, fun i H x H' => ∃ T k v, kvs[i]? = some (k, v) ∧ x = .ref T ∧ H T = none ∧ H' = upd H T (.tup [.int (i : Nat), kV k]), fun i H => H d = some (.frz o (.dK kvs)) ∧ kvs.length ≤ i⟩
theorem turn_enumK {P : Program} {w : World} {K : PySem.W.Frag} {elts : List Expr} {kk : Nat} {tpos : Pos} {d : Addr} {o : Obj} {es : Array DictEntry} {ep : Nat} {kvs : List (Key × V)} (e jt : Addr) (dod : o.data = .dict es ep) :
    Turn P w K (.Tuple elts kk tpos) (Itek d o kvs) [e, jt] e (fun i h => (∃ old, IsEnum h e jt ((i : Nat) : Int) old) ∧ h.IsKeyIter jt d i es.size ep ∧ e ≠ jt ∧ i ≤ es.size) where
  mem := by simp
  obj := fun i h st b hb => by
    obtain ⟨⟨old, he⟩, ⟨oj, hoj, cj, dj⟩, _⟩ := st
    have z : b = e ∨ b = jt := by simpa using hb
    rcases z with z | z
    · rw [z]; exact ⟨_, he, fun v q => nomatch q⟩
    · rw [z]; exact ⟨oj, hoj, fun v q => by rw [dj] at q; cases q⟩
  keep := fun i h h' st k => by
    obtain ⟨⟨old, he⟩, hj, n1, le⟩ := st
    exact ⟨⟨old, k e (by simp) _ he⟩, hj.at fun o q => k jt (by simp) o q, n1, le⟩
  item := by
    intro X hP hw hK hc i pins s σ H E I hf st hg
    subst hP hw hK
    obtain ⟨⟨old, he⟩, hj, n1, few⟩ := st
    obtain ⟨hd, hi⟩ := hg
    obtain ⟨_, hgd, hx, es', ep', vs, hdt, hsz, kv, hm⟩ := I.frzK hd
    obtain ⟨rfl, rfl⟩ := dict_ep dod hdt
    obtain ⟨⟨k, v⟩, hkv⟩ : ∃ p, kvs[i]? = some p := ⟨kvs[i], List.getElem?_eq_getElem hi⟩
    obtain ⟨u, hu, _⟩ := kv_get kv hkv
    have lt : i < es'.size := by omega
    have key : keyIs k es'[i].key = true := by
      obtain ⟨od, es2, hod, _, hdd, _, hp, _⟩ := hm
      rw [hgd] at hod
      cases hod
      obtain ⟨rfl, _⟩ := dict_ep hdt hdd
      exact (hp.get? (e := es2[i]) (by simp [lt]) hu).1
    have nd : e ≠ d := fun z => by
      rw [z] at he
      have q : some o = some _ := hgd.symm.trans he
      cases q
      cases hdt
    have nj : jt ≠ d := fun z => by
      obtain ⟨oj, hoj, cj, dj⟩ := hj
      rw [z, hgd] at hoj
      cases hoj
      rw [hdt] at dj
      cases dj
    have le : e < s.heap.objs.size := Heap.lt_size he
    have lj : jt < s.heap.objs.size := by
      obtain ⟨_, q, _⟩ := hj
      exact Heap.lt_size q
    refine wpAny_pyNext_enum_itemD (draws_keys (prog := X.prog) (w := X.w) (A := X.A.in1) (I.ok.hd hc) jt d hdt) he ⟨hj, hgd⟩ lt n1 (by simp [n1, nd]) fun x h' tk got out st' hT hz hk => ?_
    obtain ⟨en, hen, rfl⟩ := got
    rw [Array.getElem?_eq_getElem lt] at hen
    cases hen
    refine ⟨_, rfl, wpAny_letOwnedTupleGo_enum (s := { s with heap := h', toks := tk + 1 }) out fun h'' he' sb => ?_⟩
    have hT2 : h''.get? s.heap.objs.size = some { cls := .type "tuple", data := .seq #[.int i tk, es'[i].key] } := (sb.2 _ (Nat.ne_of_gt le)).trans hT
    have new : ObjOk X.prog X.w (upd H s.heap.objs.size (.tup [.int (i : Nat), kV k])) h'' s.heap.objs.size (.tup [.int (i : Nat), kV k]) :=
      ⟨by show 2 ≤ sizeLine; decide, [.int i tk, es'[i].key], .cons ⟨_, rfl⟩ (.cons (relV_key key) .nil), ⟨_, hT2, rfl, _, rfl⟩⟩
    have J : Inv X pins σ (upd H s.heap.objs.size (.tup [.int (i : Nat), kV k])) { s with heap := h'', toks := tk + 1 } :=
      I.turnedNew (ch := [e, jt]) (fun b ob hb q => (sb.2 b (fun z => hb (by simp [z]))).trans (hk b ob (fun z => hb (by simp [z])) (fun z => hb (by simp [z])) q)) hf (Nat.le_refl _) new
    refine ⟨.ref s.heap.objs.size, _, J, rfl, ⟨_, k, v, hkv, rfl, I.hok.fresh (Nat.le_refl _), rfl⟩, ⟨⟨es'[i].key, ?_⟩, st'.1.at fun o q => (sb.2 jt (Ne.symm n1)).trans q, n1, lt⟩, fun b hb => ?_⟩
    · have e1 : ((i + 1 : Nat) : Int) = (i : Int) + 1 := by omega
      rw [e1]
      exact he'
    · have z : b = e ∨ b = jt := by simpa using hb
      have hb' : b < s.heap.objs.size := by
        rcases z with z | z
        · rw [z]; exact le
        · rw [z]; exact lj
      rw [upd_ne (Nat.ne_of_lt hb')]
      exact (hf b hb).1
  done := by
    intro X hP hw hK hc i pins s σ H E I hf st hg
    subst hP hw hK
    obtain ⟨⟨old, he⟩, hj, n1, few⟩ := st
    obtain ⟨hd, hi⟩ := hg
    obtain ⟨_, hgd, hx, es', ep', vs, hdt, hsz, kv, hm⟩ := I.frzK hd
    obtain ⟨rfl, rfl⟩ := dict_ep dod hdt
    obtain ⟨f0, f1, f2, f3, f4, f5⟩ := hf jt (by simp)
    have ei : i = es'.size := by omega
    subst ei
    exact wpAny_pyNext_enum_endD (draws_keys (prog := X.prog) (w := X.w) (A := X.A.in1) (I.ok.hd hc) jt d hdt) he ⟨hj, hgd⟩ fun h' eb => ⟨rfl, I.turned (t' := s.toks) (fun b o hb q => eb b o hb q) f0 f1 f3 f4 f5⟩
  self := fun A i s Q E st h => by
    obtain ⟨⟨old, he⟩, _⟩ := st
    exact wpAny_pyIter_enum he h
/-- enumerate(d), the dict is locked -/
def iEnumK (ta : TA) : TI := fun σ H R => ta σ H fun vs H1 => ∃ d o kvs, vs = [.ref d] ∧ H1 d = some (.frz o (.dK kvs)) ∧ R (Itek d o kvs) H1
theorem pi_enumK {X : Cx} {e : Expr} {ta : TA} {p pos tpos : Pos} {elts : List Expr} {kk : Nat} (hg : Gl X "enumerate") (hm : X.mg "enumerate" = none) (ha : PA X [e] ta) (hs : starEach [e] X.env = [(false, eval e X.env)] := by rfl) :
    PI X (.Tuple elts kk tpos) (.Call (.Name "enumerate" p) [e] [] pos) (iEnumK ta) := by
  constructor
  intro pins s σ H R I h
  refine Call_ (ld_blt I hg hm boot_enumerate (PyProof.Rows.callWith_type1 (thn (ha.run pos pins s σ H _ I h) fun us s1 ⟨vs, H1, I1, r1, d, o, kvs, ex, hd, q⟩ => ?_) hs rfl))
  subst ex
  obtain rfl := Vals.ref1 r1
  obtain ⟨ns, hgd, hx, es, ep, ws, hdt, hsz, kv, _⟩ := I1.frzK hd
  refine enum_begin1 (begins_dict ns hx hdt) hgd fun h' he hj hz hk => wpAny_pyIter_enum he ?_
  have J : Inv X pins σ H1 { s1 with heap := h' } := I1.kept (t' := s1.toks) hk
  refine ⟨s1.heap.objs.size + 1, [s1.heap.objs.size + 1, s1.heap.objs.size], _, _, H1, rfl, J, turn_enumK (s1.heap.objs.size + 1) s1.heap.objs.size hdt, ⟨⟨.none, he⟩, ⟨_, hj, rfl, rfl⟩, Nat.succ_ne_self _, Nat.zero_le _⟩, fun b hb => ?_, q⟩
  have z : b = s1.heap.objs.size + 1 ∨ b = s1.heap.objs.size := by simpa using hb
  have ge : s1.heap.objs.size ≤ b := by
    rcases z with z | z <;> rw [z]
    · exact Nat.le_succ _
    · exact Nat.le_refl _
  exact I1.fpOk ge (I1.hok.fresh ge)
end Lc
end

section
/-! Dicts of numbers, comprehensions of dicts, locks. -/
namespace Lc
open PySem L2 PyProof.Rows PySem.Spec
variable [Lc.Tbs]
section
variable {K : PySem.W.Frag} {H : Hp} {Q : VK} {σ : L2.St}
def rIxA (K : PySem.W.Frag) : R2 := fun x i H Q => rIxL K x i H Q ∨ rIxT K x i H Q
theorem ix_A {X : Cx} : IxR X (rIxA X.K) := ix_list.or ix_tup
theorem r_ixA {p : Addr} {xs : List V} {i : Int} {v : V} (h : H p = some (.lst xs) ∨ H p = some (.tup xs)) (a : atI xs i = some v) (q : Q v H) : rIxA K (.ref p) (.int i) H Q := by
  rcases h with h | h
  · exact .inl (r_ixL h a q)
  · exact .inr (r_ixT h a q)
theorem r_lock {t : TE} {d : Addr} {u : HO} (h : H d = some u) (m : Mut (some u)) (k : ∀ od, t σ (upd H d (.frz od u)) fun v H' => H' d = some (.frz od u) ∧ Q v (upd H' d u)) : tLockE t σ H Q := ⟨d, u, h, m, k⟩
theorem r_keys {td : TE} {S : It → Hp → Prop} (h : td σ H fun x H1 => ∃ d o, x = .ref d ∧ ((∃ kvs, H1 d = some (.frz o (.dK kvs)) ∧ S (Itk d o kvs) H1) ∨ ∃ kvs, H1 d = some (.frz o (.dT kvs)) ∧ S (Itkt d o kvs) H1)) : iKeys td σ H S := h
theorem r_dgetR {td ty : TE} (h : td σ H fun x H1 => ty σ H1 fun y H2 => ∃ a v, x = .ref a ∧ DGet H2 a y (some v) ∧ Q v H2) : tDGet td ty σ H Q := h
theorem r_ckw {r : List V → List V → Hp → VK → Prop} {t tk : TA} (h : t σ H fun vs H1 => tk σ H1 fun zs H2 => r vs zs H2 Q) : tCKw r t tk σ H Q := h
theorem r_dput {td ty tv : TE} {D0 : Ends} (h : tv σ H fun v H1 => td σ H1 fun x H2 => ty σ H2 fun y H3 => ∃ a H4, x = .ref a ∧ DPut H3 a y v H4 ∧ D0.nx σ H4) : sDPut td ty tv D0 σ H := h
theorem r_dnotin {ty td : TE} (h : ty σ H fun y H1 => td σ H1 fun x H2 => ∃ a o, x = .ref a ∧ DGet H2 a y o ∧ Q (.bl (!o.isSome)) H2) : tDNotIn ty td σ H Q := h
theorem r_dset {td ty tx : TE} (h : td σ H fun x H1 => ∃ a, x = .ref a ∧ IsD H1 a ∧ ty σ H1 fun y H2 => tx σ H2 fun z H3 => ∃ (kvs : List (Key × V)) (k : Key), H3 a = some (.dK kvs) ∧ y = kV k ∧ kvs.length < sizeLine ∧
  (∀ v, valV kvs k = some v → Q v H3) ∧ (valV kvs k = none → Q z (upd H3 a (.dK (putK kvs k z))))) : tDSetd td ty tx σ H Q := h
theorem r_dc {wi : TI} {g : TG} {tt : TT} {tk tv : TE} {vs : List Nat} (h : wi σ H fun J H1 => ∀ D, H1 D = none → ∃ W : Nat → Nat → Hp → Prop, (∃ m, W 0 m (upd H1 D (.dK []))) ∧ ∀ i m H, W i m H →
      (J.stop i H ∧ Q (.ref D) H) ∨ (J.go i H ∧ ∃ Nx : Hp → Prop, (∀ H', Nx H' → ∃ m', m' < m ∧ W (i + 1) m' H') ∧ ∀ x H', J.yld i H x H' → g x (wipe σ vs) H' fun σ2 H2 => wipe σ2 vs = wipe σ vs ∧ tt σ2 H2 fun b H3 =>
        if b = true then tk σ2 H3 fun y H4 => tv σ2 H4 fun z H5 => ∃ kvs k, y = kV k ∧ H5 D = some (.dK kvs) ∧ kvs.length < sizeLine ∧ Nx (upd H5 D (.dK (putK kvs k z))) else Nx H3)) : tDc wi g tt tk tv vs σ H Q := h
end
section
variable {J : It} {n : Nat} {G : Hp → Prop} {Y : Nat → Hp → V → Hp → Prop}
theorem dc_it (w : Walk J n G Y) {g : TG} {tt : TT} {tk tv : TE} {vs : List Nat} {σ : L2.St} {H1 : Hp} {D : Addr} {Qd : Hp → Prop} (Pv : Nat → Hp → Prop) (h0 : Pv 0 (upd H1 D (.dK []))) (hG : ∀ i H, i ≤ n → Pv i H → G H)
    (hs : ∀ i x H H', i < n → Pv i H → Y i H x H' → g x (wipe σ vs) H' fun σ2 H2 => wipe σ2 vs = wipe σ vs ∧ tt σ2 H2 fun b H3 =>
      if b = true then tk σ2 H3 fun y H4 => tv σ2 H4 fun z H5 => ∃ kvs k, y = kV k ∧ H5 D = some (.dK kvs) ∧ kvs.length < sizeLine ∧ Pv (i + 1) (upd H5 D (.dK (putK kvs k z))) else Pv (i + 1) H3) (hd : ∀ H, Pv n H → Qd H) :
    ∃ W : Nat → Nat → Hp → Prop, (∃ m, W 0 m (upd H1 D (.dK []))) ∧ ∀ i m H, W i m H →
      (J.stop i H ∧ Qd H) ∨ (J.go i H ∧ ∃ Nx : Hp → Prop, (∀ H', Nx H' → ∃ m', m' < m ∧ W (i + 1) m' H') ∧ ∀ x H', J.yld i H x H' → g x (wipe σ vs) H' fun σ2 H2 => wipe σ2 vs = wipe σ vs ∧ tt σ2 H2 fun b H3 =>
        if b = true then tk σ2 H3 fun y H4 => tv σ2 H4 fun z H5 => ∃ kvs k, y = kV k ∧ H5 D = some (.dK kvs) ∧ kvs.length < sizeLine ∧ Nx (upd H5 D (.dK (putK kvs k z))) else Nx H3) := by
  refine ⟨fun i m H => m = n - i ∧ i ≤ n ∧ Pv i H, ⟨n, by simp, Nat.zero_le _, h0⟩, ?_⟩
  rintro i m H ⟨rfl, hi, p⟩
  have q := hG i H hi p
  by_cases hlt : i < n
  · exact .inr ⟨w.goes i H hlt q, Pv (i + 1), fun H' p' => ⟨n - (i + 1), by omega, rfl, hlt, p'⟩, fun x H' y => hs i x H H' hlt p (w.yields i H x H' hlt q y)⟩
  · have e : i = n := by omega
    subst e
    exact .inl ⟨w.stops H q, hd H p⟩
end
theorem tabs_frz {T : List NdefX.NTab} {H : Hp} {p : Addr} {od : Obj} {u o : HO} (t : NdefX.TabsN T H) (e : H p = some (.frz od u)) : NdefX.TabsN T (upd H p o) := fun q hq => by
  obtain ⟨ps, h1, h2, h3⟩ := t q hq
  have n1 : q.1 ≠ p := fun z => by
    rw [z, e] at h1
    cases h1
  refine ⟨ps, (upd_ne n1).trans h1, h2, fun pos cv hc => ?_⟩
  obtain ⟨c, e1, e2⟩ := h3 pos cv hc
  refine ⟨c, e1, (upd_ne fun z => ?_).trans e2⟩
  rw [z, e] at e2
  cases e2
theorem lock_t {H : Hp} {d : Addr} {u : HO} {od : Obj} (h : H d = some u) (n : ∀ xs, u ≠ .tup xs) : KeepT H (upd H d (.frz od u)) := fun b xs e => by
  rw [upd_ne (fun z => by rw [z, h] at e; cases e; exact n _ rfl)]
  exact e
theorem unlock_t {H : Hp} {d : Addr} {u : HO} {od : Obj} (h : H d = some (.frz od u)) : KeepT H (upd H d u) := fun b xs e => by
  rw [upd_ne (fun z => by rw [z, h] at e; cases e)]
  exact e
theorem Kp.unlock {H H' : Hp} {d : Addr} {u : HO} {od : Obj} (k : Kp [] (upd H d (.frz od u)) H') (h : H d = some u) (pl : plnB u = true) : Kp [] H (upd H' d u) := by
  have e : H' d = some (.frz od u) := k.get (b := d) (o := .frz od u) upd_same
  refine ⟨fun b o _ hb => ?_, fun t => ?_⟩
  · by_cases z : b = d
    · subst z
      rw [upd_same]
      rw [h] at hb
      exact .mk hb
    · rw [upd_ne z]
      exact k.keep b o (fun z => nomatch z) (by rw [upd_ne z]; exact hb)
  · exact tabs_frz (k.tab (tabs_upd t ⟨u, h, pl⟩)) e
/-! ### dicts whose keys are numbers -/
/-- what stands in a dict, in its order -/
def DkR {α : Type} (R : V → α → Prop) : List (Key × V) → List (Nat × α) → Prop
  | [], [] => True
  | (k, v) :: r, (n, a) :: ms => k = .inl (n : Int) ∧ R v a ∧ DkR R r ms
  | _, _ => False
section
variable {α : Type} {R : V → α → Prop}
theorem DkR.mono {R' : V → α → Prop} (h : ∀ v a, R v a → R' v a) : ∀ {kvs : List (Key × V)} {ms : List (Nat × α)}, DkR R kvs ms → DkR R' kvs ms
  | [], [], _ => trivial
  | (_, _) :: _, (_, _) :: _, ⟨a, b, c⟩ => ⟨a, h _ _ b, DkR.mono h c⟩
theorem DkR.len : ∀ {kvs : List (Key × V)} {ms : List (Nat × α)}, DkR R kvs ms → kvs.length = ms.length
  | [], [], _ => rfl
  | (_, _) :: _, (_, _) :: _, ⟨_, _, c⟩ => congrArg Nat.succ (DkR.len c)
theorem DkR.at_ : ∀ {kvs : List (Key × V)} {ms : List (Nat × α)} {i : Nat} {k : Key} {v : V}, DkR R kvs ms → kvs[i]? = some (k, v) → ∃ n a, ms[i]? = some (n, a) ∧ k = .inl (n : Int) ∧ R v a
  | (_, _) :: _, (n, a) :: _, 0, _, _, ⟨e, b, _⟩, h => by
    cases h
    exact ⟨n, a, rfl, e, b⟩
  | (_, _) :: _, (_, _) :: _, i + 1, _, _, ⟨_, _, c⟩, h => by
    obtain ⟨n, a, h1, h2⟩ := DkR.at_ (i := i) c (by simpa using h)
    exact ⟨n, a, by simpa using h1, h2⟩
theorem DkR.none : ∀ {kvs : List (Key × V)} {ms : List (Nat × α)} {n : Nat}, DkR R kvs ms → (valV kvs (.inl (n : Int)) = Option.none ↔ n ∉ ms.map (·.1))
  | [], [], n, _ => by simp [valV_nil]
  | (k, v) :: r, (m, a) :: ms, n, ⟨e, _, c⟩ => by
    have ih := DkR.none (n := n) c
    by_cases z : k = .inl (n : Int)
    · rw [valV_pos z]
      rw [e] at z
      have : m = n := by
        injection z with z
        omega
      subst this
      simp
    · rw [valV_neg z, ih]
      have : n ≠ m := fun y => z (by rw [e, y])
      simp [this]
theorem DkR.val : ∀ {kvs : List (Key × V)} {ms : List (Nat × α)} {n : Nat} {a : α}, DkR R kvs ms → (ms.map (·.1)).Nodup → (n, a) ∈ ms → ∃ v, valV kvs (.inl (n : Int)) = some v ∧ R v a
  | [], [], _, _, _, _, h => nomatch h
  | (k, v) :: r, (m, b) :: ms, n, a, ⟨e, hb, c⟩, nd, h => by
    rw [List.map_cons, List.nodup_cons] at nd
    rcases List.mem_cons.mp h with h | h
    · cases h
      exact ⟨v, valV_pos e, hb⟩
    · have ne : ¬ k = .inl (n : Int) := fun z => by
        rw [e] at z
        injection z with z
        have : m = n := by omega
        exact nd.1 (by rw [this]; exact List.mem_map.mpr ⟨_, h, rfl⟩)
      obtain ⟨v', h1, h2⟩ := DkR.val c nd.2 h
      exact ⟨v', by rw [valV_neg ne]; exact h1, h2⟩
theorem DkR.snoc : ∀ {kvs : List (Key × V)} {ms : List (Nat × α)} {n : Nat} {v : V} {a : α}, DkR R kvs ms → R v a → DkR R (kvs ++ [(.inl (n : Int), v)]) (ms ++ [(n, a)])
  | [], [], _, _, _, _, h => ⟨rfl, h, trivial⟩
  | (_, _) :: _, (_, _) :: _, _, _, _, ⟨e, b, c⟩, h => ⟨e, b, DkR.snoc c h⟩
end
def natsV (ns : List Nat) : List V := ns.map fun n => V.int (n : Nat)
theorem natsV_len (ns : List Nat) : (natsV ns).length = ns.length := by unfold natsV; rw [List.length_map]
theorem natsV_at {ns : List Nat} {i n : Nat} (h : ns[i]? = some n) : (natsV ns)[i]? = some (.int (n : Nat)) := by
  unfold natsV
  rw [List.getElem?_map, h]
  rfl
/-- an order -/
def OdR (H : Hp) (v : V) (f : List Nat) : Prop := ∃ L, v = .ref L ∧ H L = some (.lst (natsV f))
def RwR (H : Hp) (v : V) (x : Nat × List Nat) : Prop := ∃ r L, v = .ref r ∧ H r = some (.lst [.int (x.1 : Nat), .ref L]) ∧ H L = some (.lst (natsV x.2))
def FpR (H : Hp) (v : V) (ps : List D) : Prop := Dt H (.tup ps) v
def RkR (v : V) (i : Nat) : Prop := v = .int (i : Nat)
theorem OdR.mono {H H' : Hp} (k : Kp [] H H') {v : V} {f : List Nat} (h : OdR H v f) : OdR H' v f := by
  obtain ⟨L, e, h⟩ := h
  exact ⟨L, e, k.get h⟩
theorem RwR.mono {H H' : Hp} (k : Kp [] H H') {v : V} {f : Nat × List Nat} (h : RwR H v f) : RwR H' v f := by
  obtain ⟨r, L, e, h1, h2⟩ := h
  exact ⟨r, L, e, k.get h1, k.get h2⟩
/-! ### orders from sorting -/
theorem getD_at {is : List Nat} {j : Nat} (h : j < is.length) : is.getD j 0 = is[j] := by
  rw [List.getD_eq_getElem?_getD, List.getElem?_eq_getElem h]
  rfl
theorem fall_of {is f : List Nat} (nd : is.Nodup) (p : f.Perm (List.range is.length)) (s : f.Pairwise fun a b => is.getD b 0 ≤ is.getD a 0) : IsFall is f := by
  refine ⟨p, ?_⟩
  have lt : ∀ j ∈ f, j < is.length := IsOrd.lt p
  have e : ∀ {g : List Nat}, (∀ j ∈ g, j < is.length) → pick is g = g.map fun j => is.getD j 0 := by
    intro g
    induction g with
    | nil => intro _; rfl
    | cons j g ih =>
      intro h
      have hj := h j List.mem_cons_self
      rw [pick_cons is j g (List.getElem?_eq_getElem hj), ih fun i hi => h i (List.mem_cons_of_mem _ hi), List.map_cons, getD_at hj]
  rw [e lt, List.pairwise_map]
  have nf : f.Nodup := p.nodup_iff.mpr List.nodup_range
  refine (List.Pairwise.and_mem.mp (List.Pairwise.and s nf)).imp fun {a b} h => ?_
  obtain ⟨ha, hb, h1, h2⟩ := h
  have la := lt a ha
  have lb := lt b hb
  rw [getD_at la, getD_at lb] at h1 ⊢
  have ne : is[a] ≠ is[b] := fun z => h2 ((List.getElem?_inj la nd).mp (by rw [List.getElem?_eq_getElem la, List.getElem?_eq_getElem lb, z]))
  omega
def kOf (H : Hp) : V → Int × Int
  | .ref t => match H t with
    | some (.tup [.int a, .int b]) => (a, b)
    | _ => (0, 0)
  | _ => (0, 0)
theorem kOf_eq {H : Hp} {t : Addr} {a b : Int} (h : H t = some (.tup [.int a, .int b])) : kOf H (.ref t) = (a, b) := by
  show (match H t with
    | some (.tup [.int a, .int b]) => (a, b)
    | _ => (0, 0)) = _
  rw [h]
theorem map_range {xs : List V} {k : V → Int × Int} {c : Nat → Int} (hx : ∀ i v, xs[i]? = some v → k v = (c i, ((i : Nat) : Int))) : (xs.map fun v => (k v).2.toNat) = List.range xs.length := by
  apply List.ext_getElem?
  intro i
  rw [List.getElem?_map]
  rcases Nat.lt_or_ge i xs.length with lt | ge
  · rw [List.getElem?_eq_getElem lt, List.getElem?_range lt]
    show some (k xs[i]).2.toNat = _
    rw [hx i _ (List.getElem?_eq_getElem lt)]
    rfl
  · rw [List.getElem?_eq_none ge, List.getElem?_eq_none (by rw [List.length_range]; exact ge)]
    rfl
theorem fall_sorted {is : List Nat} {xs us : List V} {k : V → Int × Int} (nd : is.Nodup) (lx : xs.length = is.length) (hx : ∀ i v, xs[i]? = some v → k v = (((is.getD i 0 : Nat) : Int), ((i : Nat) : Int))) (s : SrtO.Srtd (ltP k) us) (p : us.Perm xs) :
    IsFall is (us.reverse.map fun v => (k v).2.toNat) := by
  refine fall_of nd ?_ ?_
  · have q := ((List.reverse_perm us).trans p).map fun v => (k v).2.toNat
    rw [map_range (c := fun i => ((is.getD i 0 : Nat) : Int)) hx, lx] at q
    exact q
  · rw [List.pairwise_map, List.pairwise_reverse]
    refine List.Pairwise.imp_of_mem ?_ s
    intro a b ha hb h
    obtain ⟨i, hi⟩ := List.getElem?_of_mem (p.mem_iff.mp ha)
    obtain ⟨j, hj⟩ := List.getElem?_of_mem (p.mem_iff.mp hb)
    have ea := hx i a hi
    have eb := hx j b hj
    have n : ¬ SrtO.lexB (k b) (k a) = true := by
      have h' : SrtO.lexB (k b) (k a) = false := h
      rw [h']
      decide
    rw [SrtO.lexB_iff, ea, eb] at n
    rw [ea, eb]
    show is.getD ((i : Nat) : Int).toNat 0 ≤ is.getD ((j : Nat) : Int).toNat 0
    rw [Int.toNat_natCast, Int.toNat_natCast]
    omega
theorem fall_sorted0 {is : List Nat} {xs us : List V} {k : V → Int × Int} (nd : is.Nodup) (lx : xs.length = is.length) (hx : ∀ i v, xs[i]? = some v → k v = ((0 : Int) - ((is.getD i 0 : Nat) : Int), ((i : Nat) : Int))) (s : SrtO.Srtd (ltP k) us) (p : us.Perm xs) :
    IsFall is (us.map fun v => (k v).2.toNat) := by
  refine fall_of nd ?_ ?_
  · have q := p.map fun v => (k v).2.toNat
    rw [map_range (c := fun i => (0 : Int) - ((is.getD i 0 : Nat) : Int)) hx, lx] at q
    exact q
  · rw [List.pairwise_map]
    refine List.Pairwise.imp_of_mem ?_ s
    intro a b ha hb h
    obtain ⟨i, hi⟩ := List.getElem?_of_mem (p.mem_iff.mp ha)
    obtain ⟨j, hj⟩ := List.getElem?_of_mem (p.mem_iff.mp hb)
    have ea := hx i a hi
    have eb := hx j b hj
    have n : ¬ SrtO.lexB (k b) (k a) = true := by
      have h' : SrtO.lexB (k b) (k a) = false := h
      rw [h']
      decide
    rw [SrtO.lexB_iff, ea, eb] at n
    rw [ea, eb]
    show is.getD ((j : Nat) : Int).toNat 0 ≤ is.getD ((i : Nat) : Int).toNat 0
    rw [Int.toNat_natCast, Int.toNat_natCast]
    omega
/-! ### places and parts -/
def HdOk (h : D) : Prop := (∃ k : Nat, h = hd2 "h" k) ∨ NotH h
mutual
/-- the form of a term, holes by numbers -/
def Nd : D → Prop
  | .tup [.int _, h, .tup ps] => HdOk h ∧ Nds ps
  | _ => False
def Nds : List D → Prop
  | [] => True
  | p :: ps => Nd p ∧ Nds ps
end
theorem Nd.inv {d : D} (h : Nd d) : ∃ n x ps, d = .tup [.int n, x, .tup ps] ∧ HdOk x ∧ Nds ps := by
  unfold Nd at h
  split at h
  · exact ⟨_, _, _, rfl, h⟩
  · exact h.elim
theorem nd_mk {n : Int} {x : D} {ps : List D} (h : HdOk x) (q : Nds ps) : Nd (.tup [.int n, x, .tup ps]) := by
  rw [Nd]
  exact ⟨h, q⟩
mutual
theorem nd_long : ∀ (t : Ty) (i : Int), Nd (longD "b" i t)
  | .mk as s, i => by
    have e : raiseH "b" i as.length = hd2 "b" (i + as.length) := by
      unfold raiseH
      rw [if_pos rfl]
    rw [longD, e]
    exact nd_mk (.inr (.inl ⟨_, rfl⟩)) (nd_longs as as.length 0)
theorem nd_longs : ∀ (ts : List Ty) (n j : Nat), Nds (longs n j ts)
  | [], _, _ => by rw [longs, Nds]; trivial
  | t :: ts, n, j => by rw [longs, Nds]; exact ⟨nd_long t _, nd_longs ts n (j + 1)⟩
end
theorem nd_lg : ∀ (is : List Int) (ts : List Ty), Nds (lgPs is ts)
  | [], _ => by rw [show lgPs [] _ = [] from rfl, Nds]; trivial
  | _ :: _, [] => by rw [show lgPs (_ :: _) [] = [] from rfl, Nds]; trivial
  | i :: is, t :: ts => by
    rw [show lgPs (i :: is) (t :: ts) = longD "b" i t :: lgPs is ts from rfl, Nds]
    exact ⟨nd_long t i, nd_lg is ts⟩
mutual
theorem nd_pt {hs : List Ty} : ∀ (d : D), Pt hs d → Nd d
  | .tup xs, h => by
    obtain ⟨n, x, ps, e, q⟩ := h.inv
    injection e with e
    subst e
    rcases q with ⟨k, t, is, rfl, _, _, _, rfl⟩ | ⟨nh, q⟩
    · exact nd_mk (.inl ⟨k, rfl⟩) (nd_lg _ _)
    · exact nd_mk (.inr nh) (nds_pts ps q)
  | .non, h => by simp [Pt] at h
  | .bl _, h => by simp [Pt] at h
  | .int _, h => by simp [Pt] at h
  | .str _, h => by simp [Pt] at h
theorem nds_pts {hs : List Ty} : ∀ (ds : List D), Pts hs ds → Nds ds
  | [], _ => by rw [Nds]; trivial
  | d :: ds, h => by
    rw [Pts] at h
    rw [Nds]
    exact ⟨nd_pt d h.1, nds_pts ds h.2⟩
end
mutual
theorem nd_F : ∀ (d : D), Nd d → tmF d = true
  | .tup xs, h => by
    obtain ⟨n, x, ps, e, q1, q2⟩ := h.inv
    injection e with e
    subst e
    rw [tmF]
    exact nds_F ps q2
  | .non, h => by simp [Nd] at h
  | .bl _, h => by simp [Nd] at h
  | .int _, h => by simp [Nd] at h
  | .str _, h => by simp [Nd] at h
theorem nds_F : ∀ (ds : List D), Nds ds → tmFs ds = true
  | [], _ => rfl
  | d :: ds, h => by
    rw [Nds] at h
    rw [tmFs, nd_F d h.1, nds_F ds h.2]
    rfl
end
mutual
theorem nd_preo : ∀ (d : D) (o : Int), Nd d → ∀ x ∈ preo o d, Nd x.1
  | .tup xs, o, h, x, hx => by
    have h0 := h
    obtain ⟨n, y, ps, e, q1, q2⟩ := h.inv
    injection e with e
    subst e
    rw [preo_eq] at hx
    rcases List.mem_cons.mp hx with rfl | hx
    · exact h0
    · exact nds_preos ps (o + n) q2 x hx
  | .non, _, h, _, _ => by simp [Nd] at h
  | .bl _, _, h, _, _ => by simp [Nd] at h
  | .int _, _, h, _, _ => by simp [Nd] at h
  | .str _, _, h, _, _ => by simp [Nd] at h
theorem nds_preos : ∀ (ds : List D) (o : Int), Nds ds → ∀ x ∈ preos o ds, Nd x.1
  | [], _, _, x, hx => by rw [preos] at hx; cases hx
  | d :: ds, o, h, x, hx => by
    rw [Nds] at h
    rw [preos] at hx
    rcases List.mem_append.mp hx with hx | hx
    · exact nd_preo d o h.1 x hx
    · exact nds_preos ds o h.2 x hx
end
theorem Nds.at_ : ∀ {ds : List D} {i : Nat} {d : D}, Nds ds → ds[i]? = some d → Nd d
  | d :: ds, 0, _, h, e => by
    cases e
    rw [Nds] at h
    exact h.1
  | d :: ds, i + 1, _, h, e => by
    rw [Nds] at h
    exact Nds.at_ (i := i) h.2 (by simpa using e)
theorem addF_len (acc : List Mt) (x : Mt) : (addF acc x).length ≤ acc.length + 1 := by
  unfold addF
  split
  · omega
  · rw [List.length_append]
    simp
theorem fold_len : ∀ (l acc : List Mt), (l.foldl addF acc).length ≤ acc.length + l.length
  | [], acc => by simp
  | x :: l, acc => by
    have := fold_len l (addF acc x)
    have := addF_len acc x
    rw [List.foldl_cons, List.length_cons]
    omega
/-! ### parts by node -/
def nodeM : D → Option Mt
  | .tup [.int _, h, .tup ps] => (holeN h).map fun k => (k, ps)
  | _ => none
theorem nodeM_h (n : Int) (k : Nat) (ps : List D) : nodeM (.tup [.int n, hd2 "h" k, .tup ps]) = some (k, ps) := by
  simp only [nodeM, holeN_h, Option.map_some]
theorem nodeM_n {n : Int} {x : D} {ps : List D} (h : NotH x) : nodeM (.tup [.int n, x, .tup ps]) = none := by
  simp only [nodeM, h.none, Option.map_none]
theorem fm_some {l : List Pl} {j : Nat} {x : Pl} {m : Mt} (h : l[j]? = some x) (e : nodeM x.1 = some m) : ((l.take (j + 1)).filterMap fun x => nodeM x.1) = ((l.take j).filterMap fun x => nodeM x.1) ++ [m] := by
  rw [take_one h, List.filterMap_append]
  congr 1
  simp [e]
theorem fm_none {l : List Pl} {j : Nat} {x : Pl} (h : l[j]? = some x) (e : nodeM x.1 = none) : ((l.take (j + 1)).filterMap fun x => nodeM x.1) = ((l.take j).filterMap fun x => nodeM x.1) := by
  rw [take_one h, List.filterMap_append]
  simp [e]
theorem firsts_snoc (l : List Mt) (x : Mt) : firsts (l ++ [x]) = addF (firsts l) x := by
  unfold firsts
  rw [List.foldl_append]
  rfl
theorem met_eq (n : Int) (h : D) (ps : List D) : met (.tup [.int n, h, .tup ps]) = (nodeM (.tup [.int n, h, .tup ps])).toList ++ mets ps := by
  rw [met]
  show _ = ((holeN h).map _).toList ++ _
  cases holeN h with
  | none => rfl
  | some k => rfl
mutual
theorem met_preo : ∀ (d : D) (o : Int), tmF d = true → met d = (preo o d).filterMap fun x => nodeM x.1
  | .tup xs, o, f => by
    obtain ⟨n, h, ps, e, fp⟩ := tmF_of f
    injection e with e
    subst e
    rw [met_eq, preo_eq, List.filterMap_cons, mets_preos ps (o + n) fp]
    cases nodeM (.tup [.int n, h, .tup ps]) with
    | none => rfl
    | some x => rfl
  | .non, o, f => by simp [tmF] at f
  | .bl _, o, f => by simp [tmF] at f
  | .int _, o, f => by simp [tmF] at f
  | .str _, o, f => by simp [tmF] at f
theorem mets_preos : ∀ (ds : List D) (o : Int), tmFs ds = true → mets ds = (preos o ds).filterMap fun x => nodeM x.1
  | [], o, _ => by rw [mets, preos]; rfl
  | d :: ds, o, f => by
    rw [tmFs, Bool.and_eq_true] at f
    rw [mets, preos, List.filterMap_append, met_preo d o f.1, mets_preos ds o f.2]
end
theorem mets_len {ds : List D} (f : tmFs ds = true) : (mets ds).length ≤ szs ds := by
  rw [mets_preos ds 0 f]
  exact Nat.le_trans (List.length_filterMap_le _ _) (preos_len 0 ds)
end Lc
end

section
/-! Nodes changed by numbers and orders; what holes have. -/
namespace Lc
open PySem L2 PyProof.Rows PySem.Spec
variable [Lc.Tbs]
structure MtOk (hs : List Ty) (m : Mt) : Prop where
  ex : ∃ is t, hs[m.1]? = some t ∧ m.2 = lgPs (intsOf is) t.as ∧ is.length = t.as.length ∧ is.Nodup
mutual
theorem met_pt {hs : List Ty} : ∀ (d : D), Pt hs d → ∀ m ∈ met d, MtOk hs m
  | .tup xs, h, m, hm => by
    obtain ⟨n, x, ps, e, q⟩ := h.inv
    injection e with e
    subst e
    rcases q with ⟨k, t, is, rfl, hk, li, nd, rfl⟩ | ⟨nh, q⟩
    · rw [met_h, mets_lg] at hm
      rw [List.mem_singleton.mp hm]
      exact ⟨is, t, hk, rfl, li, nd⟩
    · rw [met_n nh] at hm
      exact mets_pts ps q m hm
  | .non, h, _, _ => by simp [Pt] at h
  | .bl _, h, _, _ => by simp [Pt] at h
  | .int _, h, _, _ => by simp [Pt] at h
  | .str _, h, _, _ => by simp [Pt] at h
theorem mets_pts {hs : List Ty} : ∀ (ds : List D), Pts hs ds → ∀ m ∈ mets ds, MtOk hs m
  | [], _, m, hm => by rw [mets] at hm; cases hm
  | d :: ds, h, m, hm => by
    rw [Pts] at h
    rw [mets] at hm
    rcases List.mem_append.mp hm with hm | hm
    · exact met_pt d h.1 m hm
    · exact mets_pts ds h.2 m hm
end
/-- what a node becomes -/
def gTd (ρ : Nat → Nat × List Nat) (node : D) (_ : Int) (ds : List D) : D := match node with
  | .tup [.int n, h, _] => match holeN h with
    | some k => .tup [.int n, hd2 "h" (ρ k).1, .tup (pick ds (ρ k).2)]
    | none => .tup [.int n, h, .tup ds]
  | d => d
theorem gTd_h (ρ : Nat → Nat × List Nat) (n : Int) (k : Nat) (p : D) (i : Int) (ds : List D) : gTd ρ (.tup [.int n, hd2 "h" k, p]) i ds = .tup [.int n, hd2 "h" (ρ k).1, .tup (pick ds (ρ k).2)] := by
  simp only [gTd, holeN_h]
theorem gTd_n (ρ : Nat → Nat × List Nat) {n : Int} {x p : D} (i : Int) (ds : List D) (h : NotH x) : gTd ρ (.tup [.int n, x, p]) i ds = .tup [.int n, x, .tup ds] := by
  simp only [gTd, h.none]
mutual
theorem fold_td (ρ : Nat → Nat × List Nat) : ∀ (d : D) (o : Int), Nd d → foldD (gTd ρ) o d = tdD ρ d
  | .tup xs, o, h => by
    obtain ⟨n, y, ps, e, q1, q2⟩ := h.inv
    injection e with e
    subst e
    rw [foldD_eq, folds_td ρ ps (o + n) q2]
    rcases q1 with ⟨k, rfl⟩ | nh
    · rw [gTd_h, tdD_h]
    · rw [gTd_n ρ _ _ nh, tdD_n ρ nh]
  | .non, _, h => by simp [Nd] at h
  | .bl _, _, h => by simp [Nd] at h
  | .int _, _, h => by simp [Nd] at h
  | .str _, _, h => by simp [Nd] at h
theorem folds_td (ρ : Nat → Nat × List Nat) : ∀ (ds : List D) (o : Int), Nds ds → folds (gTd ρ) o ds = tdDs ρ ds
  | [], o, _ => by rw [folds, tdDs]
  | d :: ds, o, h => by
    rw [Nds] at h
    rw [folds, tdDs, fold_td ρ d o h.1, folds_td ρ ds o h.2]
end
/-- a node that may be changed by numbers and orders o -/
def okTd (o : Ods) (d : D) : Prop := ∃ n h ps, d = .tup [.int n, h, .tup ps] ∧ ((∃ k : Nat, h = hd2 "h" k ∧ k ∈ o.map (·.1) ∧ (∀ j ∈ (rhoO o k).2, j < ps.length) ∧ (rhoO o k).2.length ≤ ps.length) ∨ NotH h)
theorem preo_okTd {hs : List Ty} {M : List Mt} {o : Ods} (ho : OdsOk hs M o) (nd : (M.map (·.1)).Nodup) {d : D} (hd : Pt hs d) (sub : ∀ m ∈ met d, m.1 ∈ M.map (·.1)) : ∀ x ∈ preo 0 d, okTd o x.1 := by
  intro x hx
  have n1 := nd_pt d hd
  obtain ⟨n, h, ps, e, q, _⟩ := (nd_preo d 0 n1 x hx).inv
  refine ⟨n, h, ps, e, ?_⟩
  rcases q with ⟨k, rfl⟩ | nh
  · refine .inl ⟨k, rfl, ?_⟩
    have mem : ((k, ps) : Mt) ∈ met d := by
      rw [met_preo d 0 (nd_F d n1)]
      refine List.mem_filterMap.mpr ⟨x, hx, ?_⟩
      rw [e]
      exact nodeM_h n k ps
    obtain ⟨is, t, ht, ep, li, _⟩ := (met_pt d hd _ mem).ex
    have km := sub _ mem
    obtain ⟨i, ps', f, hi, hoi, hr⟩ := ho.find nd km
    refine ⟨by rw [ho.keys]; exact km, ?_⟩
    rw [hr]
    have a := ho.at_ i _ _ hi hoi
    obtain ⟨is', t', ht', ep', li', _, f1⟩ := a.ex
    have ht2 : hs[k]? = some t' := ht'
    rw [show hs[k]? = some t from ht] at ht2
    cases ht2
    have ep2 : ps = lgPs (intsOf is) t.as := ep
    rw [ep2, lgPs_len (by unfold intsOf; rw [List.length_map]; exact li)]
    refine ⟨fun j hj => ?_, ?_⟩
    · have := f1.ord.lt j hj
      omega
    · have : f.length = is'.length := f1.ord.len
      show f.length ≤ t.as.length
      omega
  · exact .inr nh
/-- the ranks -/
def rksO (o : Ods) : List (Nat × Nat) := (o.map (·.1)).zipIdx
theorem rksO_keys (o : Ods) : (rksO o).map (·.1) = o.map (·.1) := by
  unfold rksO
  exact List.zipIdx_map_fst ..
theorem rksO_snoc {o : Ods} {i : Nat} {x : Nat × List Nat} (h : o[i]? = some x) : rksO (o.take (i + 1)) = rksO (o.take i) ++ [(x.1, i)] := by
  have lt := (List.getElem?_eq_some_iff.mp h).1
  unfold rksO
  rw [take_one h, List.map_append, List.zipIdx_append]
  congr 1
  show [(x.1, 0 + _)] = _
  rw [List.length_map, List.length_take]
  congr 2
  omega
theorem rksO_mem {o : Ods} {k : Nat} (h : k ∈ o.map (·.1)) : (k, rkO o k) ∈ rksO o := by
  unfold rksO rkO
  rw [List.mem_zipIdx_iff_getElem?]
  show (o.map (·.1))[List.idxOf k (o.map (·.1))]? = some k
  have lt := List.idxOf_lt_length_iff.mpr h
  rw [List.getElem?_eq_getElem lt, List.getElem_idxOf]
theorem odO_mem {o : Ods} {k : Nat} (h : k ∈ o.map (·.1)) : (k, odO o k) ∈ o := by
  have lt : List.idxOf k (o.map (·.1)) < (o.map (·.1)).length := List.idxOf_lt_length_iff.mpr h
  have lt2 : rkO o k < o.length := by
    have := lt
    rw [List.length_map] at this
    exact this
  have e : (o.map (·.1))[rkO o k]? = some k := by
    show (o.map (·.1))[List.idxOf k (o.map (·.1))]? = some k
    rw [List.getElem?_eq_getElem lt, List.getElem_idxOf]
  rw [List.getElem?_map, List.getElem?_eq_getElem lt2] at e
  have e2 : (o[rkO o k]).1 = k := Option.some.inj e
  unfold odO
  rw [List.getElem?_eq_getElem lt2]
  show (k, (o[rkO o k]).2) ∈ o
  rw [← Prod.eta o[rkO o k]] at *
  have m := List.getElem_mem lt2
  rw [show o[rkO o k] = (k, (o[rkO o k]).2) from Prod.ext e2 rfl] at m
  exact m
theorem OdR.unlock {H : Hp} {d : Addr} {od : Obj} {u u' : HO} (e : H d = some (.frz od u)) {v : V} {f : List Nat} (h : OdR H v f) : OdR (upd H d u') v f := by
  obtain ⟨L, rfl, h⟩ := h
  exact ⟨L, rfl, by rw [upd_ne (fun z => by rw [z, e] at h; cases h)]; exact h⟩
theorem kindsO_snoc (hs : List Ty) {o : Ods} {i : Nat} {x : Nat × List Nat} (h : o[i]? = some x) : kindsO hs (o.take (i + 1)) = kindsO hs (o.take i) ++ [.mk (pick (tyAt hs x.1).as x.2) (tyAt hs x.1).s] := by
  unfold kindsO
  rw [take_one h, List.map_append]
  rfl
theorem r_enumK {ta : TA} {σ : L2.St} {H : Hp} {S : It → Hp → Prop} (h : ta σ H fun vs H1 => ∃ d o kvs, vs = [.ref d] ∧ H1 d = some (.frz o (.dK kvs)) ∧ S (Itek d o kvs) H1) : iEnumK ta σ H S := h
theorem walk_enumK {d : Addr} {o : Obj} {kvs : List (Key × V)} : Walk (Itek d o kvs) kvs.length (fun H => H d = some (.frz o (.dK kvs))) (fun i H x H' => ∃ T k v, kvs[i]? = some (k, v) ∧ x = .ref T ∧ H T = none ∧ H' = upd H T (.tup [.int (i : Nat), kV k])) :=
  ⟨fun i _ hi q => ⟨q, hi⟩, fun _ q => ⟨q, Nat.le_refl _⟩, fun _ _ _ _ _ _ y => y⟩
theorem get_dk {α : Type} {R : V → α → Prop} {H : Hp} {a : Addr} {kvs : List (Key × V)} {ms : List (Nat × α)} {n : Nat} {x : α} (h : Rd H a (.dK kvs)) (r : DkR R kvs ms) (nd : (ms.map (·.1)).Nodup) (m : (n, x) ∈ ms) :
    ∃ v, DGet H a (.int (n : Nat)) (some v) ∧ R v x := by
  obtain ⟨v, e, hv⟩ := r.val nd m
  exact ⟨v, .inl ⟨kvs, .inl (n : Int), h, rfl, e.symm⟩, hv⟩
end Lc
end

section
/-! (a, b, ..) = a list of that length. -/
namespace Lc
open PySem L2 PyProof.Rows PySem.Spec
theorem r_glst {K : PySem.W.Frag} {n : Nat} {t : TGs} {σ : L2.St} {H : Hp} {N : L2.St → Hp → Prop} {p : Addr} {xs : List V} (h : H p = some (.lst xs)) (l : xs.length = n) (q : t xs σ H N) : gLst K n t (.ref p) σ H N := ⟨p, xs, rfl, SqL.of h, l, q⟩
end Lc
end

section
/-! The nodes of holes; rows of numbers and orders. -/
namespace Lc
open PySem L2 PyProof.Rows PySem.Spec
variable [Lc.Tbs]
mutual
/-- the nodes whose heads are holes, in the order of reading -/
def metN : D → List D
  | .tup [.int n, h, .tup ps] => (if (holeN h).isSome = true then [.tup [.int n, h, .tup ps]] else []) ++ metNs ps
  | _ => []
def metNs : List D → List D
  | [] => []
  | p :: ps => metN p ++ metNs ps
end
theorem metN_h (n : Int) (k : Nat) (ps : List D) : metN (.tup [.int n, hd2 "h" k, .tup ps]) = .tup [.int n, hd2 "h" k, .tup ps] :: metNs ps := by
  rw [metN, holeN_h]
  rfl
theorem metN_n {n : Int} {x : D} {ps : List D} (h : NotH x) : metN (.tup [.int n, x, .tup ps]) = metNs ps := by
  rw [metN, h.none]
  rfl
theorem metNs_app : ∀ (a b : List D), metNs (a ++ b) = metNs a ++ metNs b
  | [], b => by rw [metNs]; rfl
  | x :: a, b => by rw [List.cons_append, metNs, metNs, metNs_app a b, List.append_assoc]
mutual
theorem metN_met : ∀ (d : D), Nd d → (metN d).map nodeM = (met d).map some
  | .tup xs, h => by
    obtain ⟨n, y, ps, e, q1, q2⟩ := h.inv
    injection e with e
    subst e
    have ih := metNs_mets ps q2
    rcases q1 with ⟨k, rfl⟩ | nh
    · rw [metN_h, met_h, List.map_cons, List.map_cons, ih, nodeM_h]
    · rw [metN_n nh, met_n nh, ih]
  | .non, h => by simp [Nd] at h
  | .bl _, h => by simp [Nd] at h
  | .int _, h => by simp [Nd] at h
  | .str _, h => by simp [Nd] at h
theorem metNs_mets : ∀ (ds : List D), Nds ds → (metNs ds).map nodeM = (mets ds).map some
  | [], h => by rw [metNs, mets]; rfl
  | d :: ds, h => by
    rw [Nds] at h
    rw [metNs, mets, List.map_append, List.map_append, metN_met d h.1, metNs_mets ds h.2]
end
theorem metN_len {d : D} (h : Nd d) : (metN d).length = (met d).length := by
  have := congrArg List.length (metN_met d h)
  rw [List.length_map, List.length_map] at this
  exact this
theorem met_len {d : D} (h : Nd d) : (met d).length ≤ d.sz := by
  rw [met_preo d 0 (nd_F d h)]
  exact Nat.le_trans (List.length_filterMap_le _ _) (preo_len 0 d)
mutual
theorem metN_nd : ∀ (d : D), Nd d → ∀ x ∈ metN d, ∃ n k ps, x = .tup [.int n, hd2 "h" (k : Nat), .tup ps]
  | .tup xs, h, x, hx => by
    obtain ⟨n, y, ps, e, q1, q2⟩ := h.inv
    injection e with e
    subst e
    rcases q1 with ⟨k, rfl⟩ | nh
    · rw [metN_h] at hx
      rcases List.mem_cons.mp hx with rfl | hx
      · exact ⟨n, k, ps, rfl⟩
      · exact metNs_nd ps q2 x hx
    · rw [metN_n nh] at hx
      exact metNs_nd ps q2 x hx
  | .non, h, _, _ => by simp [Nd] at h
  | .bl _, h, _, _ => by simp [Nd] at h
  | .int _, h, _, _ => by simp [Nd] at h
  | .str _, h, _, _ => by simp [Nd] at h
theorem metNs_nd : ∀ (ds : List D), Nds ds → ∀ x ∈ metNs ds, ∃ n k ps, x = .tup [.int n, hd2 "h" (k : Nat), .tup ps]
  | [], _, x, hx => by rw [metNs] at hx; cases hx
  | d :: ds, h, x, hx => by
    rw [Nds] at h
    rw [metNs] at hx
    rcases List.mem_append.mp hx with hx | hx
    · exact metN_nd d h.1 x hx
    · exact metNs_nd ds h.2 x hx
end
theorem metN_at {d : D} (h : Nd d) {j : Nat} {x : D} (e : (metN d)[j]? = some x) : ∃ n k ps, x = .tup [.int n, hd2 "h" (k : Nat), .tup ps] ∧ (met d)[j]? = some (k, ps) := by
  obtain ⟨n, k, ps, rfl⟩ := metN_nd d h x (List.mem_of_getElem? e)
  refine ⟨n, k, ps, rfl, ?_⟩
  have q := congrArg (fun l => l[j]?) (metN_met d h)
  simp only [List.getElem?_map, e, Option.map_some] at q
  rw [nodeM_h] at q
  cases z : (met d)[j]? with
  | none => rw [z] at q; cases q
  | some m =>
    rw [z] at q
    cases q
    rfl
mutual
theorem pt_long {hs : List Ty} : ∀ (t : Ty) (i : Int), Pt hs (longD "b" i t)
  | .mk as s, i => by
    have e : raiseH "b" i as.length = hd2 "b" (i + as.length) := by
      unfold raiseH
      rw [if_pos rfl]
    rw [longD, e]
    exact pt_node (.inl ⟨_, rfl⟩) (pt_longs as as.length 0)
theorem pt_longs {hs : List Ty} : ∀ (ts : List Ty) (n j : Nat), Pts hs (longs n j ts)
  | [], _, _ => by rw [longs, Pts]; trivial
  | t :: ts, n, j => by rw [longs, Pts]; exact ⟨pt_long t _, pt_longs ts n (j + 1)⟩
end
theorem pt_lg {hs : List Ty} : ∀ (is : List Int) (ts : List Ty), Pts hs (lgPs is ts)
  | [], _ => by rw [show lgPs [] _ = [] from rfl, Pts]; trivial
  | _ :: _, [] => by rw [show lgPs (_ :: _) [] = [] from rfl, Pts]; trivial
  | i :: is, t :: ts => by
    rw [show lgPs (i :: is) (t :: ts) = longD "b" i t :: lgPs is ts from rfl, Pts]
    exact ⟨pt_long t i, pt_lg is ts⟩
theorem Nds.take {ds : List D} (h : Nds ds) : ∀ i, Nds (ds.take i) := by
  induction ds with
  | nil => intro i; rw [List.take_nil]; exact h
  | cons d ds ih =>
    intro i
    rw [Nds] at h
    cases i with
    | zero => rw [List.take_zero, Nds]; trivial
    | succ i => rw [List.take_succ_cons, Nds]; exact ⟨h.1, ih h.2 i⟩
theorem metNs_len {ds : List D} (h : Nds ds) : (metNs ds).length ≤ szs ds := by
  have q := congrArg List.length (metNs_mets ds h)
  rw [List.length_map, List.length_map] at q
  rw [q]
  exact mets_len (nds_F ds h)
theorem szs_take {ds : List D} {i : Nat} {d : D} (h : ds[i]? = some d) : szs (ds.take i) + d.sz ≤ szs ds := by
  have lt := (List.getElem?_eq_some_iff.mp h).1
  have e : ds = ds.take i ++ ds.drop i := (List.take_append_drop i ds).symm
  have e2 : szs ds = szs (ds.take i) + szs (ds.drop i) := by
    rw [← szs_app, List.take_append_drop]
  have e3 : ds.drop i = d :: ds.drop (i + 1) := by
    rw [List.drop_eq_getElem_cons lt, (List.getElem?_eq_some_iff.mp h).2]
  rw [e2, e3, szs]
  omega
theorem mem_mets : ∀ {ds : List D} {d : D} {m : Mt}, d ∈ ds → m ∈ met d → m ∈ mets ds
  | e :: ds, d, m, hd, hm => by
    rw [mets]
    rcases List.mem_cons.mp hd with rfl | hd
    · exact List.mem_append_left _ hm
    · exact List.mem_append_right _ (mem_mets hd hm)
theorem met_lg_mem {is : List Int} {ts : List Ty} {d : D} (h : d ∈ lgPs is ts) : met d = [] := by
  unfold lgPs at h
  obtain ⟨p, _, rfl⟩ := List.mem_map.mp h
  exact met_long _ _
/-- rows of numbers and orders -/
def rwO (o : Ods) : List (Nat × (Nat × List Nat)) := o.zipIdx.map fun x => (x.1.1, (x.2, x.1.2))
theorem rwO_keys (o : Ods) : (rwO o).map (·.1) = o.map (·.1) := by
  unfold rwO
  rw [List.map_map]
  have e : ((fun x : Nat × (Nat × List Nat) => x.1) ∘ fun x : (Nat × List Nat) × Nat => (x.1.1, (x.2, x.1.2))) = (fun y : Nat × List Nat => y.1) ∘ Prod.fst := rfl
  rw [e, ← List.map_map]
  congr 1
  exact List.zipIdx_map_fst ..
theorem rwO_snoc (o : Ods) (x : Nat × List Nat) : rwO (o ++ [x]) = rwO o ++ [(x.1, (o.length, x.2))] := by
  unfold rwO
  rw [List.zipIdx_append, List.map_append]
  show _ ++ [(x.1, (0 + o.length, x.2))] = _
  rw [Nat.zero_add]
theorem rwO_mem {o : Ods} {k : Nat} (h : k ∈ o.map (·.1)) : (k, rhoO o k) ∈ rwO o := by
  have lt : List.idxOf k (o.map (·.1)) < (o.map (·.1)).length := List.idxOf_lt_length_iff.mpr h
  have lt2 : rkO o k < o.length := by
    have := lt
    rw [List.length_map] at this
    exact this
  have e : (o.map (·.1))[rkO o k]? = some k := by
    show (o.map (·.1))[List.idxOf k (o.map (·.1))]? = some k
    rw [List.getElem?_eq_getElem lt, List.getElem_idxOf]
  rw [List.getElem?_map, List.getElem?_eq_getElem lt2] at e
  have e2 : (o[rkO o k]).1 = k := Option.some.inj e
  unfold rwO
  refine List.mem_map.mpr ⟨(o[rkO o k], rkO o k), ?_, ?_⟩
  · rw [List.mem_zipIdx_iff_getElem?]
    exact List.getElem?_eq_getElem lt2
  · show ((o[rkO o k]).1, (rkO o k, (o[rkO o k]).2)) = (k, rhoO o k)
    unfold rhoO odO
    rw [List.getElem?_eq_getElem lt2, e2]
    rfl
theorem OdsOk.snoc {hs : List Ty} {M : List Mt} {o : Ods} (h : OdsOk hs M o) {m : Mt} {x : Nat × List Nat} (q : OdOk hs m x) : OdsOk hs (M ++ [m]) (o ++ [x]) := by
  refine ⟨by rw [List.length_append, List.length_append, h.len]; rfl, fun j m' x' hj hx => ?_⟩
  rcases Nat.lt_or_ge j o.length with l | ge
  · rw [List.getElem?_append_left l] at hx
    rw [List.getElem?_append_left (by rw [← h.len]; exact l)] at hj
    exact h.at_ j m' x' hj hx
  · have j1 := (List.getElem?_eq_some_iff.mp hx).1
    rw [List.length_append, List.length_singleton] at j1
    have ej : j = o.length := by omega
    rw [List.getElem?_append_right ge] at hx
    rw [List.getElem?_append_right (by rw [← h.len]; exact ge)] at hj
    rw [ej, Nat.sub_self] at hx
    rw [← h.len, ej, Nat.sub_self] at hj
    cases hx
    cases hj
    exact q
theorem kindsO_app (hs : List Ty) (o : Ods) (x : Nat × List Nat) : kindsO hs (o ++ [x]) = kindsO hs o ++ [.mk (pick (tyAt hs x.1).as x.2) (tyAt hs x.1).s] := by
  unfold kindsO
  rw [List.map_append]
  rfl
theorem pick_snoc {α : Type} {ds : List α} {f : List Nat} {i j : Nat} {x : α} (h : f[i]? = some j) (e : ds[j]? = some x) : pick ds (f.take (i + 1)) = pick ds (f.take i) ++ [x] := by
  rw [take_one h]
  unfold pick
  rw [List.filterMap_append]
  congr 1
  show List.filterMap _ [j] = _
  rw [List.filterMap_cons, e]
  rfl
end Lc
end

section
/-! Binders renamed. -/
namespace Lc
open PySem L2 PyProof.Rows PySem.Spec
variable [Lc.Tbs]
/-- a head whose binders from without are renamed; inner: how many are from within -/
def renH (ρ : Int → Int) (inner : Int) : D → D
  | .tup [.str s, .int i] => if s = "b" ∧ inner ≤ i then hb (ρ (i - inner) + inner) else hd2 s i
  | h => h
mutual
def renD (ρ : Int → Int) (o : Int) : D → D
  | .tup [.int n, h, .tup ps] => .tup [.int n, renH ρ (o + n) h, .tup (rens ρ (o + n) ps)]
  | .tup xs => .tup xs
  | .non => .non
  | .bl b => .bl b
  | .int i => .int i
  | .str x => .str x
def rens (ρ : Int → Int) (o : Int) : List D → List D
  | [] => []
  | p :: ps => renD ρ o p :: rens ρ o ps
end
theorem renD_eq (ρ : Int → Int) (o n : Int) (h : D) (ps : List D) : renD ρ o (.tup [.int n, h, .tup ps]) = .tup [.int n, renH ρ (o + n) h, .tup (rens ρ (o + n) ps)] := by rw [renD]
theorem rens_map (ρ : Int → Int) (o : Int) : ∀ ps : List D, rens ρ o ps = ps.map (renD ρ o)
  | [] => by rw [rens]; rfl
  | p :: ps => by rw [rens, rens_map ρ o ps, List.map_cons]
theorem rens_len (ρ : Int → Int) (o : Int) (ps : List D) : (rens ρ o ps).length = ps.length := by rw [rens_map, List.length_map]
theorem renH_b (ρ : Int → Int) (inner i : Int) : renH ρ inner (hb i) = if inner ≤ i then hb (ρ (i - inner) + inner) else hb i := by
  show (if ("b" : Str) = "b" ∧ inner ≤ i then hb (ρ (i - inner) + inner) else hd2 "b" i) = _
  by_cases c : inner ≤ i
  · rw [if_pos ⟨rfl, c⟩, if_pos c]
  · rw [if_neg (fun z => c z.2), if_neg c]
theorem renH_h (ρ : Int → Int) (inner i : Int) : renH ρ inner (hd2 "h" i) = hd2 "h" i := by
  show (if ("h" : Str) = "b" ∧ inner ≤ i then hb (ρ (i - inner) + inner) else hd2 "h" i) = _
  rw [if_neg (fun z => absurd z.1 (by decide))]
theorem renH_c (ρ : Int → Int) (inner : Int) (x : Str) : renH ρ inner (.tup [.str "c", .str x]) = .tup [.str "c", .str x] := rfl
theorem renH_G {ρ : Int → Int} {inner : Int} {h : D} (g : hdG h = true) : hdG (renH ρ inner h) = true ∧ (renH ρ inner h).sz = h.sz ∧ (renH ρ inner h).dp = h.dp := by
  rcases hdG_of g with ⟨s, i, rfl, rfl | rfl⟩ | ⟨x, rfl⟩
  · rw [renH_b]
    split <;> exact ⟨rfl, rfl, rfl⟩
  · rw [renH_h]
    exact ⟨g, rfl, rfl⟩
  · exact ⟨g, rfl, rfl⟩
mutual
theorem ren_G {ρ : Int → Int} : ∀ (o : Int) (d : D), tmG d = true → tmG (renD ρ o d) = true ∧ (renD ρ o d).sz = d.sz ∧ (renD ρ o d).dp = d.dp
  | o, .tup xs, h => by
    obtain ⟨n, x, ps, e, gx, gp⟩ := tmG_of h
    injection e with e
    subst e
    obtain ⟨q1, q2, q3⟩ := rens_G (ρ := ρ) (o + n) ps gp
    obtain ⟨g1, g2, g3⟩ := renH_G (ρ := ρ) (inner := o + n) gx
    rw [renD_eq]
    refine ⟨by rw [tmG_eq, g1, q1]; rfl, ?_, ?_⟩
    · show 1 + (1 + ((renH ρ (o + n) x).sz + ((1 + szs (rens ρ (o + n) ps)) + 0))) = 1 + (1 + (x.sz + ((1 + szs ps) + 0)))
      rw [g2, q2]
    · show 1 + max 1 (max (renH ρ (o + n) x).dp (max (1 + dps (rens ρ (o + n) ps)) 0)) = 1 + max 1 (max x.dp (max (1 + dps ps) 0))
      rw [g3, q3]
  | _, .non, h => by simp [tmG] at h
  | _, .bl _, h => by simp [tmG] at h
  | _, .int _, h => by simp [tmG] at h
  | _, .str _, h => by simp [tmG] at h
theorem rens_G {ρ : Int → Int} : ∀ (o : Int) (ps : List D), tmGs ps = true → tmGs (rens ρ o ps) = true ∧ szs (rens ρ o ps) = szs ps ∧ dps (rens ρ o ps) = dps ps
  | _, [], _ => by rw [rens]; exact ⟨by rw [tmGs], rfl, rfl⟩
  | o, p :: ps, h => by
    rw [tmGs, Bool.and_eq_true] at h
    obtain ⟨a1, a2, a3⟩ := ren_G (ρ := ρ) o p h.1
    obtain ⟨b1, b2, b3⟩ := rens_G (ρ := ρ) o ps h.2
    rw [rens, tmGs, szs, szs, dps, dps, a1, a2, a3, b1, b2, b3]
    exact ⟨rfl, rfl, rfl⟩
end
theorem renH_Wd {W : Nat} (hW : 3 ≤ W) {ρ : Int → Int} {inner : Int} {h : D} (g : hdG h = true) (w : Wd Tx W h) : Wd Tx W (renH ρ inner h) := by
  rcases hdG_of g with ⟨s, i, rfl, rfl | rfl⟩ | ⟨x, rfl⟩
  · rw [renH_b]
    split <;> exact ⟨by show 2 ≤ W; omega, (by decide +kernel : Tx "b"), trivial, trivial⟩
  · rw [renH_h]
    exact w
  · exact w
mutual
theorem ren_Wd {W : Nat} (hW : 3 ≤ W) {ρ : Int → Int} : ∀ (o : Int) (d : D), tmG d = true → Wd Tx W d → Wd Tx W (renD ρ o d)
  | o, .tup xs, h, w => by
    obtain ⟨n, x, ps, e, gx, gp⟩ := tmG_of h
    injection e with e
    subst e
    rw [renD_eq]
    exact ⟨hW, trivial, renH_Wd hW gx w.2.2.1, ⟨by rw [rens_len]; exact w.2.2.2.1.1, rens_Wd hW (o + n) ps gp w.2.2.2.1.2⟩, trivial⟩
  | _, .non, h, _ => by simp [tmG] at h
  | _, .bl _, h, _ => by simp [tmG] at h
  | _, .int _, h, _ => by simp [tmG] at h
  | _, .str _, h, _ => by simp [tmG] at h
theorem rens_Wd {W : Nat} (hW : 3 ≤ W) {ρ : Int → Int} : ∀ (o : Int) (ps : List D), tmGs ps = true → Wds Tx W ps → Wds Tx W (rens ρ o ps)
  | _, [], _, _ => by rw [rens]; trivial
  | o, p :: ps, h, w => by
    rw [tmGs, Bool.and_eq_true] at h
    rw [rens]
    exact ⟨ren_Wd hW o p h.1 w.1, rens_Wd hW o ps h.2 w.2⟩
end
/-- the renaming leads from binders to binders of the same types -/
def Rn (own1 own2 : List Ty) (ρ : Int → Int) : Prop := ∀ x : Nat, x < own1.length → 0 ≤ ρ x ∧ ρ x < own2.length ∧ own2[own2.length - 1 - (ρ x).toNat]? = own1[own1.length - 1 - x]?
theorem ren_hd {sg : Sg} {hs own1 own2 loc : List Ty} {ρ : Int → Int} {h : D} {t : Ty} (r : Rn own1 own2 ρ) (e : hdB sg hs (own1 ++ loc) h = some t) : hdB sg hs (own2 ++ loc) (renH ρ loc.length h) = some t := by
  rcases hdG_of (hdB_G e) with ⟨s, i, rfl, rfl | rfl⟩ | ⟨x, rfl⟩
  · obtain ⟨i0, il⟩ := hdB_b_inv e
    rw [hdB_bI i0 il] at e
    rw [List.length_append] at il e
    rw [renH_b]
    by_cases c : (loc.length : Int) ≤ i
    · rw [if_pos c]
      have lx : (i - loc.length).toNat < own1.length := by omega
      obtain ⟨r1, r2, r3⟩ := r _ lx
      have ex : (((i - loc.length).toNat : Nat) : Int) = i - loc.length := by omega
      rw [ex] at r1 r2 r3
      generalize ρ (i - loc.length) = y at r1 r2 r3
      rw [hdB_bI (by omega) (by rw [List.length_append]; omega)]
      have j1 : (own2 ++ loc).length - 1 - (y + loc.length).toNat = own2.length - 1 - y.toNat := by
        rw [List.length_append]
        omega
      rw [j1, List.getElem?_append_left (by omega), r3]
      rw [List.getElem?_append_left (by omega)] at e
      rw [← e]
      congr 1
      omega
    · rw [if_neg c, hdB_bI i0 (by rw [List.length_append]; omega)]
      rw [List.getElem?_append_right (by omega)] at e
      rw [List.getElem?_append_right (by rw [List.length_append]; omega), ← e]
      congr 1
      rw [List.length_append]
      omega
  · rw [renH_h, ← e]
    exact hdB_h_own
  · show hdB sg hs (own2 ++ loc) (.tup [.str "c", .str x]) = _
    rw [← e]
    exact hdB_c_own
mutual
theorem tm_ren {sg : Sg} {hs own1 own2 : List Ty} {ρ : Int → Int} (r : Rn own1 own2 ρ) : ∀ (loc : List Ty) (k : Ty) (d : D), tmB sg hs (own1 ++ loc) k d = true → tmB sg hs (own2 ++ loc) k (renD ρ loc.length d) = true
  | loc, k, .tup xs, h => by
    obtain ⟨x, ps, t, e, h1, h2, h3, h4⟩ := tmB_inv h
    injection e with e
    subst e
    rw [List.append_assoc] at h1 h4
    have q1 := ren_hd r h1
    rw [renD_eq]
    have eo : ((loc.length : Int) + (k.as.length : Nat)) = ((loc ++ k.as).length : Nat) := by
      rw [List.length_append]
      omega
    rw [eo]
    refine tmB_mk (t := t) (by rw [List.append_assoc]; exact q1) h2 (by rw [rens_len]; exact h3) ?_
    rw [List.append_assoc own2]
    exact tms_ren r (loc ++ k.as) t.as ps h4
  | _, _, .non, h => by simp [tmB] at h
  | _, _, .bl _, h => by simp [tmB] at h
  | _, _, .int _, h => by simp [tmB] at h
  | _, _, .str _, h => by simp [tmB] at h
theorem tms_ren {sg : Sg} {hs own1 own2 : List Ty} {ρ : Int → Int} (r : Rn own1 own2 ρ) : ∀ (loc : List Ty) (ts : List Ty) (ps : List D), tmsB sg hs (own1 ++ loc) ts ps = true → tmsB sg hs (own2 ++ loc) ts (rens ρ loc.length ps) = true
  | _, ts, [], h => by
    rw [rens]
    cases ts with
    | nil => rw [tmsB]; rfl
    | cons t ts => simp [tmsB] at h
  | loc, ts, p :: ps, h => by
    cases ts with
    | nil => simp [tmsB] at h
    | cons t ts =>
      rw [tmsB] at h
      have h' : (tmB sg hs (own1 ++ loc) t p && tmsB sg hs (own1 ++ loc) ts ps) = true := h
      rw [Bool.and_eq_true] at h'
      rw [rens, tmsB]
      show (tmB sg hs (own2 ++ loc) t _ && tmsB sg hs (own2 ++ loc) ts _) = true
      rw [tm_ren r loc t p h'.1, tms_ren r loc ts ps h'.2]
      rfl
end
/-- renaming behind a lifting that it takes back -/
theorem ren_liftH {ρ : Int → Int} {a inner : Int} (ha : 0 ≤ a) (h1 : ∀ x, 0 ≤ x → x < a → ρ x = x) (h2 : ∀ x, a ≤ x → ρ (x + a) = x) {h : D} (g : hdG h = true) : renH ρ inner (liftH a (a + inner) h) = h := by
  rcases hdG_of g with ⟨s, i, rfl, rfl | rfl⟩ | ⟨x, rfl⟩
  · have e : liftH a (a + inner) (hb i) = if a + inner ≤ i then hb (i + a) else hb i := by
      show (if ("b" : Str) = "b" ∧ a + inner ≤ i then hb (i + a) else hd2 "b" i) = _
      by_cases c : a + inner ≤ i
      · rw [if_pos ⟨rfl, c⟩, if_pos c]
      · rw [if_neg (fun z => c z.2), if_neg c]
    rw [show hd2 "b" i = hb i from rfl, e]
    by_cases c : a + inner ≤ i
    · rw [if_pos c, renH_b, if_pos (by omega), show i + a - inner = (i - inner) + a by omega, h2 _ (by omega)]
      congr 1
      congr 1
      rw [Int.sub_add_cancel]
    · rw [if_neg c, renH_b]
      by_cases c2 : inner ≤ i
      · rw [if_pos c2, h1 _ (by omega) (by omega), Int.sub_add_cancel]
      · rw [if_neg c2]
  · have e : liftH a (a + inner) (hd2 "h" i) = hd2 "h" i := by
      show (if ("h" : Str) = "b" ∧ a + inner ≤ i then hb (i + a) else hd2 "h" i) = _
      rw [if_neg (fun z => absurd z.1 (by decide))]
    rw [e, renH_h]
  · rfl
mutual
theorem ren_lift {ρ : Int → Int} {a : Int} (ha : 0 ≤ a) (h1 : ∀ x, 0 ≤ x → x < a → ρ x = x) (h2 : ∀ x, a ≤ x → ρ (x + a) = x) : ∀ (o : Int) (d : D), tmG d = true → renD ρ o (liftD a (a + o) d) = d
  | o, .tup xs, h => by
    obtain ⟨n, x, ps, e, gx, gp⟩ := tmG_of h
    injection e with e
    subst e
    rw [liftD_eq, renD_eq, Int.add_assoc, ren_liftH ha h1 h2 gx, rens_lift ha h1 h2 (o + n) ps gp]
  | _, .non, h => by simp [tmG] at h
  | _, .bl _, h => by simp [tmG] at h
  | _, .int _, h => by simp [tmG] at h
  | _, .str _, h => by simp [tmG] at h
theorem rens_lift {ρ : Int → Int} {a : Int} (ha : 0 ≤ a) (h1 : ∀ x, 0 ≤ x → x < a → ρ x = x) (h2 : ∀ x, a ≤ x → ρ (x + a) = x) : ∀ (o : Int) (ps : List D), tmGs ps = true → rens ρ o (lifts a (a + o) ps) = ps
  | _, [], _ => by rw [lifts, rens]
  | o, p :: ps, h => by
    rw [tmGs, Bool.and_eq_true] at h
    rw [lifts, rens, ren_lift ha h1 h2 o p h.1, rens_lift ha h1 h2 o ps h.2]
end
/-- a long form lifted -/
theorem liftH_b (k inner i : Int) : liftH k inner (hb i) = if inner ≤ i then hb (i + k) else hb i := by
  show (if ("b" : Str) = "b" ∧ inner ≤ i then hb (i + k) else hd2 "b" i) = _
  by_cases c : inner ≤ i
  · rw [if_pos ⟨rfl, c⟩, if_pos c]
  · rw [if_neg (fun z => c z.2), if_neg c]
theorem raise_b (i n : Int) : raiseH "b" i n = hb (i + n) := by
  unfold raiseH
  rw [if_pos rfl]
mutual
theorem lift_long_in {k : Int} : ∀ (t : Ty) (o i : Int), i < o → 0 ≤ o → liftD k o (longD "b" i t) = longD "b" i t
  | .mk as s, o, i, h, h0 => by
    rw [longD, liftD_eq, raise_b, liftH_b, if_neg (by omega), lift_longs_in as as.length 0 (o + as.length) (by omega) (by omega)]
theorem lift_longs_in {k : Int} : ∀ (ts : List Ty) (n j : Nat) (o : Int), (n : Int) - 1 - j < o → 0 ≤ o → lifts k o (longs n j ts) = longs n j ts
  | [], _, _, _, _, _ => by rw [longs, lifts]
  | t :: ts, n, j, o, h, h0 => by
    rw [longs, lifts, lift_long_in t o _ h h0, lift_longs_in ts n (j + 1) o (by omega) h0]
end
theorem lift_long {k o i : Int} (h : o ≤ i) (t : Ty) (ho : 0 ≤ o) : liftD k o (longD "b" i t) = longD "b" (i + k) t := by
  rw [longD_eq, longD_eq, liftD_eq, raise_b, raise_b, liftH_b, if_pos (by omega), lift_longs_in t.as t.as.length 0 (o + t.as.length) (by omega) (by omega)]
  congr 4
  omega
/-! ### no binder from without but the first ones -/
def clH (inner : Int) : D → Bool
  | .tup [.str s, .int i] => !decide (s = "b") || decide (i < inner)
  | _ => true
mutual
def clD (o : Int) : D → Bool
  | .tup [.int n, h, .tup ps] => hdG h && clH (o + n) h && cls (o + n) ps
  | _ => false
def cls (o : Int) : List D → Bool
  | [] => true
  | p :: ps => clD o p && cls o ps
end
mutual
theorem cl_long : ∀ (t : Ty) (o i : Int), i < o → 0 ≤ o → clD o (longD "b" i t) = true
  | .mk as s, o, i, h, h0 => by
    rw [longD, raise_b, clD, cl_longs as as.length 0 (o + as.length) (by omega) (by omega)]
    have e : clH (o + (as.length : Nat)) (hb (i + (as.length : Nat))) = true := by
      show (!decide (("b" : Str) = "b") || decide (i + (as.length : Nat) < o + (as.length : Nat))) = true
      rw [decide_eq_true (show i + (as.length : Nat) < o + (as.length : Nat) by omega), Bool.or_true]
    rw [e]
    rfl
theorem cl_longs : ∀ (ts : List Ty) (n j : Nat) (o : Int), (n : Int) - 1 - j < o → 0 ≤ o → cls o (longs n j ts) = true
  | [], _, _, _, _, _ => by rw [longs, cls]
  | t :: ts, n, j, o, h, h0 => by
    rw [longs, cls, cl_long t o _ h h0, cl_longs ts n (j + 1) o (by omega) h0]
    rfl
end
end Lc
end

section
/-! Terms put in for binders; where long forms of binders are put in, binders are renamed. -/
namespace Lc
open PySem L2 PyProof.Rows PySem.Spec
variable [Lc.Tbs]
def allO (f : D → Option D) : List D → Option (List D)
  | [] => some []
  | d :: ds => match f d with
    | none => none
    | some e => match allO f ds with
      | none => none
      | some es => some (e :: es)
theorem allO_of {f : D → Option D} : ∀ {ds es : List D}, ds.length = es.length → (∀ (i : Nat) (d e : D), ds[i]? = some d → es[i]? = some e → f d = some e) → allO f ds = some es
  | [], [], _, _ => rfl
  | [], _ :: _, l, _ => by cases l
  | _ :: _, [], l, _ => by cases l
  | d :: ds, e :: es, l, h => by
    have h0 := h 0 d e rfl rfl
    have ih := allO_of (ds := ds) (es := es) (Nat.succ.inj l) fun i d' e' h1 h2 => h (i + 1) d' e' (by simpa using h1) (by simpa using h2)
    rw [allO, h0, ih]
theorem allO_at {f : D → Option D} : ∀ {ds es : List D}, allO f ds = some es → ds.length = es.length ∧ ∀ (i : Nat) (d : D), ds[i]? = some d → ∃ e, es[i]? = some e ∧ f d = some e
  | [], es, h => by
    cases h
    exact ⟨rfl, fun i d e => by simp at e⟩
  | d :: ds, es, h => by
    rw [allO] at h
    split at h
    · cases h
    · next e he =>
      split at h
      · cases h
      · next es' hes =>
        cases h
        obtain ⟨l, a⟩ := allO_at hes
        refine ⟨by rw [List.length_cons, List.length_cons, l], fun i d' hd => ?_⟩
        cases i with
        | zero =>
          cases hd
          exact ⟨e, rfl, he⟩
        | succ i => exact a i d' (by simpa using hd)
theorem allO_mono {f g : D → Option D} (m : ∀ d e, f d = some e → g d = some e) {ds es : List D} (h : allO f ds = some es) : allO g ds = some es := by
  obtain ⟨l, a⟩ := allO_at h
  refine allO_of l fun i d e h1 h2 => ?_
  obtain ⟨e', h3, h4⟩ := a i d h1
  rw [h2] at h3
  cases h3
  exact m d e h4
def okT (t : D) : Bool := tmG t && decide (t.dp < 40) && decide (t.sz ≤ 1000000)
def fewB (ps : List D) : Bool := decide (ps.length ≤ 1000000)
def wrapW (f : Int → D → List D → Option (D × List D)) (o : Int) : D → Option D
  | .tup [.int m, h, .tup ps] => match f (o + m) h ps with
    | none => none
    | some r => some (.tup [.int m, r.1, .tup r.2])
  | _ => none
def unW (f : D → List D → Option (D × List D)) : D → Option (D × List D)
  | .tup [.int _, h, .tup ps] => f h ps
  | _ => none
def headW (ts : List D) (o : Int) (done : List D) (f : D → Option (D × List D)) : D → Option (D × List D)
  | .tup [.str s, .int i] => if s = "b" ∧ o ≤ i then
      (if (ts.length : Int) ≤ i - o then some (hb (i - ts.length), done) else
        match ts[ts.length - 1 - (i - o).toNat]? with
        | none => none
        | some t => if okT t = true then f (liftD o 0 t) else none)
      else some (hd2 s i, done)
  | h => some (h, done)
/-- the body h ps with the terms ts for the outermost binders, as it is reckoned; n bounds how deep -/
def subB : Nat → List D → Int → D → List D → Option (D × List D)
  | 0, _, _, _, _ => none
  | n + 1, ts, o, h, ps => if (hdG h && fewB ps) = true then
      (match allO (wrapW (subB n ts) o) ps with
        | none => none
        | some done => headW ts o done (unW (subB n done 0)) h)
    else none
theorem subB_eq {n : Nat} {ts : List D} {o : Int} {h : D} {ps done : List D} (g : hdG h = true) (few : ps.length ≤ 1000000) (a : allO (wrapW (subB n ts) o) ps = some done) : subB (n + 1) ts o h ps = headW ts o done (unW (subB n done 0)) h := by
  rw [subB, g, show fewB ps = true from decide_eq_true few, Bool.and_self, if_pos rfl, a]
theorem headW_c {ts : List D} {o : Int} {done : List D} {f : D → Option (D × List D)} {x : Str} : headW ts o done f (.tup [.str "c", .str x]) = some (.tup [.str "c", .str x], done) := rfl
theorem headW_h {ts : List D} {o : Int} {done : List D} {f : D → Option (D × List D)} {i : Int} : headW ts o done f (hd2 "h" i) = some (hd2 "h" i, done) := by
  show (if ("h" : Str) = "b" ∧ o ≤ i then (if (ts.length : Int) ≤ i - o then some (hb (i - ts.length), done) else
        match ts[ts.length - 1 - (i - o).toNat]? with
        | none => none
        | some t => if okT t = true then f (liftD o 0 t) else none) else some (hd2 "h" i, done)) = _
  rw [if_neg (fun z => absurd z.1 (by decide))]
theorem headW_in {ts : List D} {o : Int} {done : List D} {f : D → Option (D × List D)} {i : Int} (c : i < o) : headW ts o done f (hb i) = some (hb i, done) := by
  show (if ("b" : Str) = "b" ∧ o ≤ i then _ else some (hd2 "b" i, done)) = _
  rw [if_neg (fun z => absurd z.2 (by omega))]
theorem headW_low {ts : List D} {o : Int} {done : List D} {f : D → Option (D × List D)} {i : Int} (c : o ≤ i) (l : (ts.length : Int) ≤ i - o) : headW ts o done f (hb i) = some (hb (i - ts.length), done) := by
  show (if ("b" : Str) = "b" ∧ o ≤ i then (if (ts.length : Int) ≤ i - o then some (hb (i - ts.length), done) else _) else _) = _
  rw [if_pos ⟨rfl, c⟩, if_pos l]
theorem headW_put {ts : List D} {o : Int} {done : List D} {f : D → Option (D × List D)} {i : Int} {t : D} (c : o ≤ i) (l : ¬ (ts.length : Int) ≤ i - o) (e : ts[ts.length - 1 - (i - o).toNat]? = some t) (ok : okT t = true) : headW ts o done f (hb i) = f (liftD o 0 t) := by
  show (if ("b" : Str) = "b" ∧ o ≤ i then (if (ts.length : Int) ≤ i - o then some (hb (i - ts.length), done) else
        match ts[ts.length - 1 - (i - o).toNat]? with
        | none => none
        | some t => if okT t = true then f (liftD o 0 t) else none) else _) = _
  rw [if_pos ⟨rfl, c⟩, if_neg l, e]
  show (if okT t = true then f (liftD o 0 t) else none) = _
  rw [if_pos ok]
theorem wrapW_mono {f g : Int → D → List D → Option (D × List D)} (m : ∀ o h ps r, f o h ps = some r → g o h ps = some r) (o : Int) (d e : D) (h : wrapW f o d = some e) : wrapW g o d = some e := by
  unfold wrapW at h ⊢
  split at h
  · split at h
    · cases h
    · next r hr =>
      cases h
      show (match g _ _ _ with | none => none | some r => some (D.tup [.int _, r.1, .tup r.2])) = _
      rw [m _ _ _ _ hr]
  · cases h
theorem unW_mono {f g : D → List D → Option (D × List D)} (m : ∀ h ps r, f h ps = some r → g h ps = some r) (d : D) (r : D × List D) (h : unW f d = some r) : unW g d = some r := by
  unfold unW at h ⊢
  split at h
  · exact m _ _ _ h
  · cases h
theorem headW_mono {ts : List D} {o : Int} {done : List D} {f g : D → Option (D × List D)} (m : ∀ d r, f d = some r → g d = some r) {h : D} {r : D × List D} (e : headW ts o done f h = some r) : headW ts o done g h = some r := by
  unfold headW at e ⊢
  split at e
  · next s i =>
    show (if s = "b" ∧ o ≤ i then _ else _) = _
    split at e
    · next c =>
      rw [if_pos c]
      split at e
      · next c2 =>
        rw [if_pos c2]
        exact e
      · next c2 =>
        rw [if_neg c2]
        split at e
        · cases e
        · next t ht =>
          split at e
          · next ok =>
            show (if okT t = true then g (liftD o 0 t) else none) = _
            rw [if_pos ok]
            exact m _ _ e
          · cases e
    · next c =>
      rw [if_neg c]
      exact e
  · exact e
theorem sub_mono1 : ∀ (n : Nat) (ts : List D) (o : Int) (h : D) (ps : List D) (r : D × List D), subB n ts o h ps = some r → subB (n + 1) ts o h ps = some r
  | 0, _, _, _, _, _, e => by cases e
  | n + 1, ts, o, h, ps, r, e => by
    rw [subB] at e
    split at e
    · next c =>
      rw [Bool.and_eq_true] at c
      split at e
      · cases e
      · next done hd =>
        rw [subB_eq c.1 (of_decide_eq_true c.2) (allO_mono (wrapW_mono (sub_mono1 n ts) o) hd)]
        exact headW_mono (unW_mono (sub_mono1 n done 0)) e
    · cases e
theorem sub_mono {n : Nat} {ts : List D} {o : Int} {h : D} {ps : List D} {r : D × List D} (e : subB n ts o h ps = some r) : ∀ {m : Nat}, n ≤ m → subB m ts o h ps = some r := by
  intro m l
  obtain ⟨k, rfl⟩ := Nat.exists_eq_add_of_le l
  induction k with
  | zero => exact e
  | succ k ih => exact sub_mono1 _ _ _ _ _ _ (ih (Nat.le_add_right _ _))
theorem clD_inv {o : Int} {d : D} (h : clD o d = true) : ∃ n x ps, d = .tup [.int n, x, .tup ps] ∧ hdG x = true ∧ clH (o + n) x = true ∧ cls (o + n) ps = true := by
  unfold clD at h
  split at h
  · rw [Bool.and_eq_true, Bool.and_eq_true] at h
    exact ⟨_, _, _, rfl, h.1.1, h.1.2, h.2⟩
  · cases h
theorem cls_mem : ∀ {o : Int} {ps : List D}, cls o ps = true → ∀ p ∈ ps, clD o p = true
  | _, [], _, p, hp => nomatch hp
  | o, q :: ps, h, p, hp => by
    rw [cls, Bool.and_eq_true] at h
    rcases List.mem_cons.mp hp with rfl | hp
    · exact h.1
    · exact cls_mem h.2 p hp
theorem dp_node (n : Int) (x : D) (ps : List D) : (D.tup [.int n, x, .tup ps]).dp = 1 + max 1 (max x.dp (max (1 + dps ps) 0)) := rfl
theorem sz_node (n : Int) (x : D) (ps : List D) : (D.tup [.int n, x, .tup ps]).sz = 1 + (1 + (x.sz + ((1 + szs ps) + 0))) := rfl
theorem sub_clo : ∀ (n : Nat) (ts : List D) (o : Int) (h : D) (ps : List D), hdG h = true → clH o h = true → cls o ps = true → dps ps < n → szs ps ≤ 1000000 → subB n ts o h ps = some (h, ps) := by
  intro n
  induction n with
  | zero => exact fun _ _ _ _ _ _ _ l => absurd l (Nat.not_lt_zero _)
  | succ n ih =>
    intro ts o h ps g c cs l z
    have few : ps.length ≤ 1000000 := Nat.le_trans (szs_len ps) z
    have parts : allO (wrapW (subB n ts) o) ps = some ps := allO_of rfl fun i d e h1 h2 => by
      rw [h1] at h2
      cases h2
      have md := List.mem_of_getElem? h1
      obtain ⟨m, x, qs, rfl, gx, cx, cq⟩ := clD_inv (cls_mem cs d md)
      have b1 := dps_mem md
      have b2 := szs_mem md
      rw [dp_node] at b1
      rw [sz_node] at b2
      rw [wrapW, ih ts (o + m) x qs gx cx cq (by omega) (by omega)]
    rw [subB_eq g few parts]
    rcases hdG_of g with ⟨s, i, rfl, rfl | rfl⟩ | ⟨x, rfl⟩
    · refine headW_in ?_
      have c' : (!decide (("b" : Str) = "b") || decide (i < o)) = true := c
      rw [decide_eq_true rfl, Bool.not_true, Bool.false_or] at c'
      exact of_decide_eq_true c'
    · exact headW_h
    · exact headW_c
theorem allO_clo (n : Nat) (ts : List D) (o : Int) (ps : List D) (cs : cls o ps = true) (l : dps ps ≤ n) (z : szs ps ≤ 1000000) : allO (wrapW (subB n ts) o) ps = some ps := allO_of rfl fun i d e h1 h2 => by
  rw [h1] at h2
  cases h2
  have md := List.mem_of_getElem? h1
  obtain ⟨m, x, qs, rfl, gx, cx, cq⟩ := clD_inv (cls_mem cs d md)
  have b1 := dps_mem md
  have b2 := szs_mem md
  rw [dp_node] at b1
  rw [sz_node] at b2
  rw [wrapW, sub_clo n ts (o + m) x qs gx cx cq (by omega) (by omega)]
/-- the new numbers: binders from within for long forms, the others follow on -/
def rhoB (ns : List Int) (x : Int) : Int := if x < ns.length then ns.getD (ns.length - 1 - x.toNat) 0 else x - ns.length
structure TyB (t : Ty) : Prop where
  ok : t.Ok 3
  dp : t.d.dp ≤ 20
  sz : t.d.sz ≤ 100000
theorem ty_szm {t u : Ty} (h : u ∈ t.as) : u.d.sz < t.d.sz := by
  have m := szs_mem (ds := tyds t.as) (d := u.d) (by rw [tyds_map]; exact List.mem_map.mpr ⟨u, h, rfl⟩)
  rw [Ty.d_eq t]
  show u.d.sz < 1 + ((1 + szs (tyds t.as)) + (1 + 0))
  omega
theorem TyB.as {t u : Ty} (b : TyB t) (m : u ∈ t.as) : TyB u := by
  have l1 := ty_dp_mem m
  have l2 := ty_szm m
  exact ⟨(Ty.Ok.as b.ok).1.at m, by have := b.dp; omega, by have := b.sz; omega⟩
theorem tmsB_at {sg : Sg} {hs own : List Ty} : ∀ {ts : List Ty} {ps : List D}, tmsB sg hs own ts ps = true → ts.length = ps.length ∧ ∀ (i : Nat) (t : Ty) (p : D), ts[i]? = some t → ps[i]? = some p → tmB sg hs own t p = true
  | [], [], _ => ⟨rfl, fun i t p h => by simp at h⟩
  | [], p :: ps, h => by simp [tmsB] at h
  | t :: ts, [], h => by simp [tmsB] at h
  | t :: ts, p :: ps, h => by
    rw [tmsB] at h
    have h' : (tmB sg hs own t p && tmsB sg hs own ts ps) = true := h
    rw [Bool.and_eq_true] at h'
    obtain ⟨l, a⟩ := tmsB_at h'.2
    refine ⟨by rw [List.length_cons, List.length_cons, l], fun i u q h1 h2 => ?_⟩
    cases i with
    | zero =>
      cases h1
      cases h2
      exact h'.1
    | succ i => exact a i u q (by simpa using h1) (by simpa using h2)
def ownN (a : Nat) : List Int := (List.range a).map fun (j : Nat) => (a : Int) - 1 - j
theorem ownN_len (a : Nat) : (ownN a).length = a := by unfold ownN; rw [List.length_map, List.length_range]
theorem ownN_at {a j : Nat} (h : j < a) : (ownN a)[j]? = some ((a : Int) - 1 - j) := by
  unfold ownN
  rw [List.getElem?_map, List.getElem?_range h]
  rfl
theorem lg_own (ts : List Ty) : lgPs (ownN ts.length) ts = longs ts.length 0 ts := by
  apply List.ext_getElem?
  intro i
  rcases Nat.lt_or_ge i ts.length with l | l
  · rw [lgPs_at (ownN_at l) (List.getElem?_eq_getElem l), longs_at _ _ 0 _ _ (List.getElem?_eq_getElem l), Nat.zero_add]
  · rw [List.getElem?_eq_none (by rw [lgPs_len (ownN_len _)]; exact l), List.getElem?_eq_none (by rw [longs_len]; exact l)]
theorem rho_own1 {a : Nat} {x : Int} (h0 : 0 ≤ x) (h : x < a) : rhoB (ownN a) x = x := by
  unfold rhoB
  rw [ownN_len, if_pos h, List.getD_eq_getElem?_getD, ownN_at (by omega)]
  show (a : Int) - 1 - ((a - 1 - x.toNat : Nat) : Int) = x
  omega
theorem rho_own2 {a : Nat} {x : Int} (h : (a : Int) ≤ x) : rhoB (ownN a) x = x - a := by
  unfold rhoB
  rw [ownN_len, if_neg (by omega)]
theorem rn_own (G loc : List Ty) : Rn (G ++ loc ++ loc) (G ++ loc) (rhoB (ownN loc.length)) := fun x hx => by
  rw [List.length_append, List.length_append] at hx
  by_cases c : x < loc.length
  · rw [rho_own1 (by omega) (by omega)]
    refine ⟨by omega, by rw [List.length_append]; omega, ?_⟩
    rw [List.getElem?_append_right (by rw [List.length_append]; omega), List.getElem?_append_right (by rw [List.length_append, List.length_append, List.length_append]; omega)]
    congr 1
    rw [List.length_append, List.length_append, List.length_append]
    omega
  · rw [rho_own2 (by omega)]
    refine ⟨by omega, by rw [List.length_append]; omega, ?_⟩
    rw [List.getElem?_append_left (l₁ := G ++ loc) (l₂ := loc) (by simp only [List.length_append]; omega)]
    congr 1
    simp only [List.length_append]
    omega
mutual
theorem long_G : ∀ (t : Ty) (i : Int), tmG (longD "b" i t) = true
  | .mk as s, i => by
    rw [longD, raise_b, tmG_eq, longs_G as as.length 0]
    rfl
theorem longs_G : ∀ (ts : List Ty) (n j : Nat), tmGs (longs n j ts) = true
  | [], _, _ => by rw [longs, tmGs]
  | t :: ts, n, j => by
    rw [longs, tmGs, long_G t, longs_G ts]
    rfl
end
theorem ok_long {t : Ty} (b : TyB t) (i : Int) : okT (longD "b" i t) = true := by
  obtain ⟨w1, w2, w3⟩ := long_bd (Nat.le_refl 3) t "b" i (by decide +kernel) b.ok
  have g : tmG (longD "b" i t) = true := long_G t i
  unfold okT
  rw [g, decide_eq_true (show (longD "b" i t).dp < 40 by have := b.dp; omega), decide_eq_true (show (longD "b" i t).sz ≤ 1000000 by have := b.sz; omega)]
  rfl

theorem okT_of {t : D} (g : tmG t = true) (d : t.dp < 40) (z : t.sz ≤ 1000000) : okT t = true := by
  unfold okT
  rw [g, decide_eq_true d, decide_eq_true z]
  rfl
theorem ty_dps {t : Ty} : dps (tyds t.as) + 2 ≤ t.d.dp := by
  rw [ty_dp]
  omega
theorem dps_ty {ts : List Ty} {t : Ty} (m : t ∈ ts) : t.d.dp ≤ dps (tyds ts) := dps_mem (by rw [tyds_map]; exact List.mem_map.mpr ⟨t, m, rfl⟩)
/-- where long forms of binders stand for the outermost binders, binders are renamed -/
theorem sub_ren {sg : Sg} {hs : List Ty} : ∀ (w p : Nat) (own as inn own2 : List Ty) (ns : List Int) (h : D) (ps : List D) (t : Ty), dps (tyds as) ≤ w → dps ps ≤ p → p < 38 → szs ps ≤ 1000000 → (∀ u ∈ as, TyB u) → ns.length = as.length → (∀ x ∈ ns, 0 ≤ x) → Rn (own ++ as) own2 (rhoB ns) →
    hdB sg hs (own ++ as ++ inn) h = some t → tmsB sg hs (own ++ as ++ inn) t.as ps = true → subB (p + 3 * w + 3) (lgPs ns as) inn.length h ps = some (renH (rhoB ns) inn.length h, rens (rhoB ns) inn.length ps) := by
  intro w
  induction w using Nat.strongRecOn with
  | ind w IHw =>
  intro p
  induction p using Nat.strongRecOn with
  | ind p IHp =>
  intro own as inn own2 ns h ps t hw hp p38 hz bas lns nns rn e1 e2
  obtain ⟨l2, at2⟩ := tmsB_at e2
  have gh := hdB_G e1
  have gps := tmsB_G _ _ ps e2
  have few : ps.length ≤ 1000000 := Nat.le_trans (szs_len ps) hz
  have llg : (lgPs ns as).length = as.length := lgPs_len lns
  have parts : allO (wrapW (subB (p + 3 * w + 2) (lgPs ns as)) inn.length) ps = some (rens (rhoB ns) inn.length ps) := by
    refine allO_of (rens_len _ _ _).symm fun i d e h1 h2 => ?_
    have li := (List.getElem?_eq_some_iff.mp h1).1
    rw [rens_map, List.getElem?_map, h1] at h2
    have h2' : renD (rhoB ns) inn.length d = e := Option.some.inj h2
    subst h2'
    have lt : i < t.as.length := by omega
    obtain ⟨x, qs, t', ed, q1, q2, q3, q4⟩ := tmB_inv (at2 i _ _ (List.getElem?_eq_getElem lt) h1)
    subst ed
    have md := List.mem_of_getElem? h1
    have b1 := dps_mem md
    have b2 := szs_mem md
    rw [dp_node] at b1
    rw [sz_node] at b2
    rw [List.append_assoc] at q1 q4
    have ih := IHp (dps qs) (by omega) own as (inn ++ t.as[i].as) own2 ns x qs t' hw (Nat.le_refl _) (by omega) (by omega) bas lns nns rn q1 q4
    have eo : ((inn.length : Int) + ((t.as[i].as.length : Nat) : Int)) = ((inn ++ t.as[i].as).length : Nat) := by
      rw [List.length_append]
      omega
    rw [wrapW, renD_eq, eo, sub_mono ih (by omega)]
  rw [show p + 3 * w + 3 = (p + 3 * w + 2) + 1 by omega, subB_eq gh few parts]
  rcases hdG_of gh with ⟨s, i, rfl, rfl | rfl⟩ | ⟨x, rfl⟩
  rotate_left
  · rw [headW_h, renH_h]
  · rw [headW_c, renH_c]
  show headW (lgPs ns as) inn.length _ _ (hb i) = some (renH (rhoB ns) inn.length (hb i), _)
  obtain ⟨i0, il⟩ := hdB_b_inv e1
  rw [hdB_bI i0 il] at e1
  rw [List.length_append, List.length_append] at il e1
  by_cases c : (inn.length : Int) ≤ i
  rotate_left
  · rw [headW_in (by omega), renH_b, if_neg c]
  rw [renH_b, if_pos c]
  by_cases c2 : (as.length : Int) ≤ i - inn.length
  · rw [headW_low c (by rw [llg]; exact c2), llg]
    unfold rhoB
    rw [if_neg (by omega), lns]
    congr 4
    omega
  -- a binder for which a long form stands
  have lx : (i - inn.length).toNat < as.length := by omega
  have lj : as.length - 1 - (i - inn.length).toNat < as.length := by omega
  have lj2 : as.length - 1 - (i - inn.length).toNat < ns.length := by omega
  have eτ : t = as[as.length - 1 - (i - inn.length).toNat] := by
    rw [List.getElem?_append_left (by rw [List.length_append]; omega), List.getElem?_append_right (by omega)] at e1
    have j1 : own.length + as.length + inn.length - 1 - i.toNat - own.length = as.length - 1 - (i - inn.length).toNat := by omega
    rw [j1, List.getElem?_eq_getElem lj] at e1
    exact (Option.some.inj e1).symm
  have mτ : t ∈ as := by rw [eτ]; exact List.getElem_mem lj
  have bτ := bas t mτ
  have eρ : rhoB ns (i - inn.length) = ns[as.length - 1 - (i - inn.length).toNat] := by
    unfold rhoB
    rw [if_pos (by omega), List.getD_eq_getElem?_getD, lns, List.getElem?_eq_getElem lj2]
    rfl
  have nn := nns _ (List.getElem_mem lj2)
  rw [eρ]
  generalize ns[as.length - 1 - (i - inn.length).toNat] = μ at nn eρ
  have et : (lgPs ns as)[(lgPs ns as).length - 1 - (i - inn.length).toNat]? = some (longD "b" μ t) := by
    have en : ns[as.length - 1 - (i - inn.length).toNat]? = some μ := by
      rw [← eρ]
      unfold rhoB
      rw [if_pos (by omega), List.getD_eq_getElem?_getD, lns, List.getElem?_eq_getElem lj2]
      rfl
    rw [llg]
    exact lgPs_at en (by rw [eτ]; exact List.getElem?_eq_getElem lj)
  rw [headW_put c (by rw [llg]; exact c2) et (ok_long bτ μ), lift_long nn t (Int.le_refl 0), longD_eq, raise_b, unW]
  -- the binder applied to what came of the parts
  have rens_ty : tmsB sg hs (own2 ++ inn) t.as (rens (rhoB ns) inn.length ps) = true := tms_ren rn inn t.as ps e2
  obtain ⟨g1, g2, g3⟩ := rens_G (ρ := rhoB ns) inn.length ps gps
  generalize rens (rhoB ns) inn.length ps = dones at rens_ty g1 g2 g3
  obtain ⟨l3, at3⟩ := tmsB_at rens_ty
  have w2 : dps (tyds t.as) + 2 ≤ w := Nat.le_trans ty_dps (Nat.le_trans (dps_ty mτ) hw)
  have all : allO (wrapW (subB (p + 3 * w + 1) dones) 0) (longs t.as.length 0 t.as) = some dones := by
    refine allO_of (by rw [longs_len]; exact l3) fun l d e h1 h2 => ?_
    have ll : l < t.as.length := by
      have := (List.getElem?_eq_some_iff.mp h1).1
      rw [longs_len] at this
      exact this
    rw [longs_at _ _ 0 _ _ (List.getElem?_eq_getElem ll), Nat.zero_add] at h1
    have h1' : longD "b" ((t.as.length : Int) - 1 - (l : Nat)) t.as[l] = d := Option.some.inj h1
    subst h1'
    have mσ : t.as[l] ∈ t.as := List.getElem_mem ll
    have bσ := bτ.as mσ
    have tyd := at3 l _ _ (List.getElem?_eq_getElem ll) h2
    have w4 : dps (tyds t.as[l].as) + 4 ≤ w := by
      have a1 := dps_ty mσ
      have a2 := ty_dps (t := t.as[l])
      omega
    generalize t.as[l] = σ at mσ bσ tyd w4
    obtain ⟨h', ps', t', ed, q1, q2, q3, q4⟩ := tmB_inv tyd
    have md := List.mem_of_getElem? h2
    have b1 := dps_mem md
    have b2 := szs_mem md
    have gd := tmsB_G _ _ _ rens_ty
    have ge := tmGs_mem gd e md
    have oke : okT e = true := okT_of ge (by omega) (by omega)
    rw [longD_eq, raise_b, wrapW]
    obtain ⟨k1, k2, k3⟩ := longs_bd (Nat.le_refl 3) σ.as σ.as.length 0 (Ty.Ok.as bσ.ok).1
    have zσ : szs (tyds σ.as) ≤ 100000 := by
      have z1 := bσ.sz
      rw [Ty.d_eq] at z1
      have z2 : 1 + ((1 + szs (tyds σ.as)) + (1 + 0)) ≤ 100000 := z1
      omega
    have cl : allO (wrapW (subB (p + 3 * w) dones) (0 + (σ.as.length : Nat))) (longs σ.as.length 0 σ.as) = some (longs σ.as.length 0 σ.as) :=
      allO_clo _ _ _ _ (cl_longs σ.as σ.as.length 0 _ (by omega) (by omega)) (by omega) (by omega)
    have put : subB (p + 3 * w + 1) dones (0 + (σ.as.length : Nat)) (hb ((t.as.length : Int) - 1 - (l : Nat) + (σ.as.length : Nat))) (longs σ.as.length 0 σ.as) = some (h', ps') := by
      have en : dones[dones.length - 1 - ((t.as.length : Int) - 1 - (l : Nat) + (σ.as.length : Nat) - (0 + (σ.as.length : Nat))).toNat]? = some e := by
        rw [← h2]
        congr 1
        omega
      rw [subB_eq (h := hb _) rfl (by rw [longs_len]; have := szs_len (longs σ.as.length 0 σ.as); rw [longs_len] at this; omega) cl, headW_put (by omega) (by omega) en oke, ed, liftD_eq, unW]
      have lh := lift_hd (more := σ.as) q1
      have lp := tms_lift (more := σ.as) σ.as t'.as ps' q4
      rw [ed, dp_node] at b1
      rw [ed, sz_node] at b2
      have gp' := tmsB_G _ _ _ q4
      obtain ⟨f1, f2, f3⟩ := lifts_G (a := (σ.as.length : Nat)) (0 + (σ.as.length : Nat)) ps' gp'
      have main := IHw (dps (tyds σ.as)) (by omega) p (own2 ++ inn ++ σ.as) σ.as [] (own2 ++ inn ++ σ.as) (ownN σ.as.length) (liftH (σ.as.length : Nat) (σ.as.length : Nat) h') (lifts (σ.as.length : Nat) (σ.as.length : Nat) ps') t'
        (Nat.le_refl _) (by rw [Int.zero_add] at f3; rw [f3]; omega) p38 (by rw [Int.zero_add] at f2; rw [f2]; omega) (fun u hu => bσ.as hu) (ownN_len _) (fun x hx => by
          unfold ownN at hx
          obtain ⟨j, hj, rfl⟩ := List.mem_map.mp hx
          have := List.mem_range.mp hj
          omega) (rn_own (own2 ++ inn) σ.as) (by rw [List.append_nil]; exact lh) (by rw [List.append_nil]; exact lp)
      rw [lg_own] at main
      have main' := sub_mono main (m := p + 3 * w) (by omega)
      have hR : renH (rhoB (ownN σ.as.length)) 0 (liftH (σ.as.length : Nat) ((σ.as.length : Nat) + 0) h') = h' := ren_liftH (by omega) (fun x x0 x1 => rho_own1 x0 x1) (fun x x1 => by rw [rho_own2 (by omega)]; omega) (hdB_G q1)
      have pR : rens (rhoB (ownN σ.as.length)) 0 (lifts (σ.as.length : Nat) ((σ.as.length : Nat) + 0) ps') = ps' := rens_lift (by omega) (fun x x0 x1 => rho_own1 x0 x1) (fun x x1 => by rw [rho_own2 (by omega)]; omega) 0 ps' gp'
      rw [Int.add_zero] at hR pR
      rw [Int.zero_add]
      refine Eq.trans main' ?_
      show some (renH (rhoB (ownN σ.as.length)) 0 _, rens (rhoB (ownN σ.as.length)) 0 _) = _
      rw [hR, pR]
    rw [put, ed]
  rw [show p + 3 * w + 2 = (p + 3 * w + 1) + 1 by omega, subB_eq (h := hb _) rfl (by rw [longs_len, l3]; have := szs_len dones; omega) all, headW_low (by omega) (by omega)]
  congr 4
  omega
end Lc
end

section
/-! Reading a filling off: what must stand in the holes. -/
namespace Lc
open PySem L2 PyProof.Rows PySem.Spec
variable [Lc.Tbs]
/-! ### == of terms -/
theorem eqD_intR {d : D} {y : Int} (g : d.isB = false) (h : eqD d (.int y) = true) : d = .int y := by
  cases d with
  | int x => rw [eqD_int] at h; rw [of_decide_eq_true h]
  | non => unfold eqD at h; simp only [D.py, PyData.eqv] at h; cases h
  | bl b => cases g
  | str b => unfold eqD at h; simp only [D.py, PyData.eqv] at h; cases h
  | tup b => unfold eqD at h; simp only [D.py, PyData.eqv] at h; cases h
theorem eqD_two {s s' : Str} {a b : D} (h : eqD (.tup [.str s, a]) (.tup [.str s', b]) = true) : s = s' ∧ eqD a b = true := by
  rw [eqD_tup, eqDs_cons, eqDs_cons, eqDs_nil, Bool.and_true, Bool.and_eq_true, eqD_str] at h
  exact ⟨of_decide_eq_true h.1, h.2⟩
theorem eqD_hd {x y : D} (gx : hdG x = true) (gy : hdG y = true) (h : eqD x y = true) : x = y := by
  rcases hdG_of gx with ⟨s, i, rfl, _⟩ | ⟨u, rfl⟩
  · rcases hdG_of gy with ⟨s', i', rfl, _⟩ | ⟨u', rfl⟩
    · obtain ⟨e1, e2⟩ := eqD_two h
      cases eqD_intR rfl e2
      rw [e1]
    · obtain ⟨e1, e2⟩ := eqD_two h
      cases eqD_strR e2
  · rcases hdG_of gy with ⟨s', i', rfl, _⟩ | ⟨u', rfl⟩
    · obtain ⟨e1, e2⟩ := eqD_two h
      cases eqD_intR rfl e2
    · obtain ⟨e1, e2⟩ := eqD_two h
      cases eqD_strR e2
      rfl
mutual
theorem eqD_G : ∀ (d e : D), tmG d = true → tmG e = true → eqD d e = true → d = e
  | .tup xs, e, g1, g2, h => by
    obtain ⟨n, x, ps, e1, gx, gp⟩ := tmG_of g1
    injection e1 with e1
    subst e1
    obtain ⟨m, y, qs, rfl, gy, gq⟩ := tmG_of g2
    rw [eqD_tup, eqDs_cons, eqDs_cons, eqDs_cons, eqDs_nil, Bool.and_true, Bool.and_eq_true, Bool.and_eq_true, eqD_tup] at h
    cases eqD_intR rfl h.1
    cases eqD_hd gx gy h.2.1
    rw [eqDs_G ps qs gp gq h.2.2]
  | .non, _, g, _, _ => by simp [tmG] at g
  | .bl _, _, g, _, _ => by simp [tmG] at g
  | .int _, _, g, _, _ => by simp [tmG] at g
  | .str _, _, g, _, _ => by simp [tmG] at g
theorem eqDs_G : ∀ (ds es : List D), tmGs ds = true → tmGs es = true → eqDs ds es = true → ds = es
  | [], [], _, _, _ => rfl
  | [], _ :: _, _, _, h => by rw [eqDs_nilL] at h; cases h
  | _ :: _, [], _, _, h => by rw [eqDs_nilR] at h; cases h
  | d :: ds, e :: es, g1, g2, h => by
    rw [tmGs, Bool.and_eq_true] at g1 g2
    rw [eqDs_cons, Bool.and_eq_true] at h
    rw [eqD_G d e g1.1 g2.1 h.1, eqDs_G ds es g1.2 g2.2 h.2]
end
/-! ### a part that uses these binders alone -/
def nmH (ns : List Int) (inner : Int) : D → Bool
  | .tup [.str s, .int i] => !(decide (s = "b") && decide (inner ≤ i)) || ns.any fun j => decide (i - inner = j)
  | _ => true
mutual
def nmD (ns : List Int) (o : Int) : D → Bool
  | .tup [.int n, h, .tup ps] => nmH ns (o + n) h && nms ns (o + n) ps
  | _ => true
def nms (ns : List Int) (o : Int) : List D → Bool
  | [] => true
  | p :: ps => nmD ns o p && nms ns o ps
end
theorem nmD_eq (ns : List Int) (o n : Int) (h : D) (ps : List D) : nmD ns o (.tup [.int n, h, .tup ps]) = (nmH ns (o + n) h && nms ns (o + n) ps) := by rw [nmD]
def beta (ns : List Int) (m : Int) : Int := (ns.length : Int) - 1 - (ns.idxOf m : Nat)
def bndD (ns : List Int) : D → Option D
  | .tup [.int _, h, .tup ps] => if (nmH ns 0 h && nms ns 0 ps) = true then some (.tup [.int ns.length, renH (beta ns) 0 h, .tup (rens (beta ns) 0 ps)]) else none
  | _ => none
theorem bndD_eq (ns : List Int) (n : Int) (h : D) (ps : List D) : bndD ns (.tup [.int n, h, .tup ps]) = if (nmH ns 0 h && nms ns 0 ps) = true then some (.tup [.int ns.length, renH (beta ns) 0 h, .tup (rens (beta ns) 0 ps)]) else none := rfl
/-! ### what fits -/
inductive Fit (hs : List Ty) (f : Nat → Option D) : D → D → Prop
  | hole {n : Int} {k : Nat} {t : Ty} {is : List Nat} {other v : D} (h1 : hs[k]? = some t) (h2 : is.length = t.as.length) (h3 : bndD (intsOf is) other = some v) (h4 : f k = some v) : Fit hs f (.tup [.int n, hd2 "h" (k : Nat), .tup (lgPs (intsOf is) t.as)]) other
  | node {n : Int} {x : D} {ps qs : List D} (h1 : NotH x) (h2 : ps.length = qs.length) (h3 : ∀ (i : Nat) (p q : D), ps[i]? = some p → qs[i]? = some q → Fit hs f p q) : Fit hs f (.tup [.int n, x, .tup ps]) (.tup [.int n, x, .tup qs])
theorem notH_h {k : Int} : ¬ NotH (hd2 "h" k) := by
  rintro (⟨i, e⟩ | ⟨x, e⟩)
  · injection e with e
    injection e with e _
    injection e with e
    exact absurd e (by decide)
  · injection e with e
    injection e with e _
    injection e with e
    exact absurd e (by decide)
theorem fit_hole {hs : List Ty} {f : Nat → Option D} {n : Int} {k : Nat} {t : Ty} {is : List Nat} {other : D} (h1 : hs[k]? = some t) (h2 : is.length = t.as.length) (h : Fit hs f (.tup [.int n, hd2 "h" (k : Nat), .tup (lgPs (intsOf is) t.as)]) other) : ∃ v, bndD (intsOf is) other = some v ∧ f k = some v := by
  generalize e : D.tup [.int n, hd2 "h" (k : Nat), .tup (lgPs (intsOf is) t.as)] = one at h
  cases h with
  | hole g1 g2 g3 g4 =>
    injection e with e
    injection e with _ e
    injection e with e1 e
    injection e with e _
    injection e with e
    injection e1 with e1
    injection e1 with _ e1
    injection e1 with e1 _
    injection e1 with e1
    have ek := Int.ofNat.inj e1
    subst ek
    rw [h1] at g1
    cases g1
    have ei := lg_inj h2 g2 e
    subst ei
    exact ⟨_, g3, g4⟩
  | node g1 _ _ =>
    injection e with e
    injection e with _ e
    injection e with e1 e
    rw [← e1] at g1
    exact absurd g1 notH_h
theorem fit_node {hs : List Ty} {f : Nat → Option D} {n : Int} {x : D} {ps : List D} {other : D} (nx : NotH x) (h : Fit hs f (.tup [.int n, x, .tup ps]) other) : ∃ qs, other = .tup [.int n, x, .tup qs] ∧ ps.length = qs.length ∧ ∀ (i : Nat) (p q : D), ps[i]? = some p → qs[i]? = some q → Fit hs f p q := by
  generalize e : D.tup [.int n, x, .tup ps] = one at h
  cases h with
  | hole g1 g2 g3 g4 =>
    injection e with e
    injection e with _ e
    injection e with e1 e
    rw [e1] at nx
    exact absurd nx notH_h
  | node g1 g2 g3 =>
    injection e with e
    injection e with e0 e
    injection e with e1 e
    injection e with e _
    injection e with e
    injection e0 with e0
    subst e e0 e1
    exact ⟨_, rfl, g2, g3⟩
theorem mets_in : ∀ {ps : List D} {m : Mt}, m ∈ mets ps → ∃ (i : Nat) (p : D), ps[i]? = some p ∧ m ∈ met p
  | [], m, h => by rw [mets] at h; cases h
  | q :: ps, m, h => by
    rw [mets] at h
    rcases List.mem_append.mp h with h | h
    · exact ⟨0, q, rfl, h⟩
    · obtain ⟨i, p, e, q⟩ := mets_in h
      exact ⟨i + 1, p, by simpa using e, q⟩
/-- a hole that occurs has one value alone -/
theorem fit_uniq {hs : List Ty} {f g : Nat → Option D} {one other : D} (h1 : Fit hs f one other) : Fit hs g one other → ∀ m ∈ met one, f m.1 = g m.1 ∧ f m.1 ≠ none := by
  induction h1 with
  | @hole n k t is other v a1 a2 a3 a4 =>
    intro h2 m hm
    obtain ⟨v', b1, b2⟩ := fit_hole a1 a2 h2
    rw [met_h, mets_lg] at hm
    cases List.mem_singleton.mp hm
    rw [a3] at b1
    cases b1
    show f k = g k ∧ f k ≠ none
    rw [a4, b2]
    exact ⟨rfl, by simp⟩
  | @node n x ps qs a1 a2 a3 ih =>
    intro h2 m hm
    obtain ⟨qs', e, b2, b3⟩ := fit_node a1 h2
    injection e with e
    injection e with _ e
    injection e with _ e
    injection e with e _
    injection e with e
    subst e
    rw [met_n a1] at hm
    obtain ⟨i, p, ei, mp⟩ := mets_in hm
    have lt : i < qs.length := by rw [← a2]; exact (List.getElem?_eq_some_iff.mp ei).1
    exact ih i p _ ei (List.getElem?_eq_getElem lt) (b3 i p _ ei (List.getElem?_eq_getElem lt)) m mp
/-- all pairs fit -/
def AllFit (hs : List Ty) (f : Nat → Option D) (prs : List (D × D)) : Prop := ∀ p ∈ prs, Fit hs f p.1 p.2
def SubF (ms : List (Nat × D)) (f : Nat → Option D) : Prop := ∀ k v, (k, v) ∈ ms → f k = some v
/-- what is read off -/
def Res (hs : List Ty) (many : Nat) (prs : List (D × D)) (R : D) : Prop := (∃ f es, AllFit hs f prs ∧ es.length = many ∧ (∀ k, k < many → f k = es[k]?) ∧ R = .tup es) ∨ ((∀ f, ¬ AllFit hs f prs) ∧ R = .non)
theorem Res.uniq {hs : List Ty} {many : Nat} {prs : List (D × D)} {R S : D} (h1 : Res hs many prs R) (h2 : Res hs many prs S) (occ : ∀ k, k < many → k ∈ (mets (prs.map (·.1))).map (·.1)) : R = S := by
  rcases h1 with ⟨f, es, a1, a2, a3, rfl⟩ | ⟨a, rfl⟩
  · rcases h2 with ⟨g, es', b1, b2, b3, rfl⟩ | ⟨b, rfl⟩
    · congr 1
      apply List.ext_getElem?
      intro k
      rcases Nat.lt_or_ge k many with l | l
      · obtain ⟨m, hm, rfl⟩ := List.mem_map.mp (occ k l)
        obtain ⟨i, p, ei, mp⟩ := mets_in hm
        rw [List.getElem?_map] at ei
        obtain ⟨pr, hpr, rfl⟩ := Option.map_eq_some_iff.mp ei
        have mpr := List.mem_of_getElem? hpr
        rw [← a3 _ l, ← b3 _ l]
        exact (fit_uniq (a1 pr mpr) (b1 pr mpr) m mp).1
      · rw [List.getElem?_eq_none (by omega), List.getElem?_eq_none (by omega)]
    · exact absurd a1 (b f)
  · rcases h2 with ⟨g, es', b1, b2, b3, rfl⟩ | ⟨b, rfl⟩
    · exact absurd b1 (a g)
    · rfl
/-- the values that were found -/
def lookF (ms : List (Nat × D)) (k : Nat) : Option D := (ms.find? fun r => decide (r.1 = k)).map (·.2)
theorem look_of {ms : List (Nat × D)} {k : Nat} {v : D} (nd : (ms.map (·.1)).Nodup) (h : (k, v) ∈ ms) : lookF ms k = some v := by
  unfold lookF
  induction ms with
  | nil => cases h
  | cons r ms ih =>
    rw [List.map_cons, List.nodup_cons] at nd
    rw [List.find?_cons]
    by_cases z : r.1 = k
    · rw [decide_eq_true z]
      rcases List.mem_cons.mp h with h | h
      · rw [← h]
        rfl
      · exact absurd (by rw [z]; exact List.mem_map.mpr ⟨_, h, rfl⟩) nd.1
    · rw [decide_eq_false z]
      rcases List.mem_cons.mp h with h | h
      · exact absurd (by rw [← h]) z
      · exact ih nd.2 h
theorem look_in {ms : List (Nat × D)} {k : Nat} {v : D} (h : lookF ms k = some v) : (k, v) ∈ ms := by
  unfold lookF at h
  obtain ⟨r, hr, rfl⟩ := Option.map_eq_some_iff.mp h
  have q := List.find?_some hr
  have e : r.1 = k := of_decide_eq_true q
  subst e
  exact List.mem_of_find?_eq_some hr
theorem subF_look {ms : List (Nat × D)} (nd : (ms.map (·.1)).Nodup) : SubF ms (lookF ms) := fun k v h => look_of nd h
theorem subF_snoc {ms : List (Nat × D)} {k : Nat} {v : D} {f : Nat → Option D} : SubF (ms ++ [(k, v)]) f ↔ SubF ms f ∧ f k = some v := by
  constructor
  · intro h
    exact ⟨fun j u m => h j u (List.mem_append_left _ m), h k v (List.mem_append_right _ List.mem_cons_self)⟩
  · rintro ⟨h1, h2⟩ j u m
    rcases List.mem_append.mp m with m | m
    · exact h1 j u m
    · cases List.mem_singleton.mp m
      exact h2
end Lc
end

section
/-! Patterns filled, and the filling read off again. -/
namespace Lc
open PySem L2 PyProof.Rows PySem.Spec
variable [Lc.Tbs]
def numB : D → Int
  | .tup [.int a, .tup [_, .int i], _] => i - a
  | _ => 0
def numsOf (ps : List D) : List Int := ps.map numB
theorem num_long (t : Ty) (i : Int) : numB (longD "b" i t) = i := by
  rw [longD_eq, raise_b]
  show i + t.as.length - t.as.length = i
  omega
theorem nums_lg : ∀ {is : List Int} {ts : List Ty}, is.length = ts.length → numsOf (lgPs is ts) = is
  | [], [], _ => rfl
  | [], _ :: _, h => by cases h
  | _ :: _, [], h => by cases h
  | i :: is, t :: ts, h => by
    have ih := nums_lg (is := is) (ts := ts) (Nat.succ.inj h)
    show numB (longD "b" i t) :: numsOf (lgPs is ts) = _
    rw [num_long, ih]
def putF (n : Int) (ns : List Int) : Option D → D
  | some (.tup [.int _, x, .tup qs]) => .tup [.int n, renH (rhoB ns) 0 x, .tup (rens (rhoB ns) 0 qs)]
  | _ => .non
mutual
def fillD (ms : List D) : D → D
  | .tup [.int n, h, .tup ps] => match holeN h with
    | some k => putF n (numsOf ps) ms[k]?
    | none => .tup [.int n, h, .tup (fills ms ps)]
  | .tup xs => .tup xs
  | .non => .non
  | .bl b => .bl b
  | .int i => .int i
  | .str x => .str x
def fills (ms : List D) : List D → List D
  | [] => []
  | p :: ps => fillD ms p :: fills ms ps
end
theorem fills_map (ms : List D) : ∀ ps : List D, fills ms ps = ps.map (fillD ms)
  | [] => by rw [fills]; rfl
  | p :: ps => by rw [fills, fills_map ms ps, List.map_cons]
theorem fillD_h (ms : List D) (n : Int) (k : Nat) (ps : List D) : fillD ms (.tup [.int n, hd2 "h" (k : Nat), .tup ps]) = putF n (numsOf ps) ms[k]? := by
  rw [fillD, holeN_h]
theorem fillD_n (ms : List D) {n : Int} {x : D} {ps : List D} (h : NotH x) : fillD ms (.tup [.int n, x, .tup ps]) = .tup [.int n, x, .tup (fills ms ps)] := by
  rw [fillD, h.none]
mutual
theorem fill_long (ms : List D) : ∀ (t : Ty) (i : Int), fillD ms (longD "b" i t) = longD "b" i t
  | .mk as s, i => by
    rw [longD, raise_b, fillD_n ms (.inl ⟨_, rfl⟩), fill_longs ms as as.length 0]
theorem fill_longs (ms : List D) : ∀ (ts : List Ty) (n j : Nat), fills ms (longs n j ts) = longs n j ts
  | [], _, _ => by rw [longs, fills]
  | t :: ts, n, j => by rw [longs, fills, fill_long ms t, fill_longs ms ts]
end
theorem fills_lg (ms : List D) : ∀ (is : List Int) (ts : List Ty), fills ms (lgPs is ts) = lgPs is ts
  | [], ts => by
    show fills ms [] = []
    rw [fills]
  | _ :: _, [] => by
    show fills ms [] = []
    rw [fills]
  | i :: is, t :: ts => by
    show fills ms (longD "b" i t :: lgPs is ts) = longD "b" i t :: lgPs is ts
    rw [fills, fill_long, fills_lg ms is ts]
/-! ### types -/
/-- a long form tells the type of its binder -/
theorem long_inv {sg : Sg} {hs : List Ty} : ∀ (n : Nat) (u : Ty) (own : List Ty) (t v : Ty) (i : Int), u.d.dp < n → tmB sg hs own t (longD "b" i u) = true → hdB sg hs own (hb i) = some v → 0 ≤ i → v = t
  | 0, _, _, _, _, _, l, _, _, _ => absurd l (Nat.not_lt_zero _)
  | n + 1, u, own, t, v, i, l, h, hv, i0 => by
    obtain ⟨x, ps, t', e, h1, h2, h3, h4⟩ := tmB_inv h
    rw [longD_eq, raise_b] at e
    injection e with e
    injection e with e0 e
    injection e with e1 e
    injection e with e _
    injection e with e
    injection e0 with e0
    have lu : u.as.length = t.as.length := by omega
    subst e e1
    obtain ⟨_, il⟩ := hdB_b_inv hv
    rw [hdB_bI i0 il] at hv
    have ev : t' = v := by
      rw [hdB_bI (by omega) (by rw [List.length_append]; omega), List.getElem?_append_left (by rw [List.length_append]; omega)] at h1
      have j1 : (own ++ t.as).length - 1 - (i + (u.as.length : Nat)).toNat = own.length - 1 - i.toNat := by
        rw [List.length_append]
        omega
      rw [j1, hv] at h1
      exact (Option.some.inj h1).symm
    subst ev
    rw [longs_len] at h3
    have eas : t'.as = t.as := by
      apply List.ext_getElem?
      intro j
      rcases Nat.lt_or_ge j t.as.length with lj | lj
      · have lju : j < u.as.length := by omega
        have ljv : j < t'.as.length := by omega
        rw [List.getElem?_eq_getElem lj, List.getElem?_eq_getElem ljv]
        obtain ⟨_, at4⟩ := tmsB_at h4
        have tj := at4 j _ _ (List.getElem?_eq_getElem ljv) (longs_at _ _ 0 _ _ (List.getElem?_eq_getElem lju))
        have mu := ty_dp_mem (List.getElem_mem lju)
        have bj : hdB sg hs (own ++ t.as) (hb ((u.as.length : Int) - 1 - (0 + j : Nat))) = some t.as[j] := by
          rw [hdB_bI (by omega) (by rw [List.length_append]; omega), List.getElem?_append_right (by rw [List.length_append]; omega)]
          have j1 : (own ++ t.as).length - 1 - ((u.as.length : Int) - 1 - (0 + j : Nat)).toNat - own.length = j := by
            rw [List.length_append]
            omega
          rw [j1]
          exact List.getElem?_eq_getElem lj
        exact congrArg some (long_inv n _ _ _ _ _ (by omega) tj bj (by omega)).symm
      · rw [List.getElem?_eq_none (by omega), List.getElem?_eq_none lj]
    cases t'
    cases t
    have h2' : (_ : Str) = _ := h2
    have eas' : (_ : List Ty) = _ := eas
    simp only [Ty.as, Ty.s] at h2 eas
    rw [h2, eas]
theorem long_hd {sg : Sg} {hs own : List Ty} {t : Ty} {i : Nat} (h : tmB sg hs own t (longD "b" (i : Nat) t) = true) : hdB sg hs own (hb (i : Nat)) = some t := by
  obtain ⟨x, ps, t', e, h1, h2, h3, h4⟩ := tmB_inv h
  rw [longD_eq, raise_b] at e
  injection e with e
  injection e with e0 e
  injection e with e1 e
  subst e1
  obtain ⟨b0, bl⟩ := hdB_b_inv h1
  rw [List.length_append] at bl
  have il : (i : Int) < own.length := by omega
  have ex : ∃ v, hdB sg hs own (hb (i : Nat)) = some v := by
    rw [hdB_bI (by omega) il]
    exact ⟨_, List.getElem?_eq_getElem (by omega)⟩
  obtain ⟨v, hv⟩ := ex
  rw [hv, long_inv (t.d.dp + 1) t own t v i (Nat.lt_succ_self _) h hv (by omega)]
theorem rn_lg {sg : Sg} {hs own as : List Ty} {is : List Nat} (l : is.length = as.length) (h : tmsB sg hs own as (lgPs (intsOf is) as) = true) : Rn as own (rhoB (intsOf is)) := fun x hx => by
  obtain ⟨_, a⟩ := tmsB_at h
  have lj : as.length - 1 - x < as.length := by omega
  have lj2 : as.length - 1 - x < is.length := by omega
  have li : (intsOf is).length = is.length := by unfold intsOf; rw [List.length_map]
  have ei : (intsOf is)[as.length - 1 - x]? = some ((is[as.length - 1 - x] : Nat) : Int) := by
    unfold intsOf
    rw [List.getElem?_map, List.getElem?_eq_getElem lj2]
    rfl
  have tj := long_hd (a _ _ _ (List.getElem?_eq_getElem lj) (lgPs_at ei (List.getElem?_eq_getElem lj)))
  obtain ⟨b0, bl⟩ := hdB_b_inv tj
  rw [hdB_bI b0 bl] at tj
  have er : rhoB (intsOf is) (x : Nat) = ((is[as.length - 1 - x] : Nat) : Int) := by
    unfold rhoB
    rw [if_pos (by rw [li]; omega), List.getD_eq_getElem?_getD, li, l, show ((x : Nat) : Int).toNat = x by omega, ei]
    rfl
  rw [er]
  refine ⟨b0, bl, ?_⟩
  rw [tj, List.getElem?_eq_getElem lj]
theorem tmsB_of {sg : Sg} {hs own : List Ty} : ∀ {ts : List Ty} {ps : List D}, ts.length = ps.length → (∀ (i : Nat) (t : Ty) (p : D), ts[i]? = some t → ps[i]? = some p → tmB sg hs own t p = true) → tmsB sg hs own ts ps = true
  | [], [], _, _ => by rw [tmsB]; rfl
  | [], _ :: _, l, _ => by cases l
  | _ :: _, [], l, _ => by cases l
  | t :: ts, p :: ps, l, h => by
    rw [tmsB]
    show (tmB sg hs own t p && tmsB sg hs own ts ps) = true
    rw [h 0 t p rfl rfl, tmsB_of (Nat.succ.inj l) fun i u q h1 h2 => h (i + 1) u q (by simpa using h1) (by simpa using h2)]
    rfl
theorem hd_hole {sg : Sg} {hs own : List Ty} {k : Nat} {t : Ty} : hdB sg hs own (hd2 "h" (k : Nat)) = some t ↔ hs[k]? = some t := by
  show hkB sg hs own (.str "h") (.int (k : Nat)) = some t ↔ _
  unfold hkB
  rw [show (eqD (.str "h") (.str "c") && (D.int (k : Nat)).isS) = false by rw [eqD_str]; rfl, if_neg (by decide), hkM_int, if_neg (by omega)]
  unfold hkI
  rw [show eqD (.str "h") (.str "b") = false by rw [eqD_str]; exact decide_eq_false (by decide), Bool.false_and, if_neg (by decide), eqD_str, decide_eq_true rfl, Bool.true_and]
  by_cases c : (k : Int) < hs.length
  · rw [if_pos (decide_eq_true c), show ((k : Nat) : Int).toNat = k by omega]
  · rw [if_neg (by rw [decide_eq_false c]; decide), List.getElem?_eq_none (by omega)]
theorem hd_notH {sg : Sg} {hs hs' own : List Ty} {x : D} (n : NotH x) : hdB sg hs own x = hdB sg hs' own x := by
  rcases n with ⟨i, rfl⟩ | ⟨y, rfl⟩
  · show hkB sg hs own (.str "b") (.int i) = hkB sg hs' own (.str "b") (.int i)
    unfold hkB
    rw [show (eqD (.str "b") (.str "c") && (D.int i).isS) = false by rw [eqD_str]; rfl, if_neg (by decide), if_neg (by decide), hkM_int, hkM_int]
    unfold hkI
    rw [show eqD (.str "b") (.str "h") = false by rw [eqD_str]; exact decide_eq_false (by decide), Bool.false_and, Bool.false_and]
    simp only [Bool.false_eq_true, if_false]
  · show hkB sg hs own (.str "c") (.str y) = hkB sg hs' own (.str "c") (.str y)
    unfold hkB
    rw [show (eqD (.str "c") (.str "c") && (D.str y).isS) = true by rw [eqD_str, decide_eq_true rfl]; rfl, if_pos rfl, if_pos rfl]
/-- what stands for the holes has their types -/
def MsOk (sg : Sg) (last hs : List Ty) (ms : List D) : Prop := ∀ (k : Nat) (t : Ty), hs[k]? = some t → ∃ m, ms[k]? = some m ∧ tmB sg last [] t m = true
theorem fill_ty {sg : Sg} {last hs : List Ty} {ms : List D} (mo : MsOk sg last hs ms) : ∀ (n : Nat) (own : List Ty) (k : Ty) (d : D), d.dp < n → tmB sg hs own k d = true → Pt hs d → tmB sg last own k (fillD ms d) = true
  | 0, _, _, _, l, _, _ => absurd l (Nat.not_lt_zero _)
  | n + 1, own, k, d, l, h, p => by
    obtain ⟨x, ps, t, rfl, h1, h2, h3, h4⟩ := tmB_inv h
    obtain ⟨n', x', ps', e, q⟩ := p.inv
    injection e with e
    injection e with _ e
    injection e with e1 e
    injection e with e _
    injection e with e
    subst e1 e
    rcases q with ⟨j, t', is, rfl, hj, li, nd, rfl⟩ | ⟨nh, pts⟩
    · have et := hd_hole.mp h1
      have et' : t' = t := Option.some.inj (hj.symm.trans et)
      subst et'
      obtain ⟨m, em, tm⟩ := mo j t' hj
      obtain ⟨y, qs, u, rfl, g1, g2, g3, g4⟩ := tmB_inv tm
      have rn := rn_lg li h4
      rw [fillD_h, em, nums_lg (by unfold intsOf; rw [List.length_map]; exact li)]
      have r1 := ren_hd (loc := []) rn (by rw [List.append_nil]; exact g1)
      have r2 := tms_ren rn [] u.as qs (by rw [List.append_nil]; exact g4)
      rw [List.append_nil] at r1 r2
      exact tmB_mk (t := u) r1 (g2.trans h2) (by rw [rens_len]; exact g3) r2
    · rw [fillD_n ms nh]
      refine tmB_mk (t := t) (by rw [← hd_notH nh]; exact h1) h2 (by rw [fills_map, List.length_map]; exact h3) ?_
      obtain ⟨l4, a4⟩ := tmsB_at h4
      refine tmsB_of (by rw [fills_map, List.length_map]; exact l4) fun i u q hu hq => ?_
      rw [fills_map, List.getElem?_map] at hq
      obtain ⟨r, hr, rfl⟩ := Option.map_eq_some_iff.mp hq
      have mr := List.mem_of_getElem? hr
      have b := dps_mem mr
      rw [dp_node] at l
      exact fill_ty mo n _ _ r (by omega) (a4 i u r hu hr) (Pts.mem.mp pts r mr)
theorem fill_bd {sg : Sg} {last hs : List Ty} {ms : List D} {M Z : Nat} (mo : MsOk sg last hs ms) (bd : ∀ m ∈ ms, Wd Tx 3 m ∧ m.dp ≤ M ∧ m.sz ≤ Z) (z1 : 1 ≤ Z) : ∀ (n : Nat) (d : D), d.dp < n → Pt hs d → Wd Tx 3 d → Wd Tx 3 (fillD ms d) ∧ (fillD ms d).dp ≤ d.dp + M ∧ (fillD ms d).sz ≤ d.sz * Z
  | 0, _, l, _, _ => absurd l (Nat.not_lt_zero _)
  | n + 1, d, l, p, w => by
    obtain ⟨n', x, ps, rfl, q⟩ := p.inv
    rcases q with ⟨j, t', is, rfl, hj, li, nd, rfl⟩ | ⟨nh, pts⟩
    · obtain ⟨m, em, tm⟩ := mo j t' hj
      obtain ⟨y, qs, u, rfl, g1, g2, g3, g4⟩ := tmB_inv tm
      obtain ⟨b1, b2, b3⟩ := bd _ (List.mem_of_getElem? em)
      have gy := hdB_G g1
      have gq := tmsB_G _ _ _ g4
      rw [fillD_h, em]
      show Wd Tx 3 (.tup [.int n', renH _ 0 y, .tup (rens _ 0 qs)]) ∧ (D.tup [.int n', renH _ 0 y, .tup (rens _ 0 qs)]).dp ≤ _ ∧ (D.tup [.int n', renH _ 0 y, .tup (rens _ 0 qs)]).sz ≤ _
      generalize rhoB _ = ρ
      obtain ⟨f1, f2, f3⟩ := renH_G (ρ := ρ) (inner := 0) gy
      obtain ⟨e1, e2, e3⟩ := rens_G (ρ := ρ) 0 qs gq
      rw [dp_node] at b2
      rw [sz_node] at b3
      refine ⟨⟨by show 3 ≤ 3; decide, trivial, renH_Wd (Nat.le_refl 3) gy b1.2.2.1, ⟨by rw [rens_len]; exact b1.2.2.2.1.1, rens_Wd (Nat.le_refl 3) 0 qs gq b1.2.2.2.1.2⟩, trivial⟩, ?_, ?_⟩
      · rw [dp_node (x := renH ρ 0 y), f3, e3]
        omega
      · rw [sz_node (x := renH ρ 0 y), f2, e2]
        have := Nat.mul_le_mul_right Z (D.sz_pos (.tup [.int n', hd2 "h" (j : Nat), .tup (lgPs (intsOf is) t'.as)]))
        omega
    · rw [fillD_n ms nh]
      rw [dp_node] at l
      have all : ∀ r ∈ ps, Wd Tx 3 (fillD ms r) ∧ (fillD ms r).dp ≤ r.dp + M ∧ (fillD ms r).sz ≤ r.sz * Z := fun r hr => by
        have b := dps_mem hr
        exact fill_bd mo bd z1 n r (by omega) (Pts.mem.mp pts r hr) (Wds.mem.mp w.2.2.2.1.2 r hr)
      have d1 : dps (fills ms ps) ≤ dps ps + M := dps_max fun r hr => by
        rw [fills_map] at hr
        obtain ⟨q, hq, rfl⟩ := List.mem_map.mp hr
        have := (all q hq).2.1
        have := dps_mem hq
        omega
      have s1 : ∀ l : List D, (∀ r ∈ l, (fillD ms r).sz ≤ r.sz * Z) → szs (fills ms l) ≤ szs l * Z := fun l => by
        induction l with
        | nil => intro _; rw [fills]; exact Nat.zero_le _
        | cons r l ih =>
          intro h
          have a := h r List.mem_cons_self
          have b := ih fun q hq => h q (List.mem_cons_of_mem _ hq)
          rw [fills, szs, szs, Nat.add_mul]
          omega
      have s2 := s1 ps fun r hr => (all r hr).2.2
      refine ⟨⟨by show 3 ≤ 3; decide, trivial, w.2.2.1, ⟨by rw [fills_map, List.length_map]; exact w.2.2.2.1.1, Wds.mem.mpr fun r hr => ?_⟩, trivial⟩, ?_, ?_⟩
      · rw [fills_map] at hr
        obtain ⟨q, hq, rfl⟩ := List.mem_map.mp hr
        exact (all q hq).1
      · rw [dp_node, dp_node]
        omega
      · rw [sz_node, sz_node]
        have e : (1 + (1 + (x.sz + ((1 + szs ps) + 0)))) * Z = (3 + x.sz) * Z + szs ps * Z := by
          rw [← Nat.add_mul]
          congr 1
          omega
        have := Nat.mul_le_mul_left (3 + x.sz) z1
        omega
end Lc
end

section
/-! A loop within a comprehension. -/
namespace Lc
open PySem L2 PyProof.Rows PySem.Spec
theorem it_gen {J : It} {n : Nat} {G : Hp → Prop} {Y : Nat → Hp → V → Hp → Prop} (w : Walk J n G Y) {H0 : Hp} {Fin : Hp → Prop} {Body : (Hp → Prop) → V → Hp → Prop} (Pv : Nat → Hp → Prop) (h0 : Pv 0 H0) (hG : ∀ i H, i ≤ n → Pv i H → G H)
    (hs : ∀ i x H H', i < n → Pv i H → Y i H x H' → Body (Pv (i + 1)) x H') (hd : ∀ H, Pv n H → Fin H) :
    ∃ W : Nat → Nat → Hp → Prop, (∃ m, W 0 m H0) ∧ ∀ i m H, W i m H → (J.stop i H ∧ Fin H) ∨ (J.go i H ∧ ∃ Nx : Hp → Prop, (∀ H', Nx H' → ∃ m', m' < m ∧ W (i + 1) m' H') ∧ ∀ x H', J.yld i H x H' → Body Nx x H') := by
  refine ⟨fun i m H => m = n - i ∧ i ≤ n ∧ Pv i H, ⟨n, by simp, Nat.zero_le _, h0⟩, ?_⟩
  rintro i m H ⟨rfl, hi, p⟩
  have q := hG i H hi p
  by_cases hlt : i < n
  · exact .inr ⟨w.goes i H hlt q, Pv (i + 1), fun H' p' => ⟨n - (i + 1), by omega, rfl, hlt, p'⟩, fun x H' y => hs i x H H' hlt p (w.yields i H x H' hlt q y)⟩
  · have e : i = n := by omega
    subst e
    exact .inl ⟨w.stops H q, hd H p⟩
section
variable {X : Cx} {tg l : Expr} {tl : TE} {K : PySem.W.Frag}
/-- as pi_list, pi_tup, within a comprehension's block -/
theorem pi_listB (hk : X.K = K) (hl : PE X l tl) : PI X tg l (iList K tl) := hk ▸ pi_list hl
theorem pi_tupB (hk : X.K = K) (hl : PE X l tl) : PI X tg l (iTup K tl) := hk ▸ pi_tup hl
end
theorem r_lc2 {σ : L2.St} {H : Hp} {Q : VK} {wi wi1 : TI} {g g1 : TG} {tt tt1 : TT} {te : TE} {vs vs1 : List Nat} (h : wi σ H fun J H1 => ∀ D, H1 D = none → ∃ W : Nat → Nat → Hp → Prop, (∃ m, W 0 m (upd H1 D (.lst []))) ∧ ∀ i m H, W i m H →
  (J.stop i H ∧ Q (.ref D) H) ∨ (J.go i H ∧ ∃ Nx : Hp → Prop, (∀ H', Nx H' → ∃ m', m' < m ∧ W (i + 1) m' H') ∧ ∀ x H', J.yld i H x H' → g x (wipe σ vs) H' fun σ2 H2 => wipe σ2 vs = wipe σ vs ∧ tt σ2 H2 fun b H3 =>
    if b = true then wi1 σ2 H3 fun J1 H4 => ∃ W1 : Nat → Nat → Hp → Prop, (∃ m, W1 0 m H4) ∧ ∀ j k H, W1 j k H →
      (J1.stop j H ∧ Nx H) ∨ (J1.go j H ∧ ∃ Nx1 : Hp → Prop, (∀ H', Nx1 H' → ∃ k', k' < k ∧ W1 (j + 1) k' H') ∧ ∀ x H', J1.yld j H x H' → g1 x (wipe σ2 vs1) H' fun σ3 H5 => wipe σ3 vs1 = wipe σ2 vs1 ∧ tt1 σ3 H5 fun b H6 =>
        if b = true then te σ3 H6 fun y H7 => ∃ acc, H7 D = some (.lst acc) ∧ acc.length < sizeLine ∧ Nx1 (upd H7 D (.lst (acc ++ [y]))) else Nx1 H6)
    else Nx H3)) : tLc2 wi g tt wi1 g1 tt1 te vs vs1 σ H Q := h
end Lc
end

section
set_option maxHeartbeats 2000000
/-! list(zip(s, t)) of two tuples: the pairs are kept. -/
namespace LcZ
open PySem PySem.Spec PyProof.Rows L2
section
variable {P : Program} {w : World} {A : Around} {E : Value → Shared → Prop} {s : Shared}
/-- how far the zip is: nothing given out yet, or what it gave out is kept -/
structure Zs (h : Heap) (z ti to i j p q : Addr) (n : Nat) (xs ys : Array Value) : Prop where
  own : (IsZip h z ti to .none ∧ ∃ a b, IsPair h to a b) ∨ ∃ T f o, IsZipHeld h z ti to T f ∧ h.get? T = some o ∧ T ≠ z ∧ T ≠ to ∧ T ≠ i ∧ T ≠ j
  box : IsPair h ti (.ref i) (.ref j)
  one : h.IsTupleIter i p n
  two : h.IsTupleIter j q n
  fst : h.IsTuple p xs
  snd : h.IsTuple q ys
/-- the zip's own objects -/
def mine (z to i j c : Addr) : Prop := c = z ∨ c = to ∨ c = i ∨ c = j
theorem not_mine {z to i j c : Addr} (n : ¬ mine z to i j c) : c ≠ z ∧ c ≠ to ∧ c ≠ i ∧ c ≠ j :=
  ⟨fun e => n (.inl e), fun e => n (.inr (.inl e)), fun e => n (.inr (.inr (.inl e))), fun e => n (.inr (.inr (.inr e)))⟩
theorem Zs.move {h h' : Heap} {z ti to i j p q : Addr} {n : Nat} {xs ys : Array Value} (Z : Zs h z ti to i j p q n xs ys) (ap : ZipApart z ti to i j p q) (k : ∀ c o, h.get? c = some o → h'.get? c = some o) : Zs h' z ti to i j p q n xs ys where
  own := by
    rcases Z.own with ⟨a, x, y, b⟩ | ⟨T, f, o, a, b, r⟩
    · exact .inl ⟨k _ _ a, x, y, k _ _ b⟩
    · exact .inr ⟨T, f, o, k _ _ a, k _ _ b, r⟩
  box := k _ _ Z.box
  one := Z.one.at fun o e => k _ o e
  two := Z.two.at fun o e => k _ o e
  fst := by
    obtain ⟨o, e, r⟩ := Z.fst
    exact ⟨o, k _ _ e, r⟩
  snd := by
    obtain ⟨o, e, r⟩ := Z.snd
    exact ⟨o, k _ _ e, r⟩
theorem tup_at {h h' : Heap} {p : Addr} {xs : Array Value} (t : h.IsTuple p xs) (k : ∀ o, h.get? p = some o → h'.get? p = some o) : h'.IsTuple p xs := by
  obtain ⟨o, e, r⟩ := t
  exact ⟨o, k _ e, r⟩
/-- one pair more, where the last one is kept -/
theorem next_kept {z ti to T i j p q : Addr} {f : Bool} {oT : Obj} {n m : Nat} {xs ys : Array Value} {x y : Value} {Q : Value → Shared → Prop} (ap : ZipApart z ti to i j p q) (hz : IsZipHeld s.heap z ti to T f) (hT : s.heap.get? T = some oT)
    (hb : IsPair s.heap ti (.ref i) (.ref j)) (hi : s.heap.IsTupleIter i p n) (hj : s.heap.IsTupleIter j q m) (hp : s.heap.IsTuple p xs) (hq : s.heap.IsTuple q ys) (ex : xs[n]? = some x) (ey : ys[m]? = some y)
    (k : ∀ h', IsZipHeld h' z ti to T true → h'.IsTupleIter i p (n + 1) → h'.IsTupleIter j q (m + 1) → IsPair h' s.heap.objs.size x y → h'.objs.size = s.heap.objs.size + 1 →
      (∀ c o, c ≠ z → c ≠ i → c ≠ j → s.heap.get? c = some o → h'.get? c = some o) → Q (.ref s.heap.objs.size) { s with heap := h' }) :
    wpAny (model P w) A (Builtin.«zip.__next__» ⟨[.ref z], []⟩) (fun e s' => ∃ v, e = .done (.ret v) ∧ Q v s') E s := by
  show wpAny _ _ (field (.ref z) 2 >>= _) _ _ s
  refine wpAny_bind (wpAny_field hz rfl (x := Value.bool false) rfl ?_)
  show wpAny _ _ (field (.ref z) 3 >>= _) _ _ s
  refine wpAny_bind (wpAny_field hz rfl (x := Value.ref ti) rfl ?_)
  refine wpAny_bind (wpAny_seqItems hb rfl ?_)
  show wpAny _ _ (Builtin.SmallTypes.ownedTupleIsFree (.ref z) >>= _) _ _ s
  refine wpAny_bind (wpAny_tupleHeld_zip hz hT fun g1 z1 b1 => ?_)
  have k1 := b1.extBut
  simp only [Bool.false_eq_true, ↓reduceIte]
  refine wpAny_bind ?_
  rw [← Array.forIn_toList]
  simp only [List.forIn_cons, List.forIn_nil]
  refine wpAny_bind (wpAny_bind (wpAny_holding ?_))
  show wpAny _ _ (Builtin.SmallTypes.nextOf (.ref i) >>= _) _ _ { s with heap := g1 }
  refine wpAny_bind (RZ.nextOf_tuple_item (s := { s with heap := g1 }) (hi.extBut k1 ap.i1z) (hp.extBut k1 ap.l1z) ex fun g2 i2 b2 => wpAny_pure (wpAny_pure ?_))
  have k2 := b2.extBut
  refine wpAny_bind (wpAny_bind (wpAny_holding ?_))
  show wpAny _ _ (Builtin.SmallTypes.nextOf (.ref j) >>= _) _ _ { s with heap := g2 }
  refine wpAny_bind (RZ.nextOf_tuple_item (s := { s with heap := g2 }) ((hj.extBut k1 ap.i2z).extBut k2 ap.i12.symm) ((hq.extBut k1 ap.l2z).extBut k2 ap.l2i1) ey fun g3 j3 b3 => wpAny_pure (wpAny_pure (wpAny_pure ?_)))
  have k3 := b3.extBut
  show wpAny _ _ (newTuple [x, y] >>= _) _ _ { s with heap := g3 }
  refine wpAny_bind (wpAny_newTuple ?_)
  have size3 : g3.objs.size = s.heap.objs.size := by rw [b3.1, b2.1, b1.1]
  have zz : IsZipHeld g3 z ti to T true := k3 _ _ ap.i2z.symm (k2 _ _ ap.i1z.symm z1)
  have ii : g3.IsTupleIter i p (n + 1) := i2.extBut k3 ap.i12
  refine wpAny_pure ⟨_, rfl, ?_⟩
  show Q (.ref g3.objs.size) { s with heap := g3.push _ }
  have pp : IsPair (g3.push { cls := .type "tuple", data := .seq #[x, y] }) g3.objs.size x y := Heap.get?_push_size _ rfl
  have zsz : (g3.push { cls := .type "tuple", data := .seq #[x, y] }).objs.size = g3.objs.size + 1 := Heap.size_push ..
  rw [size3] at pp zsz ⊢
  refine k _ (Heap.get?_push_of_some _ zz) ?_ ?_ pp zsz ?_
  · exact ii.at fun o e => Heap.get?_push_of_some _ e
  · exact j3.at fun o e => Heap.get?_push_of_some _ e
  · intro c o c1 c2 c3 e
    exact Heap.get?_push_of_some _ (k3 _ _ c3 (k2 _ _ c2 (k1 _ _ c1 e)))
theorem end_kept {z ti to T i j p q : Addr} {f : Bool} {oT : Obj} {n m : Nat} {xs ys : Array Value} {Q : Fin → Shared → Prop} (calm : A.handled = none) (ap : ZipApart z ti to i j p q) (hz : IsZipHeld s.heap z ti to T f) (hT : s.heap.get? T = some oT)
    (hb : IsPair s.heap ti (.ref i) (.ref j)) (hi : s.heap.IsTupleIter i p n) (hj : s.heap.IsTupleIter j q m) (hp : s.heap.IsTuple p xs) (hq : s.heap.IsTuple q ys) (e : xs[n]? = none ∨ ys[m]? = none)
    (k : ∀ h' x, (∀ c o, c ≠ z → c ≠ i → c ≠ j → s.heap.get? c = some o → h'.get? c = some o) → (∃ o, h'.get? x = some o ∧ o.cls = .type "StopIteration") → E (.ref x) { s with heap := h' }) : wpAny (model P w) A (Builtin.«zip.__next__» ⟨[.ref z], []⟩) Q E s := by
  show wpAny _ _ (field (.ref z) 2 >>= _) _ _ s
  refine wpAny_bind (wpAny_field hz rfl (x := Value.bool false) rfl ?_)
  show wpAny _ _ (field (.ref z) 3 >>= _) _ _ s
  refine wpAny_bind (wpAny_field hz rfl (x := Value.ref ti) rfl ?_)
  refine wpAny_bind (wpAny_seqItems hb rfl ?_)
  show wpAny _ _ (Builtin.SmallTypes.ownedTupleIsFree (.ref z) >>= _) _ _ s
  refine wpAny_bind (wpAny_tupleHeld_zip hz hT fun g1 z1 b1 => ?_)
  have k1 := b1.extBut
  simp only [Bool.false_eq_true, ↓reduceIte]
  refine wpAny_bind ?_
  rw [← Array.forIn_toList]
  simp only [List.forIn_cons, List.forIn_nil]
  refine wpAny_bind (wpAny_bind (wpAny_holding ?_))
  show wpAny _ _ (Builtin.SmallTypes.nextOf (.ref i) >>= _) _ _ { s with heap := g1 }
  rcases Option.eq_none_or_eq_some xs[n]? with ex | ⟨x, ex⟩
  · refine wpAny_bind (RZ.nextOf_tuple_end (s := { s with heap := g1 }) calm (hi.extBut k1 ap.i1z) (hp.extBut k1 ap.l1z) ex fun g2 u k2 hu => ?_)
    exact k g2 u (fun c o c1 c2 _ q => k2 _ _ c2 (k1 _ _ c1 q)) hu
  · refine wpAny_bind (RZ.nextOf_tuple_item (s := { s with heap := g1 }) (hi.extBut k1 ap.i1z) (hp.extBut k1 ap.l1z) ex fun g2 i2 b2 => wpAny_pure (wpAny_pure ?_))
    have k2 := b2.extBut
    refine wpAny_bind (wpAny_bind (wpAny_holding ?_))
    show wpAny _ _ (Builtin.SmallTypes.nextOf (.ref j) >>= _) _ _ { s with heap := g2 }
    refine wpAny_bind (RZ.nextOf_tuple_end (s := { s with heap := g2 }) calm ((hj.extBut k1 ap.i2z).extBut k2 ap.i12.symm) ((hq.extBut k1 ap.l2z).extBut k2 ap.l2i1) ?_ fun g3 u k3 hu => ?_)
    · rcases e with e | e
      · rw [ex] at e
        cases e
      · exact e
    exact k g3 u (fun c o c1 c2 c3 q => k3 _ _ c3 (k2 _ _ c2 (k1 _ _ c1 q))) hu
/-- the next pair -/
theorem zs_item {z ti to i j p q : Addr} {n : Nat} {xs ys : Array Value} {x y : Value} {Q : Option Value → Shared → Prop} (ap : ZipApart z ti to i j p q) (Z : Zs s.heap z ti to i j p q n xs ys) (ex : xs[n]? = some x) (ey : ys[n]? = some y)
    (k : ∀ h', Zs h' z ti to i j p q (n + 1) xs ys → IsPair h' s.heap.objs.size x y → h'.objs.size = s.heap.objs.size + 1 → (∀ c o, ¬ mine z to i j c → s.heap.get? c = some o → h'.get? c = some o) → Q (some (.ref s.heap.objs.size)) { s with heap := h' }) :
    wpAny (model P w) A (pyNext (.ref z)) Q E s := by
  have big : ∀ c o, s.heap.get? c = some o → s.heap.objs.size ≠ c := fun c o e => Nat.ne_of_gt (Heap.lt_size e)
  have bi : s.heap.objs.size ≠ i := by
    obtain ⟨o, e, _⟩ := Z.one
    exact big _ _ e
  have bj : s.heap.objs.size ≠ j := by
    obtain ⟨o, e, _⟩ := Z.two
    exact big _ _ e
  have nti : ¬ mine z to i j ti := by
    rintro (e | e | e | e)
    · exact ap.TIz e
    · exact ap.TITO e
    · exact ap.TIi1 e
    · exact ap.TIi2 e
  have np : ¬ mine z to i j p := by
    rintro (e | e | e | e)
    · exact ap.l1z e
    · exact ap.l1TO e
    · exact ap.l1i1 e
    · exact ap.l1i2 e
  have nq : ¬ mine z to i j q := by
    rintro (e | e | e | e)
    · exact ap.l2z e
    · exact ap.l2TO e
    · exact ap.l2i1 e
    · exact ap.l2i2 e
  rcases Z.own with ⟨hz, a, b, ht⟩ | ⟨T, f, o, hz, hT, T1, T2, T3, T4⟩
  · refine RZ.pyNext_zipT_item ap hz Z.box ht Z.one Z.two Z.fst Z.snd ex ey fun h' z1 t1 i1 j1 p1 sz kp => ?_
    have kp' : ∀ c o, ¬ mine z to i j c → s.heap.get? c = some o → h'.get? c = some o := fun c o n e => by
      obtain ⟨n1, n2, n3, n4⟩ := not_mine n
      exact kp c o n1 n2 n3 n4 e
    exact k h' ⟨.inr ⟨_, false, _, z1, p1, big _ _ hz, big _ _ ht, bi, bj⟩, kp' _ _ nti Z.box, i1, j1, tup_at Z.fst fun o e => kp' _ o np e, tup_at Z.snd fun o e => kp' _ o nq e⟩ p1 sz kp'
  · have hy : s.TypeIs (.ref z) "zip" := ⟨_, hz, rfl⟩
    unfold pyNext
    refine wpAny_bind (wpAny_attempt (wpAny_callSpecial?_slot (name := Str.ofString "__next__") hy F.slot_zip_next (wpAny_call_entry F.slot_zip_next hy F.entry_zip_next ?_ (F.args_zip_next_1 _))))
    refine next_kept ap hz hT Z.box Z.one Z.two Z.fst Z.snd ex ey fun h' z1 i1 j1 p1 sz kp => wpAny_pure ?_
    have kp' : ∀ c o, ¬ mine z to i j c → s.heap.get? c = some o → h'.get? c = some o := fun c o n e => by
      obtain ⟨n1, n2, n3, n4⟩ := not_mine n
      exact kp c o n1 n3 n4 e
    exact k h' ⟨.inr ⟨T, true, o, z1, kp _ _ T1 T3 T4 hT, T1, T2, T3, T4⟩, kp' _ _ nti Z.box, i1, j1, tup_at Z.fst fun o e => kp' _ o np e, tup_at Z.snd fun o e => kp' _ o nq e⟩ p1 sz kp'
theorem zs_end {z ti to i j p q : Addr} {n : Nat} {xs ys : Array Value} {Q : Option Value → Shared → Prop} (calm : A.handled = none) (ap : ZipApart z ti to i j p q) (Z : Zs s.heap z ti to i j p q n xs ys) (e : xs[n]? = none ∨ ys[n]? = none)
    (k : ∀ h', (∀ c o, ¬ mine z to i j c → s.heap.get? c = some o → h'.get? c = some o) → Q none { s with heap := h' }) : wpAny (model P w) A (pyNext (.ref z)) Q E s := by
  rcases Z.own with ⟨hz, a, b, ht⟩ | ⟨T, f, o, hz, hT, T1, T2, T3, T4⟩
  · refine RZ.pyNext_zipT_end calm ap hz Z.box ht Z.one Z.two Z.fst Z.snd e fun h' kp => k h' fun c o n q => ?_
    obtain ⟨n1, n2, n3, n4⟩ := not_mine n
    exact kp c o n1 n2 n3 n4 q
  · have hy : s.TypeIs (.ref z) "zip" := ⟨_, hz, rfl⟩
    unfold pyNext
    refine wpAny_bind (wpAny_attempt (wpAny_callSpecial?_slot (name := Str.ofString "__next__") hy F.slot_zip_next (wpAny_call_entry F.slot_zip_next hy F.entry_zip_next ?_ (F.args_zip_next_1 _))))
    refine end_kept calm ap hz hT Z.box Z.one Z.two Z.fst Z.snd e fun h' u kp hu => ?_
    obtain ⟨ou, eu, cu⟩ := hu
    refine wpAny_bind (wpAny_isInstance (T := "StopIteration") (b := true) ⟨ou, eu, cu⟩ isSubtype_stop ?_)
    refine wpAny_pure (k h' fun c o n q => ?_)
    obtain ⟨n1, n2, n3, n4⟩ := not_mine n
    exact kp c o n1 n3 n4 q
end

/-- the pairs that were given out, in their order, above lo -/
structure Ps (h : Heap) (lo : Addr) (xs ys : Array Value) (as : List Addr) : Prop where
  rise : as.Pairwise fun a b => a < b
  above : ∀ a, a ∈ as → lo < a
  pair : ∀ (k : Nat) (a : Addr), as[k]? = some a → ∃ x y, xs[k]? = some x ∧ ys[k]? = some y ∧ IsPair h a x y
theorem Ps.nil {h : Heap} {lo : Addr} {xs ys : Array Value} : Ps h lo xs ys [] := ⟨.nil, fun _ m => (nomatch m), fun k a e => by simp at e⟩
theorem Ps.move {h h' : Heap} {lo : Addr} {xs ys : Array Value} {as : List Addr} (p : Ps h lo xs ys as) (k : ∀ c o, lo < c → h.get? c = some o → h'.get? c = some o) : Ps h' lo xs ys as :=
  ⟨p.rise, p.above, fun n a e => by
    obtain ⟨x, y, ex, ey, q⟩ := p.pair n a e
    exact ⟨x, y, ex, ey, k _ _ (p.above a (List.mem_of_getElem? e)) q⟩⟩
theorem Ps.snoc {h : Heap} {lo a : Addr} {xs ys : Array Value} {as : List Addr} {x y : Value} (p : Ps h lo xs ys as) (la : lo < a) (all : ∀ b, b ∈ as → b < a) (ex : xs[as.length]? = some x) (ey : ys[as.length]? = some y) (q : IsPair h a x y) : Ps h lo xs ys (as ++ [a]) := by
  refine ⟨List.pairwise_append.mpr ⟨p.rise, List.pairwise_singleton _ _, fun b hb c hc => ?_⟩, fun b hb => ?_, fun k b e => ?_⟩
  · cases List.mem_singleton.mp hc
    exact all b hb
  · rcases List.mem_append.mp hb with hb | hb
    · exact p.above b hb
    · cases List.mem_singleton.mp hb
      exact la
  · rcases Nat.lt_or_ge k as.length with lt | ge
    · rw [List.getElem?_append_left lt] at e
      exact p.pair k b e
    · rw [List.getElem?_append_right ge] at e
      have k0 : k - as.length = 0 := by
        have := (List.getElem?_eq_some_iff.mp e).1
        simp at this
        omega
      rw [k0] at e
      cases e
      have k1 : k = as.length := by omega
      subst k1
      exact ⟨x, y, ex, ey, q⟩
section
variable {P : Program} {w : World} {A : Around} {s : Shared} {R : Result → Shared → Prop}
abbrev lstO (acc : Array Value) (c : Nat) : Obj := { cls := .type "list", dict := none, data := .seq acc c, slots := #[] }
theorem zl_loop {S z ti to i j p q lo : Addr} {xs ys : Array Value} (calm : A.handled = none) (ap : ZipApart z ti to i j p q) (small : min xs.size ys.size ≤ sizeLine) (nS : ¬ mine z to i j S) (pS : p ≠ S) (qS : q ≠ S) (tS : ti ≠ S) (hlo : ∀ c, c = S ∨ mine z to i j c → c ≤ lo) (res : Value) {h1 : Heap}
    (fin : ∀ h' tk acc c as, (∀ b o, b ≠ S → ¬ mine z to i j b → h1.get? b = some o → h'.get? b = some o) → h'.get? S = some (lstO acc c) → Ps h' lo xs ys as → as.length = min xs.size ys.size → acc.toList = as.map Value.ref → R (.ok (.ret res)) { s with heap := h', toks := tk }) :
    ∀ (k n : Nat) (h : Heap) (tk c : Nat) (acc : Array Value) (as : List Addr), min xs.size ys.size = n + k → Zs h z ti to i j p q n xs ys → (∀ b o, b ≠ S → ¬ mine z to i j b → h1.get? b = some o → h.get? b = some o) → h.get? S = some (lstO acc c) → acc.toList = as.map Value.ref → as.length = n →
      Ps h lo xs ys as → (∀ b, b ∈ as → b < h.objs.size) → lo < h.objs.size → codeAny (model P w) A (.builtin "list.extend.loop" ⟨[.ref S, .ref z, res], []⟩) R { s with heap := h, toks := tk } := by
  have above : ∀ b, lo < b → b ≠ S ∧ ¬ mine z to i j b := fun b lb => ⟨fun e => absurd (hlo b (.inl e)) (Nat.not_le.mpr lb), fun e => absurd (hlo b (.inr e)) (Nat.not_le.mpr lb)⟩
  intro k
  induction k with
  | zero =>
    intro n h tk c acc as en Z kp hS ea la ps _ _
    refine codeAny_builtin PySem.F.entry_extend_loop ?_
    rw [Around.under_plainId PySem.F.plain_extend_loop _]
    show wpAny _ A.in1 (pyNext (.ref z) >>= _) _ _ { s with heap := h, toks := tk }
    refine wpAny_bind (zs_end (s := { s with heap := h, toks := tk }) (A := A.in1) calm ap Z ?_ fun h' k2 => ?_)
    · rcases Nat.le_total xs.size ys.size with l | l
      · exact .inl (Array.getElem?_eq_none (by omega))
      · exact .inr (Array.getElem?_eq_none (by omega))
    refine wpAny_pure (fin h' tk acc c as (fun b o b1 b2 e => k2 b o b2 (kp b o b1 b2 e)) (k2 S _ nS hS) (ps.move fun c o lc e => k2 c o (above c lc).2 e) (by omega) ea)
  | succ k ih =>
    intro n h tk c acc as en Z kp hS ea la ps bnd big
    have lx : n < xs.size := by omega
    have ly : n < ys.size := by omega
    have sz : acc.size = n := by rw [← Array.length_toList, ea, List.length_map, la]
    refine codeAny_builtin PySem.F.entry_extend_loop ?_
    rw [Around.under_plainId PySem.F.plain_extend_loop _]
    show wpAny _ A.in1 (pyNext (.ref z) >>= _) _ _ { s with heap := h, toks := tk }
    refine wpAny_bind (zs_item (s := { s with heap := h, toks := tk }) ap Z (Array.getElem?_eq_getElem lx) (Array.getElem?_eq_getElem ly) fun h' Z' pr sz' k2 => ?_)
    replace pr : IsPair h' h.objs.size xs[n] ys[n] := pr
    replace sz' : h'.objs.size = h.objs.size + 1 := sz'
    replace k2 : ∀ c o, ¬ mine z to i j c → h.get? c = some o → h'.get? c = some o := k2
    have hS' := k2 S _ nS hS
    have lS : S < h.objs.size := Heap.lt_size hS
    have oth : ∀ b o, b ≠ S → h'.get? b = some o → (h'.update S (Obj.mapSeq fun a => a.push (Value.ref h.objs.size))).get? b = some o := fun b o hb e => (Heap.get?_update_other _ _ (Ne.symm hb)).trans e
    have zS : ∀ b, mine z to i j b → b ≠ S := fun b m e => nS (e ▸ m)
    show wpAny _ A.in1 (updateSeq S (fun a => a.push (Value.ref h.objs.size)) >>= _) _ _ { s with heap := h', toks := tk }
    refine wpAny_bind ?_
    refine wpAny_updateSeq hS' rfl (wpAny_pure ⟨plainId_quiet PySem.F.plain_extend_loop _, ?_⟩) (by rw [sz]; omega) (by show (acc.push (Value.ref h.objs.size)).size ≤ sizeLine + 1; rw [Array.size_push, sz]; omega)
    have Z2 : Zs (h'.update S (Obj.mapSeq fun a => a.push (Value.ref h.objs.size))) z ti to i j p q (n + 1) xs ys := by
      have far : ∀ b o, h'.get? b = some o → b ≠ S → (h'.update S (Obj.mapSeq fun a => a.push (Value.ref h.objs.size))).get? b = some o := fun b o e hb => oth b o hb e
      refine ⟨?_, far _ _ Z'.box tS, Z'.one.at fun o e => far _ o e (zS i (.inr (.inr (.inl rfl)))), Z'.two.at fun o e => far _ o e (zS j (.inr (.inr (.inr rfl)))), tup_at Z'.fst fun o e => far _ o e pS, tup_at Z'.snd fun o e => far _ o e qS⟩
      rcases Z'.own with ⟨a, x, y, b⟩ | ⟨T, f, o, a, b, r⟩
      · exact .inl ⟨far _ _ a (zS z (.inl rfl)), x, y, far _ _ b (zS to (.inr (.inl rfl)))⟩
      · by_cases TS : T = S
        · subst TS
          exact .inr ⟨T, f, _, far _ _ a (zS z (.inl rfl)), Heap.get?_update_self _ hS' rfl, r⟩
        · exact .inr ⟨T, f, o, far _ _ a (zS z (.inl rfl)), far _ _ b TS, r⟩
    have sz2 : (h'.update S (Obj.mapSeq fun a => a.push (Value.ref h.objs.size))).objs.size = h.objs.size + 1 := by rw [Heap.size_update]; exact sz'
    have ps2 : Ps (h'.update S (Obj.mapSeq fun a => a.push (Value.ref h.objs.size))) lo xs ys (as ++ [h.objs.size]) := by
      refine Ps.snoc (x := xs[n]) (y := ys[n]) (ps.move fun c o lc e => oth _ _ (above c lc).1 (k2 c o (above c lc).2 e)) big bnd ?_ ?_ (oth _ _ (Nat.ne_of_gt lS) pr)
      · rw [la]
        exact Array.getElem?_eq_getElem lx
      · rw [la]
        exact Array.getElem?_eq_getElem ly
    refine ih (n + 1) _ tk _ (acc.push (Value.ref h.objs.size)) (as ++ [h.objs.size]) (by omega) Z2 (fun b o b1 b2 e => oth b o b1 (k2 b o b2 (kp b o b1 b2 e))) (Heap.get?_update_self _ hS' rfl) ?_ ?_ ps2 ?_ ?_
    · rw [Array.toList_push, ea, List.map_append]
      rfl
    · rw [List.length_append, la]
      rfl
    · intro b hb
      rw [sz2]
      rcases List.mem_append.mp hb with hb | hb
      · exact Nat.lt_succ_of_lt (bnd b hb)
      · cases List.mem_singleton.mp hb
        exact Nat.lt_succ_self _
    · rw [sz2]
      exact Nat.lt_succ_of_lt big
end
section
variable {P : Program} {w : World} {A : Around} {E : Value → Shared → Prop} {s : Shared}
theorem zip_no_len : typeLookup (.type "zip") "__len__" = pure none := am_miss_of_fast (by decide +kernel)
theorem zip_no_hint : typeLookup (.type "zip") "__length_hint__" = pure none := am_miss_of_fast (by decide +kernel)
theorem zip_hint {z : Addr} {Q : Bool → Shared → Prop} (t : s.TypeIs (.ref z) "zip") (h : Q true s) : wpAny (model P w) A (Builtin.List.listLengthHint (.ref z)) Q E s := by
  unfold Builtin.List.listLengthHint
  refine wpAny_bind (wpAny_specialOf t zip_no_len ?_)
  refine wpAny_ite_split (fun hab => absurd hab (by decide)) (fun _ => ?_)
  refine wpAny_ite_split (fun hab => absurd hab (by decide)) (fun _ => ?_)
  refine wpAny_bind (wpAny_specialOf t zip_no_hint ?_)
  exact wpAny_pure h
end

section
variable {P : Program} {w : World} {A : Around} {E : Value → Shared → Prop} {s : Shared}
/-- what the walks below are told of the places: the zip and its objects, the two tuples, the list -/
structure Far (h : Heap) (z ti to i j p q S : Addr) : Prop where
  ap : ZipApart z ti to i j p q
  nS : ¬ mine z to i j S
  pS : p ≠ S
  qS : q ≠ S
  tS : ti ≠ S
  low : ∀ c, mine z to i j c → c ≤ S
theorem zl_extend {R : Result → Shared → Prop} {S z ti to i j p q : Addr} {xs ys : Array Value} (calm : A.handled = none) (f : Far s.heap z ti to i j p q S) (small : min xs.size ys.size ≤ sizeLine) (Z : Zs s.heap z ti to i j p q 0 xs ys) (hz : IsZip s.heap z ti to .none) (res : Value) (c0 : Nat) (hS : s.heap.get? S = some (lstO #[] c0))
    (fin : ∀ h' tk acc c as, (∀ b o, b ≠ S → ¬ mine z to i j b → s.heap.get? b = some o → h'.get? b = some o) → h'.get? S = some (lstO acc c) → Ps h' S xs ys as → as.length = min xs.size ys.size → acc.toList = as.map Value.ref → R (.ok (.ret res)) { s with heap := h', toks := tk }) :
    wpAny (model P w) A.in1 (Builtin.List.listExtendWith (.ref S) (.ref z) res) (fun e s' => match e with | .done g => R (.ok g) s' | .again c => c.quiet = true ∧ codeAny (model P w) A c R s') (fun e s' => R (.error e) s') s := by
  have nz : S ≠ z := fun e => f.nS (.inl e)
  have top : S < s.heap.objs.size := Heap.lt_size hS
  have loop : ∀ (h : Heap) (c1 tk : Nat), (∀ b o, b ≠ S → s.heap.get? b = some o → h.get? b = some o) → h.objs.size = s.heap.objs.size → Zs h z ti to i j p q 0 xs ys → h.get? S = some (lstO #[] c1) →
      codeAny (model P w) A (.builtin "list.extend.loop" ⟨[.ref S, .ref z, res], []⟩) R { s with heap := h, toks := tk } := fun h c1 tk kp sz Z1 hS1 =>
    zl_loop (s := s) (h1 := s.heap) calm f.ap small f.nS f.pS f.qS f.tS (fun c m => by
      rcases m with rfl | m
      · exact Nat.le_refl _
      · exact f.low c m) res fin (min xs.size ys.size) 0 h tk c1 #[] [] (by omega) Z1 (fun b o b1 _ e => kp b o b1 e) hS1 rfl rfl .nil (fun b m => nomatch m) (by rw [sz]; exact top)
  unfold Builtin.List.listExtendWith
  refine wpAny_bind (wpAny_typeOf (T := "zip") ⟨_, hz, rfl⟩ ?_)
  have n1 : Builtin.List.listSameRef (.ref S) (.ref z) = false := by simp [Builtin.List.listSameRef, nz]
  have n2 : (Value.type "zip" == Value.type "list") = false := by decide
  have n3 : (Value.type "zip" == Value.type "tuple") = false := by decide
  simp only [n1, n2, n3, Bool.or_false, Bool.false_eq_true, ↓reduceIte]
  refine wpAny_bind (wpAny_pyIter_zip hz ?_)
  refine wpAny_bind (wpAny_holding (zip_hint ⟨_, hz, rfl⟩ ?_))
  refine wpAny_ite_split (fun _ => ?_) (fun no => absurd (by rw [Bool.true_or]) no)
  refine wpAny_bind (wpAny_rule ?_)
  refine wpAny_bind ?_
  show wpAny _ _ (updateSeq S (fun a => a.push .none) >>= fun _ => updateSeq S fun a => a.pop) _ _ s
  refine wpAny_bind (wpAny_updateSeq hS rfl ?_)
  have hS2 := Heap.get?_update_self (Obj.mapSeq fun a => a.push Value.none) hS rfl
  refine wpAny_updateSeq (hz := by seq_fits) hS2 rfl ?_
  have hS3 := Heap.get?_update_self (Obj.mapSeq fun a => a.pop) hS2 rfl
  have oth : ∀ b o, b ≠ S → s.heap.get? b = some o → ((s.heap.update S (Obj.mapSeq fun a => a.push Value.none)).update S (Obj.mapSeq fun a => a.pop)).get? b = some o := fun b o hb e =>
    (Heap.get?_update_other _ _ (Ne.symm hb)).trans ((Heap.get?_update_other _ _ (Ne.symm hb)).trans e)
  have zS : ∀ b, mine z to i j b → b ≠ S := fun b m e => f.nS (e ▸ m)
  refine wpAny_pure ⟨plainId_quiet PySem.F.plain_extend_loop _, loop _ _ _ oth (by rw [Heap.size_update, Heap.size_update]) ?_ hS3⟩
  refine ⟨.inl ⟨oth _ _ (zS z (.inl rfl)) hz, ?_⟩, oth _ _ f.tS Z.box, Z.one.at fun o e => oth _ o (zS i (.inr (.inr (.inl rfl)))) e, Z.two.at fun o e => oth _ o (zS j (.inr (.inr (.inr rfl)))) e, tup_at Z.fst fun o e => oth _ o f.pS e, tup_at Z.snd fun o e => oth _ o f.qS e⟩
  rcases Z.own with ⟨_, x, y, b⟩ | ⟨T, g, o, a, _⟩
  · exact ⟨x, y, oth _ _ (zS to (.inr (.inl rfl))) b⟩
  · exact absurd (hz.symm.trans a) (by simp [rawInt])
/-- list(z) of a zip of two tuples -/
theorem zl_call {z ti to i j p q : Addr} {xs ys : Array Value} {Q : Value → Shared → Prop} (calm : A.handled = none) (ap : ZipApart z ti to i j p q) (lp : p < s.heap.objs.size) (lq : q < s.heap.objs.size) (small : min xs.size ys.size ≤ sizeLine) (Z : Zs s.heap z ti to i j p q 0 xs ys) (hz : IsZip s.heap z ti to .none)
    (k : ∀ h' tk acc c as, (∀ b o, ¬ mine z to i j b → s.heap.get? b = some o → h'.get? b = some o) → h'.get? s.heap.objs.size = some (lstO acc c) → Ps h' s.heap.objs.size xs ys as → as.length = min xs.size ys.size → acc.toList = as.map Value.ref → Q (.ref s.heap.objs.size) { s with heap := h', toks := tk }) :
    wpAny (model P w) A (call (.type "list") [.ref z]) Q E s := by
  have lt : ∀ c, mine z to i j c → c < s.heap.objs.size := by
    rintro c (e | e | e | e)
    · rw [e]; exact Heap.lt_size hz
    · rw [e]
      rcases Z.own with ⟨_, x, y, b⟩ | ⟨T, g, o, a, _⟩
      · exact Heap.lt_size b
      · exact absurd (hz.symm.trans a) (by simp [rawInt])
    · rw [e]
      obtain ⟨o, q, _⟩ := Z.one
      exact Heap.lt_size q
    · rw [e]
      obtain ⟨o, q, _⟩ := Z.two
      exact Heap.lt_size q
  refine callType_codes (Q₁ := fun u s1 => u = .ref s.heap.objs.size ∧ s1 = { s with heap := s.heap.push (lstO #[] 0) }) PySem.F.called_list (PySem.F.typeCall_list_1 _) PySem.F.entry_list_init (code_list_new _ ⟨rfl, rfl⟩) fun u s1 e => ?_
  obtain ⟨rfl, rfl⟩ := e
  have hS : (s.heap.push (lstO #[] 0)).get? s.heap.objs.size = some (lstO #[] 0) := Heap.get?_push_size _ rfl
  refine ⟨⟨_, hS, rfl⟩, PySem.F.args_list_init_2 _ _, ?_⟩
  have far : Far s.heap z ti to i j p q s.heap.objs.size := ⟨ap, fun m => Nat.lt_irrefl _ (lt _ m), Nat.ne_of_lt lp, Nat.ne_of_lt lq, Nat.ne_of_lt (Heap.lt_size Z.box), fun c m => Nat.le_of_lt (lt c m)⟩
  show wpAny _ _ (do let old ← Builtin.List.listItems (.ref s.heap.objs.size); Builtin.List.listUpdate (.ref s.heap.objs.size) (fun _ => #[]); letGo old.toList.reverse; Builtin.List.listExtendWith (.ref s.heap.objs.size) (.ref z) .none) _ _ _
  refine wpAny_bind ?_
  unfold Builtin.List.listItems
  refine wpAny_bind (wpAny_seqItems hS rfl (wpAny_pure ?_))
  show wpAny _ _ (updateSeq s.heap.objs.size (fun _ => #[]) >>= fun _ => letGo (#[] : Array Value).toList.reverse >>= fun _ => Builtin.List.listExtendWith (.ref s.heap.objs.size) (.ref z) .none) _ _ _
  refine wpAny_bind (wpAny_updateSeq hS rfl ?_)
  have hS2 := Heap.get?_update_self (Obj.mapSeq fun _ => (#[] : Array Value)) hS rfl
  have oth : ∀ b o, s.heap.get? b = some o → ((s.heap.push (lstO #[] 0)).update s.heap.objs.size (Obj.mapSeq fun _ => (#[] : Array Value))).get? b = some o := fun b o e =>
    (Heap.get?_update_other _ _ (Nat.ne_of_gt (Heap.lt_size e))).trans (Heap.get?_push_of_some _ e)
  refine wpAny_bind (wpAny_letGo ?_)
  refine zl_extend (S := s.heap.objs.size) (xs := xs) (ys := ys) (s := { s with heap := (s.heap.push (lstO #[] 0)).update s.heap.objs.size (Obj.mapSeq fun _ => (#[] : Array Value)) }) (A := A.in1) calm ⟨far.ap, far.nS, far.pS, far.qS, far.tS, far.low⟩ small (Z.move ap oth) (oth _ _ hz) .none _ hS2 fun h' tk acc c as kp hS' ps la ea => ?_
  exact ⟨rfl, k h' tk acc c as (fun b o m e => kp b o (Nat.ne_of_lt (Heap.lt_size e)) m (oth b o e)) hS' ps la ea⟩
end

/-! ### the rule -/
def mixH (N H : Hp) : Hp := fun b => match N b with
  | some o => some o
  | none => H b
theorem mix_none {N H : Hp} {b : Addr} (e : N b = none) : mixH N H b = H b := by
  unfold mixH
  rw [e]
theorem mix_some {N H : Hp} {b : Addr} {o : HO} (e : N b = some o) : mixH N H b = some o := by
  unfold mixH
  rw [e]
section
variable {X : Cx} {pins : List (Addr × Obj)} {σ : L2.St} {H : Hp} {s : Shared}
/-- several new objects at once -/
theorem laid_all {h' : Heap} {tk : Nat} (I : Inv X pins σ H s) (kp : ∀ b o, s.heap.get? b = some o → h'.get? b = some o) (N : Hp) (young : ∀ b o, N b = some o → s.heap.objs.size ≤ b) (ok : ∀ b o, N b = some o → ObjOk X.prog X.w (mixH N H) h' b o) :
    Inv X pins σ (mixH N H) { s with heap := h', toks := tk } ∧ ∀ b o, H b = some o → mixH N H b = some o := by
  have old : ∀ b, b < s.heap.objs.size → N b = none := fun b lt => by
    cases e : N b with
    | none => rfl
    | some o => exact absurd (young b o e) (Nat.not_le.mpr lt)
  have kH : ∀ b o, H b = some o → mixH N H b = some o := fun b o e => (mix_none (old b (I.hok b o e).lt)).trans e
  refine ⟨I.call' (ch := []) rfl ⟨fun b o e _ _ _ => kp b o e, fun b o e _ _ _ => ⟨o.slots, kp b o e⟩, fun b o e n _ => (mix_none (old b (Heap.lt_size e))).trans n, fun b o e _ => ⟨o, kp b o e⟩, fun b xs e => kH b _ e, fun b o u e => kH b _ e, fun b ps e => ⟨#[], by rw [kH b _ e]; simp⟩⟩ (fun b u e => ?_) I.bare (fun b m => nomatch m), kH⟩
  cases en : N b with
  | some o =>
    rw [mix_some en] at e
    cases e
    exact ok b u en
  | none =>
    rw [mix_none en] at e
    exact (I.hok b u e).stay (fun d v _ y => kp d v y) (fun d y => kH d _ y) fun d xs y => kH d _ y
/-- the new tuples -/
def pairsN : List Addr → List V → List V → Hp
  | a :: as, x :: xs, y :: ys => upd (pairsN as xs ys) a (.tup [x, y])
  | _, _, _ => fun _ => none
theorem pairsN_in : ∀ {as : List Addr} {xs ys : List V} {b : Addr} {o : HO}, pairsN as xs ys b = some o → ∃ (k : Nat) (x y : V), as[k]? = some b ∧ xs[k]? = some x ∧ ys[k]? = some y ∧ o = .tup [x, y]
  | [], _, _, _, _, e => by cases e
  | _ :: _, [], _, _, _, e => by cases e
  | _ :: _, _ :: _, [], _, _, e => by cases e
  | a :: as, x :: xs, y :: ys, b, o, e => by
    by_cases z : b = a
    · subst z
      have e' : (some (HO.tup [x, y]) : Option HO) = some o := upd_same.symm.trans e
      cases e'
      exact ⟨0, x, y, rfl, rfl, rfl, rfl⟩
    · have e' : pairsN as xs ys b = some o := (upd_ne z).symm.trans e
      obtain ⟨k, u, v, h1, h2, h3, h4⟩ := pairsN_in e'
      exact ⟨k + 1, u, v, by simpa using h1, by simpa using h2, by simpa using h3, h4⟩
theorem pairsN_at : ∀ {as : List Addr} {xs ys : List V} {k : Nat} {b : Addr} {x y : V}, as.Nodup → as[k]? = some b → xs[k]? = some x → ys[k]? = some y → pairsN as xs ys b = some (.tup [x, y])
  | [], _, _, _, _, _, _, _, e, _, _ => by simp at e
  | _ :: _, [], _, _, _, _, _, _, _, e, _ => by simp at e
  | _ :: _, _ :: _, [], _, _, _, _, _, _, _, e => by simp at e
  | a :: as, x :: xs, y :: ys, 0, b, u, v, nd, e1, e2, e3 => by
    cases e1
    cases e2
    cases e3
    exact upd_same
  | a :: as, x :: xs, y :: ys, k + 1, b, u, v, nd, e1, e2, e3 => by
    have nd' := List.nodup_cons.mp nd
    have e1' : as[k]? = some b := by simpa using e1
    have ne : b ≠ a := fun z => nd'.1 (z ▸ List.mem_of_getElem? e1')
    exact (upd_ne ne).trans (pairsN_at nd'.2 e1' (by simpa using e2) (by simpa using e3))
theorem refs_vals : ∀ as : List Addr, Vals (as.map V.ref) (as.map Value.ref)
  | [] => .nil
  | _ :: as => .cons rfl (refs_vals as)
end
def tListZip (K : PySem.W.Frag) (ta : TA) : TE := fun σ H Q => ta σ H fun vs H1 => ∃ (a b : Addr) (xs ys : List V), vs = [.ref a, .ref b] ∧ SqT K H1 a xs ∧ SqT K H1 b ys ∧
  ∀ (H' : Hp) (L : Addr) (ts : List Addr), (∀ c o, H1 c = some o → H' c = some o) → H1 L = none → H' L = some (.lst (ts.map V.ref)) → ts.length = min xs.length ys.length →
    (∀ (k : Nat) (t : Addr) (x y : V), ts[k]? = some t → xs[k]? = some x → ys[k]? = some y → H' t = some (.tup [x, y])) → Q (.ref L) H'
theorem pe_listZip {X : Cx} {e e2 : Expr} {ta : TA} {p p2 q pos : Pos} (calm : X.calm = true) (hg : Gl X "list") (hm : X.mg "list" = none) (hg2 : Gl X "zip") (hm2 : X.mg "zip" = none) (ha : PA X [e, e2] ta)
    (hs : starEach [e, e2] X.env = (false, eval e X.env) :: starEach [e2] X.env := by rfl) (hpl : (backTo q (starEach [e2] X.env)).any (·.1) = false := by rfl)
    (na : starEach [.Call (.Name "zip" p2) [e, e2] [] q] X.env = (false, eval (.Call (.Name "zip" p2) [e, e2] [] q) X.env) :: starEach [] X.env := by rfl) :
    PE X (.Call (.Name "list" p) [.Call (.Name "zip" p2) [e, e2] [] q] [] pos) (tListZip X.K ta) := by
  refine ⟨fun pins s σ H Q I h => ?_⟩
  refine Call_ (ld_blt I hg hm PyProof.Rows.boot_list ?_)
  refine PyProof.Rows.callWith_type1 (PyProof.Rows.args_cons ?_ na) na rfl
  refine Call_ (ld_blt I hg2 hm2 PyProof.Rows.boot_zip (PyProof.Rows.callWith_type1 (thn (ha.run q pins s σ H _ I h) fun us s1 ⟨vs, H1, I1, r1, q1⟩ => ?_) hs hpl))
  obtain ⟨a, b, xs, ys, rfl, hx, hy, q1⟩ := q1
  obtain ⟨u, v, rfl, ru, rv⟩ : ∃ u v, us = [u, v] ∧ RelV (.ref a) u ∧ RelV (.ref b) v := by
    cases r1 with
    | cons r rr =>
      cases rr with
      | cons r2 rr =>
        cases rr
        exact ⟨_, _, rfl, r, r2⟩
  cases ru
  cases rv
  obtain ⟨ix, vx, tx, zx⟩ := I1.tuple hx
  obtain ⟨iy, vy, ty, zy⟩ := I1.tuple hy
  have lx : xs.length = ix.length := vx.length
  have ly : ys.length = iy.length := vy.length
  have la : a < s1.heap.objs.size := by
    obtain ⟨o, e, _⟩ := tx
    exact Heap.lt_size e
  have lb : b < s1.heap.objs.size := by
    obtain ⟨o, e, _⟩ := ty
    exact Heap.lt_size e
  refine RZ.call_zipT (show s1.heap.IsTuple a ix.toArray from tx) (show s1.heap.IsTuple b iy.toArray from ty) fun g hz hti hto hi hj sz kp => ?_
  refine PyProof.Rows.args_nil ?_
  have ap := PySem.W.ktu_apart s1.heap.objs.size a b la lb
  refine zl_call (s := { s1 with heap := g }) (xs := ix.toArray) (ys := iy.toArray) (I1.ok.hd calm) ap (Nat.lt_of_lt_of_le la (by show s1.heap.objs.size ≤ g.objs.size; omega)) (Nat.lt_of_lt_of_le lb (by show s1.heap.objs.size ≤ g.objs.size; omega)) ?_ ⟨.inl ⟨hz, _, _, hto⟩, hti, hi, hj, tup_at tx fun o e => kp _ o e, tup_at ty fun o e => kp _ o e⟩ hz fun h' tk acc c as k2 hS ps las ea => ?_
  · rw [List.size_toArray, List.size_toArray, ← lx, ← ly]
    exact Nat.le_trans (Nat.min_le_left _ _) (by omega)
  rw [List.size_toArray, List.size_toArray, ← lx, ← ly] at las
  have eg : g.objs.size = s1.heap.objs.size + 5 := sz
  have k3 : ∀ c o, s1.heap.get? c = some o → h'.get? c = some o := fun c o e => k2 c o (fun m => by
    have lc := Heap.lt_size e
    rcases m with m | m | m | m <;> (rw [m] at lc; exact absurd lc (Nat.not_lt.mpr (by first | exact Nat.le_add_right _ _ | exact Nat.le_refl _)))) (kp c o e)
  have nd : as.Nodup := ps.rise.imp fun {a b} (l : a < b) => Nat.ne_of_lt l
  have nS : g.objs.size ∉ as := fun m => Nat.lt_irrefl _ (ps.above _ m)
  let N : Hp := upd (pairsN as xs ys) g.objs.size (.lst (as.map V.ref))
  have young : ∀ b o, N b = some o → s1.heap.objs.size ≤ b := fun b o e => by
    by_cases z : b = g.objs.size
    · rw [z, eg]
      exact Nat.le_add_right _ _
    · have e' : pairsN as xs ys b = some o := (upd_ne z).symm.trans e
      obtain ⟨k, x, y, e1, _⟩ := pairsN_in e'
      have := ps.above b (List.mem_of_getElem? e1)
      rw [show (Heap.objs g).size = s1.heap.objs.size + 5 from sz] at this
      exact Nat.le_of_lt (Nat.lt_of_le_of_lt (Nat.le_add_right _ _) this)
  obtain ⟨J, kH⟩ := laid_all (h' := h') (tk := tk) I1 k3 N young fun b o e => by
    by_cases z : b = g.objs.size
    · subst z
      have e' : (some (HO.lst (as.map V.ref)) : Option HO) = some o := upd_same.symm.trans e
      cases e'
      refine ⟨by rw [List.length_map, las]; exact Nat.le_trans (Nat.min_le_left _ _) (by omega), acc.toList, c, by rw [ea]; exact refs_vals as, ?_⟩
      rw [Array.toArray_toList]
      exact hS
    · have e' : pairsN as xs ys b = some o := (upd_ne z).symm.trans e
      obtain ⟨k, x, y, e1, e2, e3, rfl⟩ := pairsN_in e'
      obtain ⟨u, v, f1, f2, f3⟩ := ps.pair k b e1
      obtain ⟨u', hu, ru⟩ := vx.get e2
      obtain ⟨v', hv, rv⟩ := vy.get e3
      have f1' : ix[k]? = some u := by simpa using f1
      have f2' : iy[k]? = some v := by simpa using f2
      rw [hu] at f1'
      rw [hv] at f2'
      cases f1'
      cases f2'
      exact ⟨by show 2 ≤ sizeLine; decide, [u, v], .cons ru (.cons rv .nil), ⟨_, f3, rfl, _, rfl⟩⟩
  refine ⟨.ref g.objs.size, _, J, rfl, q1 _ g.objs.size as kH (I1.hok.fresh (by omega)) (mix_some upd_same) las fun k t x y e1 e2 e3 => mix_some ?_⟩
  have e0 : N t = pairsN as xs ys t := upd_ne fun z => nS (by rw [← z]; exact List.mem_of_getElem? e1)
  exact e0.trans (pairsN_at nd e1 e2 e3)
end LcZ
end

section
/-! Stacks of pairs of data. -/
namespace Lc
open PySem L2 PyProof.Rows PySem.Spec
variable [Lc.Tbs]
def prD (p : D × D) : D := .tup [p.1, p.2]
def stZ (S : List (D × D)) : Nat := (S.map fun p => p.1.sz).sum
theorem stZ_app (a b : List (D × D)) : stZ (a ++ b) = stZ a + stZ b := by unfold stZ; rw [List.map_append, List.sum_append]
theorem stZ_len : ∀ S : List (D × D), S.length ≤ stZ S
  | [] => Nat.le_refl _
  | p :: S => by
    have := stZ_len S
    have h := p.1.sz_pos
    have e : stZ (p :: S) = p.1.sz + stZ S := rfl
    rw [e, List.length_cons]
    omega
theorem stZ_zip : ∀ {ps qs : List D}, ps.length = qs.length → stZ (ps.zip qs) = szs ps
  | [], [], _ => rfl
  | [], _ :: _, h => by cases h
  | _ :: _, [], h => by cases h
  | p :: ps, q :: qs, h => by
    have ih := stZ_zip (ps := ps) (qs := qs) (Nat.succ.inj h)
    show p.sz + stZ (ps.zip qs) = _
    rw [ih, szs]
/-- what list(zip(s, t)) gives -/
theorem dts_zip {H : Hp} : ∀ {ds es : List D} {xs ys : List V} {ts : List Addr}, Dts H ds xs → Dts H es ys → ds.length = es.length → ts.length = min xs.length ys.length → (∀ (k : Nat) (t : Addr) (x y : V), ts[k]? = some t → xs[k]? = some x → ys[k]? = some y → H t = some (.tup [x, y])) → Dts H ((ds.zip es).map prD) (ts.map V.ref)
  | [], [], xs, ys, ts, h1, h2, _, l, _ => by
    rw [show xs = [] from h1, show ys = [] from h2] at l
    have : ts = [] := List.eq_nil_of_length_eq_zero l
    subst this
    rfl
  | [], _ :: _, _, _, _, _, _, l, _, _ => by cases l
  | _ :: _, [], _, _, _, _, _, l, _, _ => by cases l
  | d :: ds, e :: es, xs, ys, ts, h1, h2, l, lt, h => by
    obtain ⟨x, xr, rfl, a1, a2⟩ := h1
    obtain ⟨y, yr, rfl, b1, b2⟩ := h2
    cases ts with
    | nil => simp at lt
    | cons t ts =>
      have h0 := h 0 t x y rfl rfl rfl
      refine Dts.cons ⟨t, [x, y], rfl, h0, Dts.cons a1 (Dts.cons b1 Dts.nil)⟩ (dts_zip a2 b2 (Nat.succ.inj l) (by simpa [Nat.succ_min_succ] using lt) fun k t' x' y' e1 e2 e3 => h (k + 1) t' x' y' (by simpa using e1) (by simpa using e2) (by simpa using e3))
theorem r_lz {K : PySem.W.Frag} {ta : TA} {σ : L2.St} {H : Hp} {Q : VK} (h : ta σ H fun vs H1 => ∃ (a b : Addr) (xs ys : List V), vs = [.ref a, .ref b] ∧ SqT K H1 a xs ∧ SqT K H1 b ys ∧ ∀ (H' : Hp) (L : Addr) (ts : List Addr), (∀ c o, H1 c = some o → H' c = some o) → H1 L = none → H' L = some (.lst (ts.map V.ref)) → ts.length = min xs.length ys.length →
    (∀ (k : Nat) (t : Addr) (x y : V), ts[k]? = some t → xs[k]? = some x → ys[k]? = some y → H' t = some (.tup [x, y])) → Q (.ref L) H') : LcZ.tListZip K ta σ H Q := h
theorem kp_ext {H H' : Hp} (h : ∀ c o, H c = some o → H' c = some o) : Kp [] H H' := ⟨fun c o _ e => .mk (h c o e), fun t => t.ext h⟩
end Lc
end

section
/-! Small sets of keys that stand in the heap (pairs of a text and a number): at most four, so the table stays at eight places. -/
namespace Lc
open PySem L2 PyProof.Rows PySem.Spec
section
variable {P : Program} {w : World} {κ : Type} [DecidableEq κ]
/-- what a set asks of such keys besides hash and == -/
structure Mild (kd : HeapKind P w κ) : Prop where
  cls : ∀ {A : Around} {E : Value → Shared → Prop} {s : Shared} {k : κ} {a : Addr} {Q : Bool → Shared → Prop}, kd.is s.heap k a → Q false s → wpAny (model P w) A (ofAClassStatement 8 (.ref a)) Q E s
  byv : ∀ {A : Around} {E : Value → Shared → Prop} {s : Shared} {k : κ} {a : Addr} {Q : Bool → Shared → Prop}, kd.is s.heap k a → (∀ b, Q b s) → wpAny (model P w) A (hashByValue 8 (.ref a)) Q E s
  stay : ∀ {h h' : Heap} {k : κ} {a d : Addr} {o : Obj} {es : Array (Int × Value)} {ep : Nat} {t : SetTable}, kd.is h k a → h.get? d = some o → o.data = .set es ep t → Heap.SameBut d h h' → kd.is h' k a
  keep : ∀ {h h' : Heap} {k : κ} {a : Addr}, kd.is h k a → (∀ c o, h.get? c = some o → h'.get? c = some o) → kd.is h' k a
structure Sat (kd : HeapKind P w κ) (h : Heap) (S : Addr) (L : List (Addr × κ)) (es : Array (Int × Value)) (ep : Nat) (t : SetTable) : Prop where
  obj : ∃ o, h.get? S = some o ∧ o.ExactSet ∧ o.data = .set es ep t
  ents : es.toList = L.map fun p => (kd.hash p.2, Value.ref p.1)
  tab : TabOk t (L.map fun p => kd.hash p.2)
  nd : (L.map (·.2)).Nodup
  keys : ∀ p ∈ L, kd.is h p.2 p.1
  msk : t.mask = 7
  few : L.length ≤ 4
variable {kd : HeapKind P w κ} {A : Around} {E : Value → Shared → Prop} {s : Shared} {S : Addr} {L : List (Addr × κ)} {es : Array (Int × Value)} {ep : Nat} {t : SetTable}
theorem Sat.len (R : Sat kd s.heap S L es ep t) : es.size = L.length := by
  rw [← Array.length_toList, R.ents, List.length_map]
theorem Sat.plen (R : Sat kd s.heap S L es ep t) : t.place.size = L.length := by
  have := R.tab.sz
  rw [List.length_map] at this
  exact this
theorem Sat.fit (R : Sat kd s.heap S L es ep t) : t.fits es.size = true := by
  have a := R.plen
  have b := R.few
  have c := R.msk
  unfold SetTable.fits SetTable.fill
  rw [R.tab.dm, R.len, a, c]
  simp
  omega
theorem Sat.ent (R : Sat kd s.heap S L es ep t) {i : Nat} {p : Addr × κ} (h : L[i]? = some p) : es[i]? = some (kd.hash p.2, Value.ref p.1) := by
  have e : es.toList[i]? = some (kd.hash p.2, Value.ref p.1) := by
    rw [R.ents, List.getElem?_map, h]
    rfl
  rwa [Array.getElem?_toList] at e
theorem Sat.odd (R : Sat kd s.heap S L es ep t) : ¬ t.gaveWay = true := by
  unfold SetTable.gaveWay
  rw [R.msk]
  decide
theorem Sat.stay (M : Mild kd) {h h' : Heap} (R : Sat kd h S L es ep t) (ks : ∀ c o, h.get? c = some o → h'.get? c = some o) : Sat kd h' S L es ep t := by
  obtain ⟨o, ho, hx, hd⟩ := R.obj
  exact ⟨⟨o, ks S o ho, hx, hd⟩, R.ents, R.tab, R.nd, fun p hp => M.keep (R.keys p hp) ks, R.msk, R.few⟩
/-- to ask one key after another shows nothing -/
theorem quiet_all (M : Mild kd) {x : Addr} {k : κ} (hx : kd.is s.heap k x) {Q : Bool → Shared → Prop} : ∀ ys : List Value, (∀ y ∈ ys, ∃ k' c, y = Value.ref c ∧ kd.is s.heap k' c) → Q false s → wpAny (model P w) A (searchCouldBeSeen (.ref x) ys) Q E s := fun ys all q => by
  unfold searchCouldBeSeen
  refine wpAny_bind (wpAny_forIn_list _ (fun left acc s1 => acc.1 = none ∧ s1 = s ∧ ∀ y ∈ left, ∃ k' c, y = Value.ref c ∧ kd.is s.heap k' c) _ (fun y left acc s1 h1 => ?_) (fun acc s1 h1 => ?_) ys _ ⟨rfl, rfl, all⟩)
  · obtain ⟨ha, rfl, hl⟩ := h1
    obtain ⟨k', c, rfl, hc⟩ := hl y List.mem_cons_self
    have tl : ∀ y ∈ left, ∃ k' c, y = Value.ref c ∧ kd.is s1.heap k' c := fun y hy => hl y (List.mem_cons_of_mem _ hy)
    dsimp only
    cases hv : (x == c || (carriedByValue (.ref x) && carriedByValue (.ref c))) with
    | true => exact wp_if_pos rfl (wpAny_pure ⟨rfl, rfl, tl⟩)
    | false =>
      refine wp_if_neg Bool.false_ne_true (wpAny_bind (kd.quiet hx ?_))
      refine wp_if_neg (by decide) (wpAny_bind (kd.quiet hc ?_))
      refine wp_if_neg (by decide) (wpAny_bind (M.cls hx ?_))
      refine wp_if_neg (by decide) (wpAny_bind (M.cls hc ?_))
      exact wp_if_neg (by decide) (wpAny_pure ⟨rfl, rfl, tl⟩)
  · obtain ⟨acc1, acc2⟩ := acc
    obtain ⟨ha, rfl, _⟩ := h1
    cases ha
    exact wpAny_pure q
/-- a probe's step leaves what it remembers of dead places -/
theorem nth_dead (m : Nat) : ∀ (n : Nat) (p : SetTable.Probe), (nth m p n).dummy = p.dummy
  | 0, p => rfl
  | n + 1, p => by
    have one : (adv m p).dummy = p.dummy := by
      unfold adv
      split <;> rfl
    show (nth m (adv m p) n).dummy = p.dummy
    rw [nth_dead m n, one]
/-- the search from the c-th step of its way on, which ends at the K-th, an empty place -/
theorem look (M : Mild kd) (R : Sat kd s.heap S L es ep t) {x : Addr} {k : κ} (hx : kd.is s.heap k x) (ru : kd.room A) {K : Nat} (kf : K < 10 * SetTable.turns t.mask) (free : way t.mask (kd.hash k) K ∉ t.place.toList)
    (used : ∀ c, c < K → way t.mask (kd.hash k) c ∈ t.place.toList) {Q : SetFound → Shared → Prop} (yes : k ∈ L.map (·.2) → Q (.there none) s) (no : k ∉ L.map (·.2) → Q (.free (way t.mask (kd.hash k) K) false) s) (f : Nat) :
    ∀ (c : Nat) (st : Option SetTable.Probe), K < c + f → c ≤ K → st.getD (t.probeStart (kd.hash k)) = nth t.mask (t.probeStart (kd.hash k)) c →
      (∀ (i : Nat) (p : Addr × κ), L[i]? = some p → p.2 = k → ∃ c', (c ≤ c' ∧ c' < K) ∧ t.place.toList[i]? = some (way t.mask (kd.hash k) c')) → wpAny (model P w) A (setSearchFrom S (.ref x) (kd.hash k) true f st) Q E s := by
  induction f with
  | zero => intro c st h1 h2; omega
  | succ f ih =>
    intro c st h1 h2 hst here
    obtain ⟨ob, hob, hxs, hdt⟩ := R.obj
    obtain ⟨h, eh⟩ : ∃ h, kd.hash k = h := ⟨_, rfl⟩
    rw [eh] at free used no hst here ⊢
    obtain ⟨b, eb⟩ : ∃ b, t.probeStart h = b := ⟨_, rfl⟩
    have wy : ∀ q, way t.mask h q = (nth t.mask b q).j := fun q => by rw [← eb]; rfl
    rw [eb] at hst
    have far : ∀ q, nth t.mask (nth t.mask b c) q = nth t.mask b (c + q) := fun q => (nth_add t.mask c b q).symm
    have live : (nth t.mask b c).dummy = none := by rw [nth_dead, ← eb]; rfl
    have spec := go_spec t R.tab.ris R.tab.dm (fun i => (es[i]?.map (·.1)).getD 0) h (10 * SetTable.turns t.mask) (K - c) (nth t.mask b c) live (by omega)
      (fun q hq => by rw [far, ← wy]; exact used _ (by omega)) (by rw [far, ← wy, show c + (K - c) = K by omega]; exact free)
    have ha : ∀ (i : Nat) (p : Addr × κ), L[i]? = some p → (es[i]?.map (·.1)).getD 0 = kd.hash p.2 := fun i p hp => by
      rw [R.ent hp]
      rfl
    rw [setSearchFrom_succ]
    refine wpAny_bind (wpAny_setState_of hob hdt R.fit ?_)
    dsimp only
    rw [eb]
    refine wp_if_neg R.odd ?_
    try refine wpAny_bind (wpAny_pure ?_)
    have pg : ∀ p, t.probe (fun i => (es[i]?.map (·.1)).getD 0) h p = SetTable.probe.go t (fun i => (es[i]?.map (·.1)).getD 0) h (10 * SetTable.turns t.mask) p := fun p => rfl
    rcases spec with ⟨q, i, hq, hi, hh, fresh, go⟩ | ⟨fresh, go⟩
    · rw [pg, hst, go]
      dsimp only
      rw [far, ← wy] at hi
      rw [far, far, ← wy]
      have il : i < L.length := by
        have z := (List.getElem?_eq_some_iff.mp hi).1
        rw [Array.length_toList, R.plen] at z
        exact z
      obtain ⟨p, hp⟩ : ∃ p, L[i]? = some p := ⟨_, List.getElem?_eq_getElem il⟩
      have mp : p ∈ L := List.mem_of_getElem? hp
      have slot : t.slot (way t.mask h (c + q)) = .live i := slot_live R.tab.ris hi
      have tail : wpAny (model P w) A (searchRest S (.ref x) h true f es t (way t.mask h (c + q)) i (nth t.mask b (c + (q + 1)))) Q E s := by
        unfold searchRest
        rw [R.ent hp]
        dsimp only
        refine wpAny_bind (wpAny_holding (kd.eqBool ru (R.keys p mp) hx ?_))
        refine wpAny_bind (wpAny_setState_of hob hdt R.fit ?_)
        dsimp only
        by_cases same : p.2 = k
        · exact wp_if_pos (by rw [decide_eq_true same]; rfl) (wpAny_pure (yes (List.mem_map.mpr ⟨p, mp, same⟩)))
        · refine wp_if_neg (by rw [decide_eq_false same]; decide) ?_
          try refine wpAny_bind (wpAny_pure ?_)
          rw [sameMem t, slot, decide_eq_false same]
          dsimp only
          rw [if_pos rfl]
          dsimp only
          rw [R.ent hp]
          dsimp only
          refine wpAny_bind (wpAny_isSame_ref_self (wpAny_bind (wpAny_pure ?_)))
          rw [if_pos rfl]
          dsimp only
          refine wp_if_neg Bool.false_ne_true ?_
          rw [← eh]
          refine ih (c + (q + 1)) _ (by omega) (by omega) (by rw [eh, eb]; rfl) fun i0 p0 h0 k0 => ?_
          obtain ⟨c', ⟨l1, l2⟩, hc'⟩ := here i0 p0 h0 k0
          rw [eh]
          refine ⟨c', ⟨?_, l2⟩, hc'⟩
          rcases Nat.lt_trichotomy c' (c + q) with z | z | z
          · exact absurd ((ha i0 p0 h0).trans ((congrArg kd.hash k0).trans eh)) (fresh (c' - c) i0 (by omega) (by rw [far, ← wy, show c + (c' - c) = c' by omega]; exact hc'))
          · rw [z] at hc'
            have s0 : SetTable.Slot.live i0 = .live i := (slot_live R.tab.ris hc').symm.trans slot
            injection s0 with s0
            rw [s0, hp] at h0
            exact absurd ((congrArg Prod.snd (Option.some.inj h0)).trans k0) same
          · omega
      cases hl : t.led with
      | true =>
        refine wp_if_neg (by decide) ?_
        try refine wpAny_bind (wpAny_pure ?_)
        exact tail
      | false =>
        refine wp_if_pos rfl (wpAny_bind (quiet_all M hx _ (fun y hy => ?_) ?_))
        · obtain ⟨e, me, rfl⟩ := List.mem_map.mp hy
          have me2 : e ∈ es.toList := by
            have : e ∈ es ∧ e.1 = h := by simpa using me
            simpa using this.1
          rw [R.ents] at me2
          obtain ⟨p2, mp2, rfl⟩ := List.mem_map.mp me2
          exact ⟨p2.2, p2.1, rfl, R.keys p2 mp2⟩
        · refine wp_if_neg (by decide) ?_
          try refine wpAny_bind (wpAny_pure ?_)
          exact tail
    · rw [pg, hst, go]
      dsimp only
      rw [far, ← wy, show c + (K - c) = K by omega]
      refine wpAny_pure (no fun mk => ?_)
      obtain ⟨p0, m0, k0⟩ := List.mem_map.mp mk
      obtain ⟨i0, h0⟩ := List.getElem?_of_mem m0
      obtain ⟨c', ⟨l1, l2⟩, hc'⟩ := here i0 p0 h0 k0
      exact absurd ((ha i0 p0 h0).trans ((congrArg kd.hash k0).trans eh)) (fresh (c' - c) i0 (by omega) (by rw [far, ← wy, show c + (c' - c) = c' by omega]; exact hc'))
/-- one key more -/
theorem join (M : Mild kd) (R : Sat kd s.heap S L es ep t) {x : Addr} {k : κ} (hx : kd.is s.heap k x) (ru : kd.room A) (few : L.length < 4) {Q : Bool → Shared → Prop}
    (fin : ∀ b h' L' es' ep' t', Heap.SameBut S s.heap h' → Sat kd h' S L' es' ep' t' → (k ∈ L.map (·.2) → L' = L) → (k ∉ L.map (·.2) → L'.length = L.length + 1 ∧ ∀ p, p ∈ L' ↔ p = (x, k) ∨ p ∈ L) → Q b { s with heap := h' }) :
    wpAny (model P w) A (setAddHashed S (.ref x) (kd.hash k)) Q E s := by
  obtain ⟨ob, hob, hxs, hdt⟩ := R.obj
  have m7 := R.msk
  obtain ⟨K, kf, free, used⟩ := R.tab.first (by rw [List.length_map]; omega) (kd.hash k)
  have k5 : K < 100000 := by
    have : SetTable.turns t.mask ≤ 1000 := by rw [m7]; decide
    omega
  have here : ∀ (i : Nat) (p : Addr × κ), L[i]? = some p → p.2 = k → ∃ c', (0 ≤ c' ∧ c' < K) ∧ t.place.toList[i]? = some (way t.mask (kd.hash k) c') := fun i p hp e => by
    have a1 : (L.map fun p => kd.hash p.2)[i]? = some (kd.hash k) := by rw [List.getElem?_map, hp, ← e]; rfl
    have a2 : i < t.place.toList.length := by
      rw [Array.length_toList, R.plen]
      exact (List.getElem?_eq_some_iff.mp hp).1
    obtain ⟨c, hc, ec⟩ := R.tab.before free a1 (List.getElem?_eq_getElem a2)
    exact ⟨c, ⟨Nat.zero_le _, hc⟩, by rw [List.getElem?_eq_getElem a2, ec]⟩
  unfold setAddHashed
  refine wpAny_holding ?_
  rw [show (100000 : Nat) = 99999 + 1 from rfl, setAddHashedIn_succ]
  refine wpAny_bind (wpAny_setState_of hob hdt R.fit ?_)
  dsimp only
  refine wp_if_neg (by unfold byScan Value.scannable; simp) ?_
  try refine wpAny_bind (wpAny_pure ?_)
  unfold setSearch
  refine wpAny_bind (look M R hx ru kf free used (fun mk => ?_) (fun mk => ?_) 100000 0 none (by omega) (Nat.zero_le _) rfl here)
  · dsimp only
    exact wpAny_pure (fin false s.heap L es ep t (Heap.SameBut.refl S s.heap) R (fun _ => rfl) fun z => absurd mk z)
  · dsimp only
    refine wpAny_bind (wpAny_setState_of hob hdt R.fit ?_)
    dsimp only
    obtain ⟨a1, a2, a3, a4, a5, a6, a7, a8, a9⟩ := R.tab.put free used
    obtain ⟨b, eb⟩ : ∃ b, SetTable.below t.place (way t.mask (kd.hash k) K) = b := ⟨_, rfl⟩
    obtain ⟨u, eu⟩ : ∃ u, t.put (way t.mask (kd.hash k) K) = u := ⟨_, rfl⟩
    rw [eu] at a1 a3 a4 a5 a6 a7 a8 a9
    rw [eb] at a1 a2 a3
    rw [eu]
    obtain ⟨t1, b1⟩ := u
    replace a1 : b1 = b := a1
    subst a1
    dsimp only at a3 a4 a9 ⊢
    rw [List.length_map] at a2 a9
    obtain ⟨L1, e1⟩ : ∃ L1, L.take b1 ++ (x, k) :: L.drop b1 = L1 := ⟨_, rfl⟩
    have perm : L1.Perm ((x, k) :: L) := by
      rw [← e1]
      exact List.perm_middle.trans (by rw [List.take_append_drop])
    have len1 : L1.length = L.length + 1 := perm.length_eq
    have hs1 : L1.map (fun p => kd.hash p.2) = (L.map fun p => kd.hash p.2).take b1 ++ kd.hash k :: (L.map fun p => kd.hash p.2).drop b1 := by
      rw [← e1, List.map_append, List.map_cons, List.map_take, List.map_drop]
    rw [← hs1] at a3
    have en1 : (SetTable.insertAt es b1 (kd.hash k, Value.ref x)).toList = L1.map fun p => (kd.hash p.2, Value.ref p.1) := by
      rw [SetTable.toList_insertAt, R.ents, ← e1, List.map_append, List.map_cons, List.map_take, List.map_drop]
    obtain ⟨es1, ee⟩ : ∃ es1, SetTable.insertAt es b1 (kd.hash k, Value.ref x) = es1 := ⟨_, rfl⟩
    rw [ee] at en1
    rw [ee]
    have sz1 : es1.size = L.length + 1 := by rw [← Array.length_toList, en1, List.length_map, len1]
    have nd1 : (L1.map (·.2)).Nodup := (perm.map (·.2)).nodup_iff.mpr (List.nodup_cons.mpr ⟨mk, R.nd⟩)
    -- whatever the flag, the table is laid
    have lay : ∀ t2 : SetTable, TabOk t2 (L1.map fun p => kd.hash p.2) → t2.mask = 7 → t2.fill = L.length + 1 →
        wpAny (model P w) A (do
          storeSet S es1 t2
          if (!false && t2.tooFull) = true then setRelay S (SetTable.grown (es.size + 1))
          return true) Q E s := fun t2 ok2 mk2 fl2 => by
      have full : t2.tooFull = false := by
        unfold SetTable.tooFull
        rw [fl2, mk2]
        exact decide_eq_false (by omega)
      refine wpAny_bind (wpAny_storeSet_of hob hdt ?_ (by rw [sz1]; exact Nat.le_trans (show _ ≤ 1000 by omega) (by decide)))
      have sb : Heap.SameBut S s.heap (s.heap.update S (Obj.putSet es1 t2)) := Heap.SameBut.update ..
      have at1 := store_at (es' := es1) (t' := t2) hob hdt
      obtain ⟨h1, eh1⟩ : ∃ h1, s.heap.update S (Obj.putSet es1 t2) = h1 := ⟨_, rfl⟩
      rw [eh1] at sb at1
      rw [eh1]
      have ks1 : ∀ p ∈ L1, kd.is h1 p.2 p.1 := fun p hp => by
        rcases List.mem_cons.mp (perm.mem_iff.mp hp) with rfl | hp
        · exact M.stay hx hob hdt sb
        · exact M.stay (R.keys p hp) hob hdt sb
      rw [full]
      refine wp_if_neg (by decide) ?_
      try refine wpAny_bind (wpAny_pure ?_)
      refine wpAny_pure (fin true h1 L1 es1 (ep + 1) t2 sb ⟨⟨_, at1, hxs, rfl⟩, en1, ok2, nd1, ks1, mk2, by omega⟩ (fun z => absurd z mk) fun _ => ⟨len1, fun p => ?_⟩)
      rw [perm.mem_iff, List.mem_cons]
    have lay1 := lay t1 a3 (a4.trans m7) a9
    have lay2 := lay { t1 with plain := false } ⟨a3.ris, a3.dm, a3.sz, a3.mok, a3.bd, a3.reach⟩ (a4.trans m7) a9
    cases hp : t1.plain with
    | false =>
      refine wpAny_bind (wpAny_pure ?_)
      exact lay1
    | true =>
      refine wpAny_bind (M.byv hx fun b => ?_)
      cases b with
      | true => exact lay1
      | false => exact lay2
end
/-- which of the first i keys the set has -/
structure Has {κ : Type} [DecidableEq κ] (ks : List (Addr × κ)) (i : Nat) (L : List (Addr × κ)) : Prop where
  le : L.length ≤ i
  eq : L.length = i ↔ ((ks.take i).map (·.2)).Nodup
  mem : ∀ k, k ∈ L.map (·.2) ↔ k ∈ (ks.take i).map (·.2)
  sub : ∀ p ∈ L, p ∈ ks
theorem Has.zero {κ : Type} [DecidableEq κ] (ks : List (Addr × κ)) : Has ks 0 [] := ⟨Nat.le_refl 0, ⟨fun _ => List.nodup_nil, fun _ => rfl⟩, fun _ => Iff.rfl, fun p hp => nomatch hp⟩
theorem Has.next {κ : Type} [DecidableEq κ] {ks L L' : List (Addr × κ)} {i : Nat} {x : Addr} {k : κ} (g : Has ks i L) (h : ks[i]? = some (x, k)) (c1 : k ∈ L.map (·.2) → L' = L) (c2 : k ∉ L.map (·.2) → L'.length = L.length + 1 ∧ ∀ p, p ∈ L' ↔ p = (x, k) ∨ p ∈ L) : Has ks (i + 1) L' := by
  have le := g.le
  have e1 : (ks.take (i + 1)).map (·.2) = (ks.take i).map (·.2) ++ [k] := by
    rw [List.take_succ, h, List.map_append]
    rfl
  have nd : ((ks.take i).map (·.2) ++ [k]).Nodup ↔ ((ks.take i).map (·.2)).Nodup ∧ k ∉ (ks.take i).map (·.2) := by
    rw [List.nodup_append]
    constructor
    · rintro ⟨a, _, b⟩
      exact ⟨a, fun z => b k z k List.mem_cons_self rfl⟩
    · rintro ⟨a, b⟩
      refine ⟨a, by simp, fun y hy z hz e => b ?_⟩
      rw [List.mem_singleton.mp hz] at e
      rw [← e]
      exact hy
  by_cases m : k ∈ L.map (·.2)
  · have e := c1 m
    subst e
    refine ⟨by omega, ?_, fun y => ?_, g.sub⟩
    · rw [e1, nd]
      exact ⟨fun z => by omega, fun z => absurd ((g.mem k).mp m) z.2⟩
    · rw [e1, List.mem_append, List.mem_singleton, g.mem y]
      exact ⟨.inl, fun z => z.elim id fun e => by rw [e]; exact (g.mem k).mp m⟩
  · obtain ⟨l, mm⟩ := c2 m
    refine ⟨by omega, ?_, fun y => ?_, fun p hp => ((mm p).mp hp).elim (fun e => by rw [e]; exact List.mem_of_getElem? h) (g.sub p)⟩
    · rw [e1, nd, ← g.eq, l]
      exact ⟨fun z => ⟨by omega, fun q => m ((g.mem k).mpr q)⟩, fun z => by omega⟩
    · rw [e1, List.mem_append, List.mem_singleton, ← g.mem y, List.mem_map, List.mem_map]
      constructor
      · rintro ⟨p, hp, rfl⟩
        rcases (mm p).mp hp with rfl | hp
        · exact .inr rfl
        · exact .inl ⟨p, hp, rfl⟩
      · rintro (⟨p, hp, rfl⟩ | rfl)
        · exact ⟨p, (mm p).mpr (.inr hp), rfl⟩
        · exact ⟨(x, y), (mm _).mpr (.inl rfl), rfl⟩
section
variable {P : Program} {w : World} {κ : Type} [DecidableEq κ] {kd : HeapKind P w κ} {A : Around} {R : Result → Shared → Prop} {I : Addr} {fp wr : List Addr} {G : Array GenState → Array GenState → Prop} {n : Nat} {Pv : Nat → Value → Prop} {St : Nat → Shared → Prop}
/-- the keys that are left go into the set; what stood at first (h0) stays -/
theorem fill_keys (M : Mild kd) (W : WalksS P w A.in1 I fp wr G n Pv St) {S : Addr} (away : S ∉ fp) {ks : List (Addr × κ)} (few : ks.length ≤ 4) (en : n = ks.length) (each : ∀ i v, Pv i v → ∃ p, ks[i]? = some p ∧ v = .ref p.1) (ru : kd.room A.in1)
    {h0 : Heap} (k0 : ∀ p ∈ ks, kd.is h0 p.2 p.1) (nS : h0.get? S = none) (nw : ∀ b ∈ wr, h0.get? b = none) :
    ∀ (left i : Nat) (s : Shared), i + left = n → St i s → (∀ b o, h0.get? b = some o → s.heap.get? b = some o) → (∃ L es ep t, Sat kd s.heap S L es ep t ∧ Has ks i L) →
      (∀ s' L es ep t, Moved (S :: wr) G s s' → Sat kd s'.heap S L es ep t → Has ks n L → (∀ b o, h0.get? b = some o → s'.heap.get? b = some o) → R (.ok (.ret .none)) s') → codeAny (model P w) A (.builtin "set.update.loop" ⟨[.ref S, .ref I], []⟩) R s := by
  have out : S ∉ wr := fun z => away (W.sub _ z)
  have more : ∀ b ∈ wr, b ∈ S :: wr := fun b z => List.mem_cons_of_mem _ z
  have stays : ∀ {s s' : Shared}, Moved wr G s s' → (∀ b o, h0.get? b = some o → s.heap.get? b = some o) → ∀ b o, h0.get? b = some o → s'.heap.get? b = some o := fun mv q b o e =>
    mv.heap b o (fun z => by rw [nw b z] at e; cases e) (q b o e)
  -- the set after an item was fetched
  have again : ∀ {s s' : Shared} {L es ep t}, Moved wr G s s' → Sat kd s.heap S L es ep t → (∀ p ∈ L, kd.is s'.heap p.2 p.1) → Sat kd s'.heap S L es ep t := fun {s s' L es ep t} mv q kk => by
    obtain ⟨o, ho, hx, hd⟩ := q.obj
    exact ⟨⟨o, mv.heap S o out ho, hx, hd⟩, q.ents, q.tab, q.nd, kk, q.msk, q.few⟩
  intro left
  induction left with
  | zero =>
    intro i s e st ks0 ⟨L, es, ep, t, q, g⟩ fin
    obtain rfl : i = n := e
    refine codeAny_builtin PyProof.Rows.F.entry_set_update_loop ?_
    rw [Around.under_plainId PyProof.Rows.F.plain_set_update_loop _]
    refine wpAny_bind (W.done s _ _ st fun s1 mv => ?_)
    have ks1 := stays mv ks0
    exact wpAny_pure (fin s1 L es ep t (mv.mono more) (again mv q fun p hp => M.keep (k0 p (g.sub p hp)) ks1) g ks1)
  | succ left ih =>
    intro i s e st ks0 ⟨L, es, ep, t, q, g⟩ fin
    have lt : i < n := by omega
    refine codeAny_builtin PyProof.Rows.F.entry_set_update_loop ?_
    rw [Around.under_plainId PyProof.Rows.F.plain_set_update_loop _]
    refine wpAny_bind (W.item i s _ _ lt st fun v s1 pv st1 mv => ?_)
    obtain ⟨⟨x, k⟩, hx, rfl⟩ := each i v pv
    have ks1 := stays mv ks0
    have mx := List.mem_of_getElem? hx
    have q1 := again mv q fun p hp => M.keep (k0 p (g.sub p hp)) ks1
    have lL := g.le
    show wpAny _ A.in1 (holding [Value.ref x] (setAdd S (.ref x)) >>= _) _ _ s1
    refine wpAny_bind (wpAny_holding ?_)
    unfold setAdd
    refine wpAny_holding (wpAny_bind (kd.pyHash ru (M.keep (k0 _ mx) ks1) ?_))
    refine join (s := { s1 with toks := s1.toks + kd.draws k }) M q1 (M.keep (k0 _ mx) ks1) ru (by omega) fun b h2 L2 es2 ep2 t2 but q2 c1 c2 => ?_
    have kept : ∀ b o, b ≠ S → s1.heap.get? b = some o → h2.get? b = some o := fun b o ne z => by
      rw [but.2 b ne]
      exact z
    have ks2 : ∀ b o, h0.get? b = some o → h2.get? b = some o := fun b o z => kept b o (fun y => by rw [y, nS] at z; cases z) (ks1 b o z)
    refine wpAny_pure ⟨plainId_quiet PyProof.Rows.F.plain_set_update_loop _, ih (i + 1) _ (by omega) (W.frame _ s1 _ _ st1 (Nat.le_add_right _ _) fun b m o z => kept b o (fun y => away (y ▸ m)) z) ks2 ⟨L2, es2, ep2, t2, q2, g.next hx c1 c2⟩ fun s3 L3 es3 ep3 t3 mv3 q3 g3 ks3 => ?_⟩
    exact fin s3 L3 es3 ep3 t3 (Moved.trans W.gtrans ((mv.mono more).then_heap (Nat.le_add_right _ _) fun b o nm z => kept b o (fun y => nm (y ▸ List.mem_cons_self)) z) mv3) q3 g3 ks3
end
section
variable {P : Program} {w : World} {κ : Type} [DecidableEq κ] {kd : HeapKind P w κ} {A : Around} {E : Value → Shared → Prop} {s : Shared}
theorem sat_fresh {h : Heap} {S : Addr} {led : Bool} (e : h.get? S = some (freshSet led)) : Sat kd h S [] #[] 0 (.fresh 0 0 led) :=
  ⟨⟨_, e, ⟨rfl, rfl, rfl⟩, rfl⟩, rfl, ⟨List.Pairwise.nil, rfl, rfl, .inl rfl, fun x hx => (by cases hx), fun i h j hi => (by simp at hi)⟩, List.nodup_nil, (fun p hp => nomatch hp), rfl, Nat.zero_le _⟩
set_option maxHeartbeats 4000000 in
/-- set(l) of a list of at most four such keys -/
theorem set_keys (M : Mild kd) {l : Addr} {its : List Value} {ks : List (Addr × κ)} {Q : Value → Shared → Prop} (calm : A.handled = none) (hl : s.heap.IsList l its.toArray) (eits : its = ks.map fun p => Value.ref p.1) (k0 : ∀ p ∈ ks, kd.is s.heap p.2 p.1) (few : ks.length ≤ 4)
    (ru : kd.room A.in1.in1.in1)
    (h : ∀ (h2 : Heap) (tk : Nat) L es ep t, Sat kd h2 s.heap.objs.size L es ep t → Has ks ks.length L → (∀ b o, b < s.heap.objs.size → s.heap.get? b = some o → h2.get? b = some o) → Q (.ref s.heap.objs.size) { s with heap := h2, toks := tk }) :
    wpAny (model P w) A (call (.type "set") [.ref l]) Q E s := by
  obtain ⟨c, tl, hmro⟩ := PySem.F.called_set.mro
  have j1 := PySem.F.called_set.made
  have j2 := PySem.F.called_set.sub
  refine wpAny_call (codeAny_of_tree (wpAny_pure (s := s) ⟨Code.quiet_builtin _ (by decide +kernel), codeAny_builtin PySem.F.entry_type_call ?_⟩))
  rw [Around.under_plain (weight_type_call_type "set" [.ref l] []) rfl]
  have j3 := PySem.F.called_set.notType
  have j4 := PySem.F.called_set.canCreate
  have j5 := PySem.F.typeCall_set_1 (.ref l)
  repeat (any_goals (first | assumption | wp_step))
  refine codeAny_mono (code_set_new_1 (.ref l) (E := E) (Q₁ := fun o s1 => ∃ led : Bool, o = .ref s.heap.objs.size ∧ s1 = { s with heap := s.heap.push (freshSet led) }) fun led => ⟨led, rfl, rfl⟩) fun r s1 hr => ?_
  match r, hr with
  | .error e, hr => exact hr
  | .ok .next, hr => exact hr.elim
  | .ok .brk, hr => exact hr.elim
  | .ok .cont, hr => exact hr.elim
  | .ok (.ret o), hr =>
    obtain ⟨led, rfl, rfl⟩ := hr
    have new : (s.heap.push (freshSet led)).get? s.heap.objs.size = some (freshSet led) := Heap.get?_push_size _ rfl
    have isT : Shared.TypeIs { s with heap := s.heap.push (freshSet led) } (.ref s.heap.objs.size) "set" := ⟨_, new, rfl⟩
    have j6 := PySem.F.called_set.init.lookup
    have j7 := PySem.F.called_set.init.bind (.ref s.heap.objs.size)
    repeat (any_goals (first | assumption | wp_step))
    refine codeAny_mono (codeAny_call_builtin (R := wants (fun r s2 => r = .none ∧ ∃ h2 tk L es ep t, s2 = { s with heap := h2, toks := tk } ∧ Sat kd h2 s.heap.objs.size L es ep t ∧ Has ks ks.length L ∧ ∀ b o, b < s.heap.objs.size → s.heap.get? b = some o → h2.get? b = some o) E)
      PySem.F.called_set.init.plain PySem.F.entry_set_init (check_set_init_1 isT ?_)) fun r2 s2 hr2 => ?_
    · obtain ⟨⟨lc, ld, lo, ls⟩, el, c1, nl, d1⟩ := hl
      cases (show lc = _ from c1)
      cases (show lo = _ from d1)
      have el2 : (s.heap.push (freshSet led)).get? l = some ⟨.type "list", ld, .seq its.toArray nl, ls⟩ := Heap.get?_push_of_some _ el
      have j8 := PySem.F.sub_list_set
      have j9 := PySem.F.sub_list_frozenset
      have j10 : (Value.type "list" == Value.type "dict") = false := by decide
      have isL : (s.heap.push (freshSet led)).IsList l its.toArray := ⟨_, el2, rfl, nl, rfl⟩
      unfold Builtin.«set.__init__» noKeywords Builtin.Frozenset.updateFrom
      generalize hit : pyIter = It0
      wp_walk
      subst hit
      refine wpAny_pyIter_list isL (wpAny_bind (wpAny_runValue ?_))
      have lt : l < s.heap.objs.size := Heap.lt_size el
      have sz : (s.heap.push (freshSet led)).objs.size = s.heap.objs.size + 1 := Heap.size_push _ _
      have ne1 : l ≠ (s.heap.push (freshSet led)).objs.size := by
        rw [sz]
        exact Nat.ne_of_lt (Nat.lt_succ_of_lt lt)
      have away : s.heap.objs.size ∉ [(s.heap.push (freshSet led)).objs.size, l] := by
        rw [sz]
        simp only [List.mem_cons, List.not_mem_nil, or_false, not_or]
        exact ⟨Nat.ne_of_lt (Nat.lt_succ_self _), Nat.ne_of_gt lt⟩
      have no : ∀ b, s.heap.objs.size ≤ b → s.heap.get? b = none := fun b hb => by
        cases z : s.heap.get? b with
        | none => rfl
        | some o => exact absurd (Heap.lt_size z) (Nat.not_lt.mpr hb)
      have elen : its.toArray.size = ks.length := by rw [List.size_toArray, eits, List.length_map]
      refine fill_keys (h0 := s.heap) M ((Walks.list (by simp [calm]) _ l ne1 its.toArray).toS) away few elen (fun i v q => ?_) ru k0 (no _ (Nat.le_refl _)) (fun b hb => no b ?_) its.toArray.size 0 _ (Nat.zero_add _) ?_
        ?_ ⟨[], #[], 0, _, sat_fresh (led := led) ?_, Has.zero ks⟩ fun s3 L es ep t mv q3 g3 ks3 => ?_
      · have q' : its[i]? = some v := by simpa using q
        rw [eits, List.getElem?_map] at q'
        obtain ⟨p, hp, e⟩ := Option.map_eq_some_iff.mp q'
        exact ⟨p, hp, e.symm⟩
      · rw [List.mem_singleton.mp hb, sz]
        exact Nat.le_succ _
      · exact ⟨⟨_, Heap.get?_push_size _ rfl, rfl, rfl⟩, isL.push _⟩
      · exact fun b o z => Heap.get?_push_of_some _ (Heap.get?_push_of_some _ z)
      · exact Heap.get?_push_of_some _ new
      · obtain ⟨h3, g2, d3, tk3, os3⟩ := s3
        cases (show g2 = s.gens from mv.gens)
        cases (show d3 = s.drawn from mv.drawn)
        cases (show os3 = s.os from mv.os)
        rw [elen] at g3
        exact wpAny_pure (wpAny_pure ⟨rfl, h3, tk3, L, es, ep, t, rfl, q3, g3, fun b o hb z => ks3 b o z⟩)
    · match r2, hr2 with
      | .error e, hr2 => exact hr2
      | .ok .next, hr2 => exact hr2.elim
      | .ok .brk, hr2 => exact hr2.elim
      | .ok .cont, hr2 => exact hr2.elim
      | .ok (.ret r), hr2 =>
        obtain ⟨rfl, h2, tk, L, es, ep, t, rfl, q2, g2, k2⟩ := hr2
        repeat (any_goals (first | assumption | wp_step))
        exact h _ _ _ _ _ _ q2 g2 k2
end
end Lc
end

section
/-! len(set(xs)) of a list of at most four pairs of a text and a number. -/
namespace Lc
open PySem L2 PyProof.Rows PySem.Spec
def hsK (p : Str × Int) : NestedKey := .tup [.text p.1, .num p.2]
theorem hsK_inj {p q : Str × Int} (h : hsK p = hsK q) : p = q := by
  injection h with h
  injection h with a b
  injection a with a
  injection b with b
  injection b with b
  exact Prod.ext a b
theorem hsD (p : Str × Int) : (hsK p).depth ≤ 8 := by
  unfold hsK
  simp [NestedKey.depth, NestedKey.depthAll]
/-- such pairs as keys -/
def hsKind (P : Program) (w : World) : HeapKind P w (Str × Int) where
  is := fun h k a => NestedIs h (hsK k) (.ref a)
  hash := fun k => (hsK k).hash w
  draws := fun k => (hsK k).draws
  room := (nestedKind P w).room
  inj := fun hx hy => hsK_inj (NestedIs.inj _ _ _ hx hy)
  keeps := fun x ho hd hs => ((nestedKind P w).keeps ⟨x, hsD _⟩ ho hd hs).1
  pyHash := fun hu hk h => (nestedKind P w).pyHash hu ⟨hk, hsD _⟩ h
  eqBool := fun {A E s x y a b Q} hu hx hy h => (nestedKind P w).eqBool hu ⟨hx, hsD _⟩ ⟨hy, hsD _⟩ (by
    have e : decide (hsK x = hsK y) = decide (x = y) := by
      by_cases z : x = y
      · rw [z, decide_eq_true rfl, decide_eq_true rfl]
      · rw [decide_eq_false z, decide_eq_false fun q => z (hsK_inj q)]
    rw [e]
    exact h)
  quiet := fun hk h => (nestedKind P w).quiet ⟨hk, hsD _⟩ h
/-- the tuple behind it: a text, and an int or a bool -/
theorem hs_obj {h : Heap} {k : Str × Int} {a : Addr} (x : NestedIs h (hsK k) (.ref a)) : ∃ o vs n t u, h.get? a = some o ∧ o.cls = .type "tuple" ∧ o.data = .seq vs n ∧ vs.toList = [.str k.1 t, u] ∧ ((∃ b, u = .bool b) ∨ ∃ i t, u = .int i t) := by
  cases x with
  | tup ho hc hd all =>
    rename_i o vs n
    cases e : vs.toList with
    | nil => rw [e] at all; cases all
    | cons v1 r =>
      rw [e] at all
      cases all with
      | cons h1 r1 =>
        cases h1
        cases r1 with
        | cons h2 r2 =>
          cases r2
          refine ⟨_, _, _, _, _, ho, hc, hd, e, ?_⟩
          cases h2 with
          | bool => exact .inl ⟨_, rfl⟩
          | int i t => exact .inr ⟨_, _, rfl⟩
theorem hsMild (P : Program) (w : World) : Mild (hsKind P w) where
  cls := fun {A E s k a Q} x q => by
    obtain ⟨o, vs, n, t, u, ho, hc, hd, ev, hu⟩ := hs_obj x
    have ty : s.TypeIs (.ref a) "tuple" := ⟨o, ho, hc⟩
    have two : ∀ u : Value, ((∃ b, u = .bool b) ∨ ∃ i t, u = .int i t) → ofAClassStatement 7 u = pure false := fun u h => by
      rcases h with ⟨b, rfl⟩ | ⟨i, t, rfl⟩ <;> rfl
    have one : ∀ x t, ofAClassStatement 7 (.str x t) = pure false := fun _ _ => rfl
    unfold ofAClassStatement
    refine wpAny_bind (wpAny_typeOf ty ?_)
    dsimp only
    rw [if_pos (by decide)]
    refine wpAny_bind (wpAny_pure ?_)
    refine wp_if_neg (by decide) ?_
    try refine wpAny_bind (wpAny_pure ?_)
    refine wpAny_bind (wpAny_seqItems ho hd ?_)
    dsimp only
    rw [← Array.forIn_toList, ev]
    simp [List.forIn_cons, one, two u hu]
    exact wpAny_pure q
  byv := fun {A E s k a Q} x q => by
    obtain ⟨o, vs, n, t, u, ho, hc, hd, ev, hu⟩ := hs_obj x
    have ty : s.TypeIs (.ref a) "tuple" := ⟨o, ho, hc⟩
    have one : ∀ x t, hashByValue 7 (.str x t) = pure false := fun _ _ => rfl
    unfold hashByValue
    refine wpAny_bind (wpAny_specialOf ty F.slot_tuple_hash.lookup ?_)
    dsimp only
    refine wpAny_bind (wpAny_seqItems ho hd ?_)
    dsimp only [Option.getD]
    rw [← Array.forIn_toList, ev]
    simp [List.forIn_cons, one]
    exact wpAny_pure (q _)
  stay := fun {h h' k a d o es ep t} x ho hd sb => NestedIs.at (fun b ob vs n hb hc => by
    refine (sb.2 b fun e => ?_).trans hb
    subst e
    rw [ho] at hb
    cases hb
    rw [hd] at hc
    cases hc) _ _ x
  keep := fun {h h' k a} x ks => NestedIs.at (fun b ob vs n hb _ => ks b ob hb) _ _ x
section
variable {X : Cx}
theorem inv_hs {pins : List (Addr × Obj)} {σ : L2.St} {H : Hp} {s : Shared} (I : Inv X pins σ H s) {b : Addr} {p : Str × Int} (h : SqT X.K H b [.str p.1, .int p.2]) : NestedIs s.heap (hsK p) (.ref b) := by
  obtain ⟨its, r, ⟨o, ho, hc, n, hd⟩, _⟩ := I.tuple h
  obtain ⟨u1, u2, rfl, ⟨t1, rfl⟩, ⟨t2, rfl⟩⟩ := vals2 r
  exact .tup ho hc hd (.cons (.text _ _) (.cons (.int _ _) .nil))
theorem refs_hs {α : Type} : ∀ {ks : List (Addr × α)} {us : List Value}, Vals (ks.map fun p => V.ref p.1) us → us = ks.map fun p => Value.ref p.1
  | [], _, .nil => rfl
  | p :: ks, _, .cons r t => by
    cases r
    rw [refs_hs t]
    rfl
/-- len(set(e)), e a list of at most four pairs of a text and a number -/
def tLenSetP (K : PySem.W.Frag) (ta : TE) : TE := fun σ H Q => ta σ H fun x H1 => ∃ (l : Addr) (ks : List (Addr × (Str × Int))), x = .ref l ∧ SqL K H1 l (ks.map fun p => V.ref p.1) ∧ (∀ p ∈ ks, SqT K H1 p.1 [.str p.2.1, .int p.2.2]) ∧ ks.length ≤ 4 ∧
  ∀ n : Nat, n ≤ ks.length → (n = ks.length ↔ (ks.map (·.2)).Nodup) → Q (.int (n : Nat)) H1
theorem r_lenP {K : PySem.W.Frag} {ta : TE} {σ : L2.St} {H : Hp} {Q : VK} (h : ta σ H fun x H1 => ∃ (l : Addr) (ks : List (Addr × (Str × Int))), x = .ref l ∧ SqL K H1 l (ks.map fun p => V.ref p.1) ∧ (∀ p ∈ ks, SqT K H1 p.1 [.str p.2.1, .int p.2.2]) ∧ ks.length ≤ 4 ∧
  ∀ n : Nat, n ≤ ks.length → (n = ks.length ↔ (ks.map (·.2)).Nodup) → Q (.int (n : Nat)) H1) : tLenSetP K ta σ H Q := h
theorem pe_lenSetP {a : Expr} {ta : TE} {p p2 q pos : Pos} (hc : X.calm = true) (hu : X.A.units + 150 < cLine) (hg : Gl X "len") (hm : X.mg "len" = none) (hg2 : Gl X "set") (hm2 : X.mg "set" = none) (ha : PE X a ta)
    (na : starEach [a] X.env = (false, eval a X.env) :: starEach [] X.env := by rfl) : PE X (.Call (.Name "len" p) [.Call (.Name "set" p2) [a] [] q] [] pos) (tLenSetP X.K ta) := by
  constructor
  intro pins s σ H Q I h
  refine Call_ (ld_blt I hg hm boot_len (callWith_builtin1 (args_cons (Call_ (ld_blt I hg2 hm2 boot_set (callWith_type1 (args_cons (thn (ha.run pins s σ H _ I h) fun v s1 got1 => args_nil ?_) na) na rfl))) rfl) rfl rfl))
  obtain ⟨x, H1, I1, r1, l, ks, rfl, hq, hk, few, q1⟩ := got1
  cases r1
  obtain ⟨its, r, pl, hz⟩ := I1.list hq
  refine set_keys (hsMild X.prog X.w) (I1.ok.hd hc) pl.isList (refs_hs r) (fun p hp => inv_hs I1 (hk p hp)) few (show X.A.units + 3 + 8 < cLine by omega) fun h2 tk L es ep t R g k2 => args_nil ?_
  obtain ⟨o, ho, hex, hd⟩ := R.obj
  have I2 : Inv X pins σ H1 { s1 with heap := h2, toks := tk } := I1.kept fun b o e => k2 b o (Heap.lt_size e) e
  have el : es.size = L.length := Sat.len (s := { s1 with heap := h2, toks := tk }) R
  have le := g.le
  have eq := g.eq
  rw [List.take_length] at eq
  exact call_len_set ho hex hd (Sat.fit (s := { s1 with heap := h2, toks := tk }) R) (by rw [el]; omega) ⟨.int (L.length : Nat), H1, I2.tok _, ⟨_, by rw [el]⟩, q1 _ le eq⟩
end
end Lc
end

section
/-! What is a pattern. -/
namespace K02
open PySem L2 PyProof.Rows PySem.Spec Lc
variable [Lc.Tbs]
local macro_rules | `(tactic| walk_at "rd") => `(tactic| repeat (first
  | with_reducible refine r_seq ?_ | with_reducible refine r_mknx ?_ | with_reducible refine r_mkrt ?_ | with_reducible refine r_asg ?_ | with_reducible refine r_name ?_ | with_reducible refine r_next ?_
  | with_reducible refine r_drop ?_ | with_reducible refine r_ret ?_ | with_reducible refine r_if ?_
  | ((with_reducible refine' r_var ?e ?_); (case e => rfl)) | with_reducible refine r_c ?_ | with_reducible refine r_op ?_ | with_reducible refine r_un ?_ | with_reducible refine r_test ?_ | with_reducible refine r_tb ?_
  | with_reducible refine r_and ?_ | with_reducible refine r_or ?_ | with_reducible refine r_not ?_ | with_reducible refine r_andV ?_ | with_reducible refine r_orV ?_ | with_reducible refine r_notV ?_ | with_reducible refine r_bl ?_
  | with_reducible refine r_cb ?_ | with_reducible refine r_cons ?_ | with_reducible refine r_nil ?_ | with_reducible refine r_tup ?_ | with_reducible refine r_lst ?_ | with_reducible refine r_call ?_
  | with_reducible refine r_i0 ?_ | with_reducible refine r_par ?_ | with_reducible refine r_two ?_ | with_reducible refine r_lc ?_ | with_reducible refine r_iL ?_ | with_reducible refine r_iT ?_ | with_reducible refine r_iS ?_ | with_reducible refine r_i1 ?_ | with_reducible refine r_yes ?_ | with_reducible refine r_chain ?_ | with_reducible refine if_t rfl ?_ | with_reducible refine if_f rfl ?_ | with_reducible refine r_nt ?_ | ((with_reducible refine r_eq ?e ?_); (case e => rfl)) | ((with_reducible refine r_ne ?e ?_); (case e => rfl))
  | with_reducible refine r_sub ?_ | with_reducible refine r_sl ?_ | with_reducible refine r_nopart ?_ | with_reducible refine r_part ?_ | with_reducible refine r_int ?_ | with_reducible refine r_bm ?_ | with_reducible refine r_bm0 ?_ | with_reducible refine r_gcons ?_ | with_reducible refine r_gnil ?_ | with_reducible refine r_dget1 ?_ | with_reducible refine r_dget2 ?_ | with_reducible refine r_dgetR ?_ | with_reducible refine r_dset ?_ | with_reducible refine r_dc ?_ | with_reducible refine r_keys ?_ | with_reducible refine r_ckw ?_ | with_reducible refine r_dput ?_ | with_reducible refine r_dnotin ?_))


local macro_rules | `(tactic| walk_at "dt") => `(tactic| repeat' (first | (show Dt _ _ _; assumption) | exact dt_str | exact dt_int | exact dt_bl | exact dt_non | exact Dts.nil | refine' Dts.cons ?_ ?_ | (refine' Dt.mono ?kk ?_; (case kk => assumption)) | fail))
local macro_rules | `(tactic| walk_at "at") => `(tactic| repeat (first | assumption | (refine' Kp.ge ?kk ?nn ?_; (case kk => assumption); (case nn => intro _ z; cases z)) | fail))
local macro_rules | `(tactic| walk_at "kp") => `(tactic| repeat (first | assumption | exact Kp.refl _ _ | (refine' Kp.trans ?_ ?kk; (case kk => assumption)) | fail))
local macro_rules | `(tactic| walk_at "tup") => `(tactic| (refine' r_tupN ?h ?f ?k; (case h => walk_at "dt"); (case f => simp); skip))
structure Tms (d : D) : Prop where
  g : tmG d = true
  w : Wd Tx 1000 d
theorem tmGs_mem' : ∀ {l : List D}, tmGs l = true → ∀ p ∈ l, tmG p = true
  | [], _, p, hp => by cases hp
  | q :: l, h, p, hp => by
    rw [tmGs, Bool.and_eq_true] at h
    rcases List.mem_cons.mp hp with rfl | hp
    · exact h.1
    · exact tmGs_mem' h.2 p hp
theorem Tms.inv {d : D} (t : Tms d) : ∃ n x ps, d = .tup [.int n, x, .tup ps] ∧ hdG x = true ∧ Wd Tx 1000 x ∧ x.dp = 2 ∧ (∀ p ∈ ps, Tms p) ∧ ps.length ≤ 1000 := by
  obtain ⟨n, x, ps, rfl, gx, gp⟩ := tmG_of t.g
  have w := t.w
  refine ⟨n, x, ps, rfl, gx, w.2.2.1, ?_, fun p hp => ⟨tmGs_mem' gp p hp, Wds.mem.mp w.2.2.2.1.2 p hp⟩, w.2.2.2.1.1⟩
  rcases hdG_of gx with ⟨s, i, rfl, _⟩ | ⟨u, rfl⟩ <;> rfl
mutual
/-- the term is the long form of the head -/
def isLg (h : D) : D → Bool
  | .tup [.int n, x, .tup ps] => eqD x (raiseG n h) && (decide (n = (ps.length : Int)) && isLgs ps.length 0 ps)
  | _ => false
def isLgs (n j : Nat) : List D → Bool
  | [] => true
  | p :: ps => isLg (hb ((n : Int) - 1 - j)) p && isLgs n (j + 1) ps
end
theorem isLg_eq (h : D) (n : Int) (x : D) (ps : List D) : isLg h (.tup [.int n, x, .tup ps]) = (eqD x (raiseG n h) && (decide (n = (ps.length : Int)) && isLgs ps.length 0 ps)) := by rw [isLg]
theorem isLgs_all (n : Nat) : ∀ (ps : List D) (j : Nat), isLgs n j ps = (List.range ps.length).all fun i => isLg (hb ((n : Int) - 1 - (j + i : Nat))) (ps.getD i .non)
  | [], j => by rw [isLgs]; rfl
  | p :: ps, j => by
    rw [isLgs, isLgs_all n ps (j + 1), List.length_cons, List.range_succ_eq_map, List.all_cons, List.all_map]
    congr 1
    refine List.all_congr rfl fun i => ?_
    show _ = isLg (hb ((n : Int) - 1 - (j + (i + 1) : Nat))) (ps.getD i .non)
    rw [show j + 1 + i = j + (i + 1) by omega]
theorem raise_g {h : D} (g : hdG h = true) (n : Int) : hdG (raiseG n h) = true ∧ (Wd Tx 1000 h → Wd Tx 1000 (raiseG n h)) ∧ (raiseG n h).dp = 2 := by
  rcases hdG_of g with ⟨s, i, rfl, rfl | rfl⟩ | ⟨u, rfl⟩
  · exact ⟨rfl, fun _ => ⟨by show 2 ≤ 1000; decide, (by decide +kernel : Tx "b"), trivial, trivial⟩, rfl⟩
  · exact ⟨rfl, fun w => w, rfl⟩
  · exact ⟨rfl, fun w => w, rfl⟩
/-- what the program tells of it: its head, or none -/
def lhD : D → D
  | .tup [.int n, x, .tup ps] => if isLg (raiseG (-n) x) (.tup [.int n, x, .tup ps]) = true then raiseG (-n) x else .non
  | _ => .non
def spIsLg (n : Nat) : Sp := fun vs H Q _ => ∃ v hv d h, vs = [v, hv] ∧ Dt H d v ∧ Tms d ∧ Dt H h hv ∧ hdG h = true ∧ Wd Tx 1000 h ∧ d.dp < n ∧ ∀ H', Kp [] H H' → Q (.bl (isLg h d)) H'
def spLhB (n : Nat) : Sp := fun vs H Q _ => ∃ v d, vs = [v] ∧ Dt H d v ∧ Tms d ∧ d.dp < n ∧ ∀ r H', Kp [] H H' → Dt H' (lhD d) r → Q r H'
/-- a binder's head -/
def bNum : D → Option Int
  | .tup [.str s, .int i] => if s = "b" then some i else none
  | _ => none
theorem bNum_some {d : D} {i : Int} (h : bNum d = some i) : d = hb i := by
  unfold bNum at h
  split at h
  · split at h
    · rename_i e
      rw [e, Option.some.inj h]
    · cases h
  · cases h
/-- different binders in their long forms -/
def rowB (ps : List D) : Bool := (ps.all fun p => (bNum (lhD p)).isSome) && decide ((ps.map fun p => bNum (lhD p)).Nodup)
def spRow (n : Nat) : Sp := fun vs H Q _ => ∃ (a : Addr) (xs : List V) (ps : List D), vs = [.ref a] ∧ H a = some (.tup xs) ∧ Dts H ps xs ∧ (∀ p ∈ ps, Tms p ∧ p.dp < n) ∧ ps.length ≤ 4 ∧ ∀ H', Kp [] H H' → Q (.bl (rowB ps)) H'
theorem pairs_of {H : Hp} : ∀ {is : List Int} {ys : List V}, Dts H (is.map hb) ys → ∃ ks : List (Addr × (Str × Int)), ys = ks.map (fun p => V.ref p.1) ∧ (∀ p ∈ ks, H p.1 = some (.tup [.str p.2.1, .int p.2.2])) ∧ ks.map (·.2) = is.map fun i => (("b" : Str), i)
  | [], ys, h => by
    cases h
    exact ⟨[], rfl, (fun p hp => nomatch hp), rfl⟩
  | i :: is, ys, h => by
    obtain ⟨v, r, rfl, hv, hr⟩ := h
    obtain ⟨a, xs, rfl, ha, w1, r1, rfl, h1, w2, r2, rfl, h2, rfl⟩ := hv
    cases h1.str
    cases h2.int
    obtain ⟨ks, rfl, hk, e⟩ := pairs_of hr
    refine ⟨(a, "b", i) :: ks, rfl, fun p hp => ?_, by rw [List.map_cons, List.map_cons, e]⟩
    rcases List.mem_cons.mp hp with rfl | hp
    · exact ha
    · exact hk p hp
theorem some_map {is : List Int} : (is.map fun i => (("b" : Str), i)).Nodup ↔ (is.map some).Nodup := by
  induction is with
  | nil => simp
  | cons i is ih =>
    rw [List.map_cons, List.map_cons, List.nodup_cons, List.nodup_cons, ih]
    simp
abbrev s_is_long : Stmt := top 9
abbrev N_is_long : List Str := ["term", "head", "n", "own_head", "parts", "j"]
theorem sc_is_long : FnScope N_is_long ["term", "head"] (defScope s_is_long) := ⟨rfl, rfl, rfl, by decide +kernel, rfl, by decide +kernel, by decide +kernel⟩
abbrev s_long_head : Stmt := top 10
abbrev N_long_head : List Str := ["term", "head"]
theorem sc_long_head : FnScope N_long_head ["term"] (defScope s_long_head) := ⟨rfl, rfl, rfl, by decide +kernel, rfl, by decide +kernel, by decide +kernel⟩
abbrev s_is_binder_row : Stmt := top 11
abbrev N_is_binder_row : List Str := ["parts", "heads", "part", "head"]
theorem sc_is_binder_row : FnScope N_is_binder_row ["parts"] (defScope s_is_binder_row) := ⟨rfl, rfl, rfl, by decide +kernel, rfl, by decide +kernel, by decide +kernel⟩
section
variable {P : Program} {w : World} {K : PySem.W.Frag} {mg : Str → Option Value} {base : Heap}
theorem ok_is_lg0 {k n : Nat} (F : Df K mg "is_long" s_is_long ["term", "head"]) (T : Txt mg) (hk : 1 ≤ k) (C_raised_head : Cal P w K mg base "raised_head" ["head", "k"] 1 spRaised) (C_is_long : Cal P w K mg base "is_long" ["term", "head"] k (spIsLg n)) :
    Cal P w K mg base "is_long" ["term", "head"] (k + 1) (spIsLg (n + 1)) := by
  replace C_raised_head := C_raised_head.mono hk
  refine F.ok sc_is_long (fun vs H Q E h => ?_) (fun f cdv A outer s H vs Q E hr h => ?_)
  · obtain ⟨v, hv, d, h, rfl, _⟩ := h
    rfl
  obtain ⟨v, hv, d, hh, rfl, hd, tm, hdh, gh, wh, dn, q⟩ := h
  obtain ⟨m, x, ps, rfl, gx, wx, dx, tps, lps⟩ := tm.inv
  have edp : (D.tup [.int m, x, .tup ps]).dp = 1 + max 1 (max x.dp (max (1 + dps ps) 0)) := rfl
  obtain ⟨a, xs, rfl, ha, v1, r1, rfl, h1, v2, r2, rfl, h2, v3, r3, rfl, h3, rfl⟩ := hd
  cases h1.int
  obtain ⟨ap, xp, rfl, hap, hps⟩ := h3
  have lxp : xp.length = ps.length := hps.len
  rw [isLg_eq] at q
  have rg := raise_g gh m
  refine ⟨_, (pss_cons (ps_asg (pv 0) (pg_tup (by rfl) (pgs_cons (pg_name (i := 2) sc_is_long.nd rfl (.inr rfl)) (pgs_cons (pg_name (i := 3) sc_is_long.nd rfl (.inl rfl)) (pgs_cons (pg_name (i := 4) sc_is_long.nd rfl (.inr rfl)) pgs_nil)))))
      (pss_cons (ps_if (PW.pt (pw_or (pt_cmpR (op_neA (n := 150) (u150 hr)) (pv 3) (pe_cal C_raised_head hr rfl (pa_cons (pv 1) (pa_cons (pv 2) pa_nil))) (nomark _)) (pw_or1 (pt_cmpR op_ne (pe_callB call_len_seq (by rfl) T.z_len (by decide +kernel) (pa_cons (pv 4) pa_nil)) (pv 2) (nomark _))))) (pss_one (ps_ret pe_bl)) pss_nil)
      (pss_one (ps_ret (pe_callB (cr_all rfl) (by rfl) T.z_all (by decide +kernel) (pa_cons (pe_lc (own := [("j", 5)]) (g := gName 5) rfl sc_is_long.nd (pi_range1 rfl T.z_range (pa_cons (pv 2) pa_nil)) (blkOk_by (N := N_is_long) (sc := defScope s_is_long) (by decide +kernel)) (fun _ _ _ _ _ => (pg_name (i := 5) sc_is_long.nd rfl (Or.inl rfl))) (fun _ _ _ _ _ => pts_nil) (fun _ _ _ _ _ => (pe_cal C_is_long hr rfl (pa_cons (pe_ix (r := rIxT K) ix_tup (pv 4) (pv 5) (fun _ _ => rfl)) (pa_cons (pe_tup (pa_cons pe_str (pa_cons (pe_op op_sub (pe_op op_sub (pv 2) pe_int) (pv 5)) pa_nil))) pa_nil))))) pa_nil)))))), ?_⟩
  walk_at "rd"
  refine r_gtup ha rfl ?_
  walk_at "rd"
  refine ⟨hv, hh, m, rfl, hdh, gh, fun r H1 k1 hr1 => ?_⟩
  refine ⟨x, raiseG m hh, 1000, h2.mono k1.t0, hr1, wx, rg.2.1 wh, by rw [dx]; exact Nat.le_trans (Nat.min_le_left _ _) (by decide), ?_⟩
  cases e1 : eqD x (raiseG m hh) with
  | false =>
    rw [e1] at q
    walk_at "rd"
    exact q H1 k1
  | true =>
    rw [e1] at q
    walk_at "rd"
    refine ⟨ap, xp, rfl, .inr (SqT.of (k1.get hap)), ?_⟩
    rw [lxp]
    walk_at "rd"
    refine if_2 (fun c => ?_) (fun c => ?_)
    · have e2 : ¬ m = (ps.length : Int) := fun z => by
        rw [z, decide_eq_true rfl] at c
        cases c
      rw [decide_eq_false e2] at q
      walk_at "rd"
      exact q H1 k1
    · have e2 : m = (ps.length : Int) := by
        rcases Classical.em (m = (ps.length : Int)) with z | z
        · exact z
        · rw [decide_eq_false fun y => z (V.int.inj y).symm] at c
          cases c
      subst e2
      rw [decide_eq_true rfl, isLgs_all] at q
      walk_at "rd"
      refine ⟨_, rfl, by omega, by omega, fun L nL => lc_it walk_range (fun j H' => Kp [] H1 H' ∧ H' L = some (.lst (((List.range j).map fun i => isLg (hb ((ps.length : Int) - 1 - (0 + i : Nat))) (ps.getD i .non)).map V.bl)))
        ⟨(Kp.refl _ _).up nL, upd_same⟩ (fun _ _ _ _ => trivial) ?_ ?_⟩
      · rintro j y H0 H2 hj ⟨k2, eL⟩ ⟨rfl, rfl⟩
        have hj' : j < ps.length := by simpa using hj
        have k02 := k1.trans k2
        have mj := List.getElem_mem hj'
        have mdp := dps_mem mj
        obtain ⟨w3, hw3, hdw3⟩ := (hps.mono k02.t0).of (List.getElem?_eq_getElem hj')
        walk_at "rd"
        refine ⟨rfl, ?_⟩
        walk_at "rd"
        refine r_ixT (k02.get hap) (by simpa using atI_nat hw3) ?_
        walk_at "rd"
        have ej : ((ps.length : Int) - 1 - (0 + (j : Int))) = (ps.length : Int) - 1 - (0 + j : Nat) := by omega
        refine r_tupN (ds := [.str "b", .int ((ps.length : Int) - 1 - (0 + j : Nat))]) (Dts.cons dt_str (Dts.cons (show (V.int _ : V) = .int _ by rw [ej]) Dts.nil)) (by simp) fun p1 H3 k3 t3 n3 e3 d3 => ?_
        walk_at "rd"
        refine ⟨w3, .ref p1, _, hb ((ps.length : Int) - 1 - (0 + j : Nat)), rfl, hdw3.mono t3, tps _ mj, d3, rfl, ⟨by show 2 ≤ 1000; decide, (by decide +kernel : Tx "b"), trivial, trivial⟩, by omega, fun H4 k4 => ?_⟩
        have eL4 := (k3.trans k4).get eL
        refine ⟨_, eL4, ?_, ((k2.trans k3).trans k4).own nL ⟨_, eL4, rfl⟩, ?_⟩
        · rw [List.length_map, List.length_map, List.length_range]
          exact Nat.lt_of_le_of_lt (show _ ≤ 1000 by omega) (by decide)
        · rw [upd_same, List.range_succ, List.map_append, List.map_append]
          have eg : ps.getD j .non = ps[j] := by rw [List.getD_eq_getElem?_getD, List.getElem?_eq_getElem hj']; rfl
          show some (HO.lst (_ ++ [V.bl _])) = some (HO.lst (_ ++ [V.bl (isLg _ (ps.getD j .non))]))
          rw [eg]
      · rintro H2 ⟨k2, eL⟩
        walk_at "rd"
        refine ⟨L, _, rfl, SqL.of eL, ?_⟩
        have e : ∀ l : List Nat, ((l.map fun i => isLg (hb ((ps.length : Int) - 1 - (0 + i : Nat))) (ps.getD i .non)).all id) = l.all fun i => isLg (hb ((ps.length : Int) - 1 - (0 + i : Nat))) (ps.getD i .non) := fun l => by
          rw [List.all_map]
          rfl
        rw [show ((ps.length : Int)).toNat = ps.length from rfl, e]
        exact q H2 (k1.trans k2)
theorem ok_lhB {k n : Nat} (F : Df K mg "long_head" s_long_head ["term"]) (T : Txt mg) (hk : 1 ≤ k) (C_raised_head : Cal P w K mg base "raised_head" ["head", "k"] 1 spRaised) (C_is_long : Cal P w K mg base "is_long" ["term", "head"] k (spIsLg n)) :
    Cal P w K mg base "long_head" ["term"] (k + 1) (spLhB n) := by
  replace C_raised_head := C_raised_head.mono hk
  refine F.ok sc_long_head (fun vs H Q E h => ?_) (fun f cdv A outer s H vs Q E hr h => ?_)
  · obtain ⟨v, d, rfl, _⟩ := h
    rfl
  obtain ⟨v, d, rfl, hd, tm, dn, q⟩ := h
  have hd0 := hd
  have tm0 := tm
  obtain ⟨m, x, ps, rfl, gx, wx, dx, tps, lps⟩ := tm.inv
  obtain ⟨a, xs, rfl, ha, v1, r1, rfl, h1, v2, r2, rfl, h2, v3, r3, rfl, h3, rfl⟩ := hd
  cases h1.int
  have rg := raise_g gx (-m)
  refine ⟨_, (pss_cons (ps_set (i := 1) sc_long_head.nd rfl (Or.inl rfl) (pe_cal C_raised_head hr rfl (pa_cons (pe_ix ix_tup (pv 0) pe_int (fun _ _ => rfl)) (pa_cons (pe_un un_neg (pe_ix ix_tup (pv 0) pe_int (fun _ _ => rfl))) pa_nil))))
      (pss_one (ps_ret (pe_ifExp (pt_val (pe_cal C_is_long hr rfl (pa_cons (pv 0) (pa_cons (pv 1) pa_nil)))) (pv 1) pe_non)))), ?_⟩
  walk_at "rd"
  refine r_ixT ha rfl ?_
  walk_at "rd"
  refine r_ixT ha rfl ?_
  walk_at "rd"
  refine ⟨m, rfl, ?_⟩
  walk_at "rd"
  refine ⟨v2, x, -m, rfl, h2, gx, fun r H1 k1 hr1 => ?_⟩
  walk_at "rd"
  refine r_ife ?_
  walk_at "rd"
  refine ⟨.ref a, r, _, raiseG (-m) x, rfl, hd0.mono k1.t0, tm0, hr1, rg.1, rg.2.1 wx, dn, fun H2 k2 => ?_⟩
  have el : lhD (.tup [.int m, x, .tup ps]) = if isLg (raiseG (-m) x) (.tup [.int m, x, .tup ps]) = true then raiseG (-m) x else .non := rfl
  rw [el] at q
  walk_at "rd"
  refine if_2 (fun c => ?_) (fun c => ?_)
  · rw [if_pos c] at q
    walk_at "rd"
    exact q r H2 (k1.trans k2) (hr1.mono k2.t0)
  · rw [if_neg (by rw [c]; decide)] at q
    walk_at "rd"
    exact q .non H2 (k1.trans k2) rfl
theorem ok_row {k n : Nat} (F : Df K mg "is_binder_row" s_is_binder_row ["parts"]) (T : Txt mg) (C_long_head : Cal P w K mg base "long_head" ["term"] k (spLhB n)) : Cal P w K mg base "is_binder_row" ["parts"] (k + 1) (spRow n) := by
  refine F.ok sc_is_binder_row (fun vs H Q E h => ?_) (fun f cdv A outer s H vs Q E hr h => ?_)
  · obtain ⟨a, xs, ps, rfl, _⟩ := h
    rfl
  obtain ⟨a, xs, ps, rfl, ha, hps, tps, few, q⟩ := h
  have lxs : xs.length = ps.length := hps.len
  refine ⟨_, (pss_cons (ps_setLc (i := 1) (own := [("part", 2)]) (g := gName 2) (by rfl) sc_is_binder_row.nd rfl rfl (sw_true rfl rfl rfl (by decide +kernel)) (pi_tup (pv 0)) (blkOk_by (N := N_is_binder_row) (sc := defScope s_is_binder_row) (by decide +kernel)) (fun _ _ _ _ _ => (pg_name (i := 2) sc_is_binder_row.nd rfl (Or.inl rfl))) (fun _ _ _ _ _ => pts_nil) (fun _ _ _ _ _ => (pe_cal C_long_head hr rfl (pa_cons (pv 2) pa_nil))))
      (pss_cons (ps_if (pt_not (pt_val (pe_callB (cr_all rfl) (by rfl) T.z_all (by decide +kernel) (pa_cons (pe_lc (own := [("head", 3)]) (g := gName 3) rfl sc_is_binder_row.nd (pi_list (pv 1)) (blkOk_by (N := N_is_binder_row) (sc := defScope s_is_binder_row) (by decide +kernel)) (fun _ _ _ _ _ => (pg_name (i := 3) sc_is_binder_row.nd rfl (Or.inl rfl))) (fun _ _ _ _ _ => pts_nil) (fun _ _ _ _ _ => (pe_and (pe_cmpR (r := rNotN) op_notN (pv 3) pe_non (nomark _)) (pe_one (pe_cmpR op_eq (pe_ix (r := rIxT K) ix_tup (pv 3) pe_int (fun _ _ => rfl)) pe_str (nomark _)))))) pa_nil)))) (pss_one (ps_ret pe_bl)) pss_nil)
      (pss_one (ps_ret (pe_cmpR op_eq (pe_lenSetP rfl (u150 hr) (by rfl) T.z_len (by rfl) T.z_set (pv 1)) (pe_callB call_len_seq (by rfl) T.z_len (by decide +kernel) (pa_cons (pv 1) pa_nil)) (nomark _)))))), ?_⟩
  walk_at "rd"
  refine ⟨a, rfl, ⟨_, SqT.of ha⟩, fun L nL => lc_it (walk_tup (K := K) (a := a) (xs := xs)) (fun j H' => ∃ ys, Kp [] H H' ∧ H' L = some (.lst ys) ∧ Dts H' ((ps.take j).map lhD) ys)
    ⟨[], (Kp.refl _ _).up nL, upd_same, (show Dts _ (([] : List D).map lhD) [] from rfl)⟩ (fun _ _ _ ⟨_, k, _⟩ => SqT.of (k.get ha)) ?_ ?_⟩
  · rintro j y H0 H2 hj ⟨ys, k2, eL, hys⟩ ⟨rfl, hy⟩
    obtain ⟨d, hd, hdy⟩ := (hps.mono k2.t0).at hy
    have md := List.mem_of_getElem? hd
    walk_at "rd"
    refine ⟨rfl, ?_⟩
    walk_at "rd"
    refine ⟨y, d, rfl, hdy, (tps d md).1, (tps d md).2, fun r H3 k3 hr3 => ?_⟩
    have eL3 := k3.get eL
    refine ⟨_, eL3, ?_, ys ++ [r], (k2.trans k3).own nL ⟨_, eL3, rfl⟩, upd_same, ?_⟩
    · have := hys.len
      rw [List.length_map, List.length_take] at this
      exact Nat.lt_of_le_of_lt (show _ ≤ 1000 by omega) (by decide)
    · rw [take_one hd, List.map_append]
      exact Dts.mono (fun p xs z => by rw [upd_ne (ne_of z eL3 (fun q => by cases q))]; exact z) ((hys.mono k3.t0).snoc hr3)
  · rintro H2 ⟨ys, k2, eL, hys⟩
    rw [List.take_of_length_le (by omega)] at hys
    have lys : ys.length = ps.length := by rw [hys.len, List.length_map]
    walk_at "rd"
    refine ⟨L, rfl, ⟨_, SqL.of eL⟩, fun M nM => lc_it (walk_list (K := K) (a := L) (xs := ys)) (fun j H' => Kp [] H2 H' ∧ H' M = some (.lst (((ps.take j).map fun p => (bNum (lhD p)).isSome).map V.bl)))
      ⟨(Kp.refl _ _).up nM, upd_same⟩ (fun _ _ _ ⟨k, _⟩ => SqL.of (k.get eL)) ?_ ?_⟩
    · rintro j y H0 H3 hj ⟨k3, eM⟩ ⟨rfl, hy⟩
      obtain ⟨d, hd, hdy⟩ := (hys.mono k3.t0).at hy
      rw [List.getElem?_map] at hd
      obtain ⟨p, hp, rfl⟩ := Option.map_eq_some_iff.mp hd
      have tp := (tps p (List.mem_of_getElem? hp)).1
      have put : ∀ b, b = (bNum (lhD p)).isSome → ∃ acc, H3 M = some (.lst acc) ∧ acc.length < sizeLine ∧ Kp [] H2 (upd H3 M (.lst (acc ++ [V.bl b]))) ∧ (upd H3 M (.lst (acc ++ [V.bl b]))) M = some (.lst (((ps.take (j + 1)).map fun p => (bNum (lhD p)).isSome).map V.bl)) := fun b eb => by
        refine ⟨_, eM, ?_, k3.own nM ⟨_, eM, rfl⟩, ?_⟩
        · rw [List.length_map, List.length_map, List.length_take]
          exact Nat.lt_of_le_of_lt (show _ ≤ 1000 by omega) (by decide)
        · rw [upd_same, take_one hp, List.map_append, List.map_append, eb]
          rfl
      walk_at "rd"
      refine ⟨rfl, ?_⟩
      walk_at "rd"
      refine ⟨rfl, ?_⟩
      obtain ⟨m, x, qs, rfl, gx, wx, dx, tqs, lqs⟩ := tp.inv
      have rg := raise_g gx (-m)
      have el : lhD (.tup [.int m, x, .tup qs]) = if isLg (raiseG (-m) x) (.tup [.int m, x, .tup qs]) = true then raiseG (-m) x else .non := rfl
      rw [el] at hdy put
      by_cases c : isLg (raiseG (-m) x) (.tup [.int m, x, .tup qs]) = true
      · rw [if_pos c] at hdy put
        rcases hdG_of rg.1 with ⟨s, i, e, es⟩ | ⟨u, e⟩
        · rw [e] at hdy put
          obtain ⟨ah, xh, rfl, hah, w1, r1, rfl, h1, w2, r2, rfl, h2, rfl⟩ := hdy
          cases h1.str
          refine ⟨true, rfl, ?_⟩
          walk_at "rd"
          refine r_ixT hah rfl ?_
          walk_at "rd"
          refine put _ ?_
          rcases es with rfl | rfl <;> rfl
        · rw [e] at hdy put
          obtain ⟨ah, xh, rfl, hah, w1, r1, rfl, h1, w2, r2, rfl, h2, rfl⟩ := hdy
          cases h1.str
          refine ⟨true, rfl, ?_⟩
          walk_at "rd"
          refine r_ixT hah rfl ?_
          walk_at "rd"
          exact put _ rfl
      · rw [if_neg c] at hdy put
        have ey : y = .non := hdy
        subst ey
        refine ⟨false, rfl, ?_⟩
        walk_at "rd"
        exact put _ rfl
    · rintro H3 ⟨k3, eM⟩
      rw [List.take_of_length_le (by omega)] at eM
      walk_at "rd"
      refine ⟨M, _, rfl, SqL.of eM, ?_⟩
      have e : (ps.map fun p => (bNum (lhD p)).isSome).all id = ps.all fun p => (bNum (lhD p)).isSome := by
        rw [List.all_map]
        rfl
      rw [e]
      have er : rowB ps = ((ps.all fun p => (bNum (lhD p)).isSome) && decide ((ps.map fun p => bNum (lhD p)).Nodup)) := rfl
      rw [er] at q
      cases c : (ps.all fun p => (bNum (lhD p)).isSome) with
      | false =>
        rw [c] at q
        walk_at "rd"
        exact q H3 (k2.trans k3)
      | true =>
        rw [c] at q
        have ex : ∃ is : List Int, ps.map lhD = is.map hb ∧ ps.map (fun p => bNum (lhD p)) = is.map some := by
          clear hps tps few q lxs hys lys eM e er
          induction ps with
          | nil => exact ⟨[], rfl, rfl⟩
          | cons p ps ih =>
            rw [List.all_cons, Bool.and_eq_true] at c
            obtain ⟨is, e1, e2⟩ := ih c.2
            obtain ⟨i, ei⟩ := Option.isSome_iff_exists.mp c.1
            exact ⟨i :: is, by rw [List.map_cons, List.map_cons, e1, bNum_some ei], by rw [List.map_cons, List.map_cons, e2, ei]⟩
        obtain ⟨is, e1, e2⟩ := ex
        rw [e1] at hys
        obtain ⟨ks, eys, hk, ek⟩ := pairs_of hys
        have lk : ks.length = ps.length := by rw [← lys, eys, List.length_map]
        have eLL : H3 L = some (.lst (ks.map fun p => V.ref p.1)) := by rw [← eys]; exact k3.get eL
        walk_at "rd"
        refine r_lenP ?_
        walk_at "rd"
        refine ⟨L, ks, rfl, SqL.of eLL, fun p hp => SqT.of (k3.get (hk p hp)), by omega, fun m hm em => ?_⟩
        walk_at "rd"
        refine ⟨L, ks.map fun p => V.ref p.1, rfl, .inl (SqL.of eLL), ?_⟩
        walk_at "rd"
        have eb : decide (V.int (m : Nat) = V.int ((ks.map fun p => V.ref p.1).length : Nat)) = decide ((ps.map fun p => bNum (lhD p)).Nodup) := by
          rw [List.length_map, e2]
          rw [ek, some_map] at em
          by_cases z : m = ks.length
          · rw [z, decide_eq_true rfl, decide_eq_true (em.mp z)]
          · rw [decide_eq_false fun y => z (by have := V.int.inj y; omega), decide_eq_false fun y => z (em.mpr y)]
        rw [eb]
        exact q H3 (k2.trans k3)
end
end K02
end

section
/-! Numbers of nodes; the binders that a term uses. -/
namespace K02
open PySem L2 PyProof.Rows PySem.Spec Lc
variable [Lc.Tbs]
local macro_rules | `(tactic| walk_at "rd") => `(tactic| repeat (first
  | with_reducible refine r_seq ?_ | with_reducible refine r_mknx ?_ | with_reducible refine r_mkrt ?_ | with_reducible refine r_asg ?_ | with_reducible refine r_name ?_ | with_reducible refine r_next ?_
  | with_reducible refine r_drop ?_ | with_reducible refine r_ret ?_ | with_reducible refine r_if ?_
  | ((with_reducible refine' r_var ?e ?_); (case e => rfl)) | with_reducible refine r_c ?_ | with_reducible refine r_op ?_ | with_reducible refine r_un ?_ | with_reducible refine r_test ?_ | with_reducible refine r_tb ?_
  | with_reducible refine r_and ?_ | with_reducible refine r_or ?_ | with_reducible refine r_not ?_ | with_reducible refine r_andV ?_ | with_reducible refine r_orV ?_ | with_reducible refine r_notV ?_ | with_reducible refine r_bl ?_
  | with_reducible refine r_cb ?_ | with_reducible refine r_cons ?_ | with_reducible refine r_nil ?_ | with_reducible refine r_tup ?_ | with_reducible refine r_lst ?_ | with_reducible refine r_call ?_
  | with_reducible refine r_i0 ?_ | with_reducible refine r_par ?_ | with_reducible refine r_two ?_ | with_reducible refine r_lc ?_ | with_reducible refine r_iL ?_ | with_reducible refine r_iT ?_ | with_reducible refine r_iS ?_ | with_reducible refine r_i1 ?_ | with_reducible refine r_yes ?_ | with_reducible refine r_chain ?_ | with_reducible refine if_t rfl ?_ | with_reducible refine if_f rfl ?_ | with_reducible refine r_nt ?_ | ((with_reducible refine r_eq ?e ?_); (case e => rfl)) | ((with_reducible refine r_ne ?e ?_); (case e => rfl))
  | with_reducible refine r_sub ?_ | with_reducible refine r_sl ?_ | with_reducible refine r_nopart ?_ | with_reducible refine r_part ?_ | with_reducible refine r_int ?_ | with_reducible refine r_bm ?_ | with_reducible refine r_bm0 ?_ | with_reducible refine r_gcons ?_ | with_reducible refine r_gnil ?_ | with_reducible refine r_dget1 ?_ | with_reducible refine r_dget2 ?_ | with_reducible refine r_dgetR ?_ | with_reducible refine r_dset ?_ | with_reducible refine r_dc ?_ | with_reducible refine r_keys ?_ | with_reducible refine r_ckw ?_ | with_reducible refine r_dput ?_ | with_reducible refine r_dnotin ?_))


local macro_rules | `(tactic| walk_at "dt") => `(tactic| repeat' (first | (show Dt _ _ _; assumption) | exact dt_str | exact dt_int | exact dt_bl | exact dt_non | exact Dts.nil | refine' Dts.cons ?_ ?_ | (refine' Dt.mono ?kk ?_; (case kk => assumption)) | fail))
local macro_rules | `(tactic| walk_at "at") => `(tactic| repeat (first | assumption | (refine' Kp.ge ?kk ?nn ?_; (case kk => assumption); (case nn => intro _ z; cases z)) | fail))
local macro_rules | `(tactic| walk_at "kp") => `(tactic| repeat (first | assumption | exact Kp.refl _ _ | (refine' Kp.trans ?_ ?kk; (case kk => assumption)) | fail))
local macro_rules | `(tactic| walk_at "tup") => `(tactic| (refine' r_tupN ?h ?f ?k; (case h => walk_at "dt"); (case f => simp); skip))
mutual
/-- how many nodes -/
def nds : D → Nat
  | .tup [.int _, _, .tup ps] => 1 + ndss ps
  | _ => 0
def ndss : List D → Nat
  | [] => 0
  | p :: ps => nds p + ndss ps
end
theorem nds_eq (n : Int) (h : D) (ps : List D) : nds (.tup [.int n, h, .tup ps]) = 1 + ndss ps := by rw [nds]
theorem ndss_map : ∀ ps : List D, ndss ps = (ps.map nds).sum
  | [] => rfl
  | p :: ps => by rw [ndss, ndss_map ps, List.map_cons, List.sum_cons]
mutual
theorem preo_nds : ∀ (d : D) (o : Int), tmF d = true → (preo o d).length = nds d
  | .tup xs, o, f => by
    obtain ⟨n, h, ps, e, fp⟩ := tmF_of f
    injection e with e
    subst e
    rw [preo_eq, nds_eq, List.length_cons, preos_ndss ps (o + n) fp, Nat.add_comm]
  | .non, o, f => by simp [tmF] at f
  | .bl _, o, f => by simp [tmF] at f
  | .int _, o, f => by simp [tmF] at f
  | .str _, o, f => by simp [tmF] at f
theorem preos_ndss : ∀ (ds : List D) (o : Int), tmFs ds = true → (preos o ds).length = ndss ds
  | [], o, _ => by rw [preos, ndss]; rfl
  | d :: ds, o, f => by
    rw [tmFs, Bool.and_eq_true] at f
    rw [preos, ndss, List.length_append, preo_nds d o f.1, preos_ndss ds o f.2]
end
def spLSize (n : Nat) : Sp := fun vs H Q _ => ∃ v d, vs = [v] ∧ Dt H d v ∧ tmF d = true ∧ d.dp < n ∧ d.sz ≤ 13000000 ∧ ∀ H', Kp [] H H' → Q (.int (nds d : Nat)) H'
def spSize : Sp := fun vs H Q _ => ∃ v d, vs = [v] ∧ Dt H d v ∧ tmF d = true ∧ d.sz ≤ 1000000 ∧ ∀ H', Kp [] H H' → Q (.int (nds d : Nat)) H'
/-- a binder from without that is none of ns -/
def offU (n0 : Int) (ns : List Int) (x : Pl) : Bool := match x with
  | (.tup [_, .tup [.str s, .int m], _], i) => decide (s = "b") && decide (i - n0 ≤ m) && !ns.any fun j => decide (m - (i - n0) = j)
  | _ => false
def spUses : Sp := fun vs H Q _ => ∃ (v : V) (L : Addr) (n0 : Int) (h : D) (ps : List D) (ns : List Int), vs = [v, .ref L] ∧ Dt H (.tup [.int n0, h, .tup ps]) v ∧ tmG (.tup [.int n0, h, .tup ps]) = true ∧ (D.tup [.int n0, h, .tup ps]).sz ≤ 1000000 ∧ H L = some (.lst (ns.map V.int)) ∧ ns.length ≤ 1000 ∧
  ∀ H', Kp [] H H' → Q (.bl (!(preo 0 (.tup [.int n0, h, .tup ps])).any (offU n0 ns))) H'
abbrev s_size : Stmt := top 7
abbrev N_size : List Str := ["term"]
theorem sc_size : FnScope N_size ["term"] (defScope s_size) := ⟨rfl, rfl, rfl, by decide +kernel, rfl, by decide +kernel, by decide +kernel⟩
abbrev s_law_size : Stmt := top 21
abbrev N_law_size : List Str := ["term", "part"]
theorem sc_law_size : FnScope N_law_size ["term"] (defScope s_law_size) := ⟨rfl, rfl, rfl, by decide +kernel, rfl, by decide +kernel, by decide +kernel⟩
section
variable {P : Program} {w : World} {K : PySem.W.Frag} {mg : Str → Option Value} {base : Heap}
theorem ok_lsize0 {n : Nat} (F : Df K mg "_law_size" s_law_size ["term"]) (T : Txt mg) (C_law_size : Cal P w K mg base "_law_size" ["term"] n (spLSize n)) : Cal P w K mg base "_law_size" ["term"] (n + 1) (spLSize (n + 1)) := by
  refine F.ok sc_law_size (fun vs H Q E h => ?_) (fun f cdv A outer s H vs Q E hr h => ?_)
  · obtain ⟨v, d, rfl, _⟩ := h
    rfl
  obtain ⟨v, d, rfl, hd, fm, dn, zd, q⟩ := h
  obtain ⟨m, x, ps, rfl, fp⟩ := tmF_of fm
  obtain ⟨a, xs, rfl, ha, v1, r1, rfl, h1, v2, r2, rfl, h2, v3, r3, rfl, h3, rfl⟩ := hd
  obtain ⟨ap, xp, rfl, hap, hps⟩ := h3.tup
  have lxp : xp.length = ps.length := hps.len
  have b1 : dps ps < n := by
    have e1 : (D.tup [.int m, x, .tup ps]).dp = 1 + max 1 (max x.dp (max (1 + dps ps) 0)) := rfl
    omega
  have e2 : (D.tup [.int m, x, .tup ps]).sz = 1 + (1 + (x.sz + ((1 + szs ps) + 0))) := rfl
  have l9 := szs_len ps
  refine ⟨_, (pss_one (ps_ret (pe_op op_add pe_int (pe_callB (cr_sum rfl) (by rfl) T.z_sum (by decide +kernel) (pa_cons (pe_lc (own := [("part", 1)]) (g := gName 1) rfl sc_law_size.nd (pi_tup (pe_ix ix_tup (pv 0) pe_int (fun _ _ => rfl))) (blkOk_by (N := N_law_size) (sc := defScope s_law_size) (by decide +kernel)) (fun _ _ _ _ _ => (pg_name (i := 1) sc_law_size.nd rfl (Or.inl rfl))) (fun _ _ _ _ _ => pts_nil) (fun _ _ _ _ _ => (pe_cal C_law_size hr rfl (pa_cons (pv 1) pa_nil)))) pa_nil))))), ?_⟩
  walk_at "rd"
  refine r_ixT ha rfl ?_
  refine ⟨ap, rfl, ⟨_, SqT.of hap⟩, fun L nL => lc_it (walk_tup (K := K) (a := ap) (xs := xp)) (fun i H' => H' L = some (.lst (((ps.take i).map fun p => ((nds p : Nat) : Int)).map V.int)) ∧ Kp [] H H')
    ⟨upd_same, (Kp.refl _ _).up nL⟩ (fun i H' _ ⟨_, k⟩ => SqT.of (k.get hap)) ?_ ?_⟩
  · rintro i y H0 H2 hi ⟨eL, k2⟩ ⟨rfl, hy⟩
    obtain ⟨p, hp, hpy⟩ := (hps.mono k2.t0).at hy
    have mp := List.mem_of_getElem? hp
    have m1 := dps_mem mp
    have m2 := szs_mem mp
    walk_at "rd"
    refine ⟨rfl, ?_⟩
    walk_at "rd"
    refine ⟨y, p, rfl, hpy, tmFs_mem fp p mp, by omega, by omega, fun H3 k3 => ?_⟩
    have eL3 := k3.get eL
    refine ⟨_, eL3, ?_, ?_, (k2.trans k3).own nL ⟨_, eL3, rfl⟩⟩
    · rw [List.length_map, List.length_map, List.length_take]
      exact Nat.lt_of_le_of_lt (show _ ≤ 13000000 by omega) (by decide)
    · rw [upd_same, take_one hp, List.map_append, List.map_append]
      rfl
  · rintro H2 ⟨eL, k2⟩
    rw [List.take_of_length_le (by omega)] at eL
    walk_at "rd"
    refine ⟨L, _, rfl, SqL.of eL, ?_⟩
    walk_at "rd"
    have es : ∀ l : List D, (1 : Int) + (l.map fun p => ((nds p : Nat) : Int)).sum = ((1 + ndss l : Nat) : Int) := fun l => by
      induction l with
      | nil => rfl
      | cons p l ih =>
        rw [List.map_cons, List.sum_cons, ndss]
        omega
    rw [es, ← nds_eq m x ps]
    exact q H2 k2
theorem ok_size (F : Df K mg "size" s_size ["term"]) (T : Txt mg) (C_places : Cal P w K mg base "places" ["term"] 1 spPlaces) : Cal P w K mg base "size" ["term"] 2 spSize := by
  refine F.ok sc_size (fun vs H Q E h => ?_) (fun f cdv A outer s H vs Q E hr h => ?_)
  · obtain ⟨v, d, rfl, _⟩ := h
    rfl
  obtain ⟨v, d, rfl, hd, fm, zd, q⟩ := h
  refine ⟨_, (pss_one (ps_ret (pe_callB call_len_seq (by rfl) T.z_len (by decide +kernel) (pa_cons (pe_cal C_places hr rfl (pa_cons (pv 0) pa_nil)) pa_nil)))), ?_⟩
  walk_at "rd"
  refine ⟨v, d, rfl, hd, fm, zd, fun L ys H1 k1 nL eL hys => ?_⟩
  walk_at "rd"
  refine ⟨L, ys, rfl, .inl (SqL.of eL), ?_⟩
  have := hys.len
  rw [List.length_map, preo_nds d 0 fm] at this
  rw [this]
  exact q H1 k1
theorem inV_ints {m : Int} : ∀ {ns : List Int}, inV (.int m) (ns.map V.int) = ns.any fun j => decide (m = j)
  | [] => rfl
  | n :: ns => by
    have ih := inV_ints (m := m) (ns := ns)
    unfold inV at *
    rw [List.map_cons, List.any_cons, List.any_cons, ih]
    have e : eqV (.int n) (.int m) = decide (m = n) := by
      show decide _ = _
      refine decide_eq_decide.mpr ?_
      omega
    rw [e]
theorem flat_ints (ns : List Int) : (ns.map V.int).all flatV = true := by
  rw [List.all_eq_true]
  intro x hx
  obtain ⟨n, _, rfl⟩ := List.mem_map.mp hx
  rfl
mutual
theorem preo_form : ∀ (d : D) (o : Int), tmG d = true → ∀ x ∈ preo o d, ∃ n h ps, x.1 = .tup [.int n, h, .tup ps] ∧ hdG h = true
  | .tup xs, o, h, x, hx => by
    obtain ⟨n, y, ps, e, gy, gp⟩ := tmG_of h
    injection e with e
    subst e
    rw [preo_eq] at hx
    rcases List.mem_cons.mp hx with rfl | hx
    · exact ⟨n, y, ps, rfl, gy⟩
    · exact preos_form ps (o + n) gp x hx
  | .non, _, h, _, _ => by simp [tmG] at h
  | .bl _, _, h, _, _ => by simp [tmG] at h
  | .int _, _, h, _, _ => by simp [tmG] at h
  | .str _, _, h, _, _ => by simp [tmG] at h
theorem preos_form : ∀ (ds : List D) (o : Int), tmGs ds = true → ∀ x ∈ preos o ds, ∃ n h ps, x.1 = .tup [.int n, h, .tup ps] ∧ hdG h = true
  | [], _, _, x, hx => by rw [preos] at hx; cases hx
  | d :: ds, o, h, x, hx => by
    rw [tmGs, Bool.and_eq_true] at h
    rw [preos] at hx
    rcases List.mem_append.mp hx with hx | hx
    · exact preo_form d o h.1 x hx
    · exact preos_form ds o h.2 x hx
end
end
end K02
end

section
/-! Equations simplified, in data. -/
namespace Lc
open PySem L2 PyProof.Rows PySem.Spec
variable [Lc.Tbs]
def hdH : D → Bool
  | .tup [.str s, _] => decide (s = "h")
  | _ => false
theorem hdH_inv {x : D} (g : hdG x = true) (h : hdH x = true) : ∃ i, x = hd2 "h" i := by
  rcases hdG_of g with ⟨s, i, rfl, e⟩ | ⟨u, rfl⟩
  · have z : s = "h" := of_decide_eq_true h
    exact ⟨i, by rw [z]⟩
  · have z : (("c" : Str) = "h") := of_decide_eq_true h
    exact absurd z (by decide)
theorem hdH_not {x : D} (g : hdG x = true) (h : hdH x = false) : NotH x := by
  rcases hdG_of g with ⟨s, i, rfl, rfl | rfl⟩ | ⟨u, rfl⟩
  · exact .inl ⟨i, rfl⟩
  · exact absurd rfl (of_decide_eq_false h : ¬ (("h" : Str) = "h"))
  · exact .inr ⟨u, rfl⟩
def zeroD : D → D
  | .tup [_, h, p] => .tup [.int 0, h, p]
  | d => d
def rowT (own : List Ty) (s : Str) (l r : D) : D := .tup [.tup (tyds own), .tup [.tup [], .str s], zeroD l, zeroD r]
mutual
def simpD (sg : Sg) (own : List Ty) (k : Ty) : D → D → Option (List D)
  | .tup [.int n, x, .tup ps], r => match r with
    | .tup [.int m, y, .tup qs] => if (hdH x || hdH y) = true then (if eqD (.tup [.int n, x, .tup ps]) (.tup [.int m, y, .tup qs]) = true then some [] else some [rowT (own ++ k.as) k.s (.tup [.int n, x, .tup ps]) (.tup [.int m, y, .tup qs])])
      else if eqD x y = true then (match hdB sg [] (own ++ k.as) x with
        | none => some []
        | some t => simpDs sg (own ++ k.as) t.as ps qs)
      else none
    | _ => some []
  | _, _ => some []
def simpDs (sg : Sg) (own : List Ty) : List Ty → List D → List D → Option (List D)
  | ts, p :: ps, qs => match ts, qs with
    | t :: ts, q :: qs => (match simpD sg own t p q with
      | none => none
      | some a => match simpDs sg own ts ps qs with
        | none => none
        | some b => some (a ++ b))
    | _, _ => some []
  | _, [], _ => some []
end
theorem simpD_eq (sg : Sg) (own : List Ty) (k : Ty) (n m : Int) (x y : D) (ps qs : List D) : simpD sg own k (.tup [.int n, x, .tup ps]) (.tup [.int m, y, .tup qs]) = if (hdH x || hdH y) = true then (if eqD (.tup [.int n, x, .tup ps]) (.tup [.int m, y, .tup qs]) = true then some [] else some [rowT (own ++ k.as) k.s (.tup [.int n, x, .tup ps]) (.tup [.int m, y, .tup qs])])
      else if eqD x y = true then (match hdB sg [] (own ++ k.as) x with
        | none => some []
        | some t => simpDs sg (own ++ k.as) t.as ps qs)
      else none := by rw [simpD]
theorem simpDs_cons (sg : Sg) (own : List Ty) (t : Ty) (ts : List Ty) (p q : D) (ps qs : List D) : simpDs sg own (t :: ts) (p :: ps) (q :: qs) = (match simpD sg own t p q with
      | none => none
      | some a => match simpDs sg own ts ps qs with
        | none => none
        | some b => some (a ++ b)) := by rw [simpDs]
/-- what is still to be done -/
structure Tsk where
  own : List Ty
  k : Ty
  l : D
  r : D
def tskD (t : Tsk) : D := .tup [.tup (tyds t.own), t.k.d, t.l, t.r]
def runT (sg : Sg) : List Tsk → Option (List D)
  | [] => some []
  | t :: ts => match simpD sg t.own t.k t.l t.r with
    | none => none
    | some a => match runT sg ts with
      | none => none
      | some b => some (a ++ b)
theorem runT_app (sg : Sg) : ∀ a b : List Tsk, runT sg (a ++ b) = match runT sg a with
    | none => none
    | some x => match runT sg b with
      | none => none
      | some y => some (x ++ y)
  | [], b => by
    show runT sg b = match runT sg b with
      | none => none
      | some y => some ([] ++ y)
    cases runT sg b with
    | none => rfl
    | some y => rfl
  | t :: a, b => by
    have ih := runT_app sg a b
    show (match simpD sg t.own t.k t.l t.r with | none => none | some x => match runT sg (a ++ b) with | none => none | some y => some (x ++ y)) = match (match simpD sg t.own t.k t.l t.r with | none => none | some x => match runT sg a with | none => none | some y => some (x ++ y)) with
      | none => none
      | some x => match runT sg b with
        | none => none
        | some y => some (x ++ y)
    rw [ih]
    cases simpD sg t.own t.k t.l t.r with
    | none => rfl
    | some x =>
      cases runT sg a with
      | none => rfl
      | some y =>
        cases runT sg b with
        | none => rfl
        | some z =>
          show some (x ++ (y ++ z)) = some ((x ++ y) ++ z)
          rw [List.append_assoc]
/-- the parts as tasks -/
def kidT (own : List Ty) : List Ty → List D → List D → List Tsk
  | t :: ts, p :: ps, q :: qs => ⟨own, t, p, q⟩ :: kidT own ts ps qs
  | _, _, _ => []
theorem run_kidT (sg : Sg) (own : List Ty) : ∀ (ts : List Ty) (ps qs : List D), simpDs sg own ts ps qs = runT sg (kidT own ts ps qs)
  | t :: ts, p :: ps, q :: qs => by
    rw [simpDs_cons, run_kidT sg own ts ps qs]
    rfl
  | [], [], _ => by rw [simpDs]; rfl
  | _ :: _, [], _ => by rw [simpDs]; rfl
  | [], p :: ps, qs => by
    rw [simpDs]
    · rfl
    · intro t ts q qs h1
      cases h1
  | t :: ts, p :: ps, [] => by
    rw [simpDs]
    · rfl
    · intro t ts q qs h1 h2
      cases h2
theorem kidT_at {own : List Ty} : ∀ {ts : List Ty} {ps qs : List D} {j : Nat} {t : Ty} {p q : D}, ts[j]? = some t → ps[j]? = some p → qs[j]? = some q → (kidT own ts ps qs)[j]? = some ⟨own, t, p, q⟩
  | t :: ts, p :: ps, q :: qs, 0, _, _, _, h1, h2, h3 => by
    cases h1
    cases h2
    cases h3
    rfl
  | t :: ts, p :: ps, q :: qs, j + 1, _, _, _, h1, h2, h3 => by
    show (kidT own ts ps qs)[j]? = _
    exact kidT_at (by simpa using h1) (by simpa using h2) (by simpa using h3)
  | [], _, _, _, _, _, _, h1, _, _ => by simp at h1
  | _ :: _, [], _, _, _, _, _, _, h2, _ => by simp at h2
  | _ :: _, _ :: _, [], _, _, _, _, _, _, h3 => by simp at h3
theorem kidT_len {own : List Ty} : ∀ {ts : List Ty} {ps qs : List D}, ts.length = ps.length → ps.length = qs.length → (kidT own ts ps qs).length = ps.length
  | [], [], [], _, _ => rfl
  | t :: ts, p :: ps, q :: qs, h1, h2 => by
    show (kidT own ts ps qs).length + 1 = _
    rw [kidT_len (Nat.succ.inj h1) (Nat.succ.inj h2)]
    rfl
  | [], _ :: _, _, h, _ => by cases h
  | _ :: _, [], _, h, _ => by cases h
  | [], [], _ :: _, _, h => by cases h
  | _ :: _, _ :: _, [], _, h => by cases h
mutual
/-- what is equal leaves nothing -/
theorem simp_refl {sg : Sg} {hs : List Ty} {W : Nat} : ∀ (own : List Ty) (k : Ty) (d : D), tmB sg hs own k d = true → Wd Tx W d → simpD sg own k d d = some []
  | own, k, .tup xs, h, w => by
    obtain ⟨x, ps, t, e, h1, h2, h3, h4⟩ := tmB_inv h
    injection e with e
    subst e
    rw [simpD_eq]
    have gx := hdB_G h1
    by_cases c : (hdH x || hdH x) = true
    · rw [if_pos c, if_pos (eqD_refl w)]
    · rw [if_neg c, if_pos (eqD_refl w.2.2.1)]
      have c' : hdH x = false := by simpa using c
      rw [hd_notH (hs' := hs) (hdH_not gx c'), h1]
      exact simps_refl _ _ ps h4 w.2.2.2.1.2
  | _, _, .non, h, _ => by simp [tmB] at h
  | _, _, .bl _, h, _ => by simp [tmB] at h
  | _, _, .int _, h, _ => by simp [tmB] at h
  | _, _, .str _, h, _ => by simp [tmB] at h
theorem simps_refl {sg : Sg} {hs : List Ty} {W : Nat} : ∀ (own : List Ty) (ts : List Ty) (ps : List D), tmsB sg hs own ts ps = true → Wds Tx W ps → simpDs sg own ts ps ps = some []
  | _, ts, [], _, _ => by
    cases ts <;> rw [simpDs]
  | own, ts, p :: ps, h, w => by
    cases ts with
    | nil => simp [tmsB] at h
    | cons t ts =>
      rw [tmsB] at h
      have h' : (tmB sg hs own t p && tmsB sg hs own ts ps) = true := h
      rw [Bool.and_eq_true] at h'
      rw [simpDs_cons, simp_refl own t p h'.1 w.1, simps_refl own ts ps h'.2 w.2]
      rfl
end
end Lc
end

section
/-! What is a pattern: data, the program. -/
namespace K02
open PySem L2 PyProof.Rows PySem.Spec Lc
variable [Lc.Tbs]
local macro_rules | `(tactic| walk_at "rd") => `(tactic| repeat (first
  | with_reducible refine r_seq ?_ | with_reducible refine r_mknx ?_ | with_reducible refine r_mkrt ?_ | with_reducible refine r_asg ?_ | with_reducible refine r_name ?_ | with_reducible refine r_next ?_
  | with_reducible refine r_drop ?_ | with_reducible refine r_ret ?_ | with_reducible refine r_if ?_
  | ((with_reducible refine' r_var ?e ?_); (case e => rfl)) | with_reducible refine r_c ?_ | with_reducible refine r_op ?_ | with_reducible refine r_un ?_ | with_reducible refine r_test ?_ | with_reducible refine r_tb ?_
  | with_reducible refine r_and ?_ | with_reducible refine r_or ?_ | with_reducible refine r_not ?_ | with_reducible refine r_andV ?_ | with_reducible refine r_orV ?_ | with_reducible refine r_notV ?_ | with_reducible refine r_bl ?_
  | with_reducible refine r_cb ?_ | with_reducible refine r_cons ?_ | with_reducible refine r_nil ?_ | with_reducible refine r_tup ?_ | with_reducible refine r_lst ?_ | with_reducible refine r_call ?_
  | with_reducible refine r_i0 ?_ | with_reducible refine r_par ?_ | with_reducible refine r_two ?_ | with_reducible refine r_lc ?_ | with_reducible refine r_iL ?_ | with_reducible refine r_iT ?_ | with_reducible refine r_iS ?_ | with_reducible refine r_i1 ?_ | with_reducible refine r_yes ?_ | with_reducible refine r_chain ?_ | with_reducible refine if_t rfl ?_ | with_reducible refine if_f rfl ?_ | with_reducible refine r_nt ?_ | ((with_reducible refine r_eq ?e ?_); (case e => rfl)) | ((with_reducible refine r_ne ?e ?_); (case e => rfl))
  | with_reducible refine r_sub ?_ | with_reducible refine r_sl ?_ | with_reducible refine r_nopart ?_ | with_reducible refine r_part ?_ | with_reducible refine r_int ?_ | with_reducible refine r_bm ?_ | with_reducible refine r_bm0 ?_ | with_reducible refine r_gcons ?_ | with_reducible refine r_gnil ?_ | with_reducible refine r_dget1 ?_ | with_reducible refine r_dget2 ?_ | with_reducible refine r_dgetR ?_ | with_reducible refine r_dset ?_ | with_reducible refine r_dc ?_ | with_reducible refine r_keys ?_ | with_reducible refine r_ckw ?_ | with_reducible refine r_dput ?_ | with_reducible refine r_dnotin ?_))


local macro_rules | `(tactic| walk_at "dt") => `(tactic| repeat' (first | (show Dt _ _ _; assumption) | exact dt_str | exact dt_int | exact dt_bl | exact dt_non | exact Dts.nil | refine' Dts.cons ?_ ?_ | (refine' Dt.mono ?kk ?_; (case kk => assumption)) | fail))
local macro_rules | `(tactic| walk_at "at") => `(tactic| repeat (first | assumption | (refine' Kp.ge ?kk ?nn ?_; (case kk => assumption); (case nn => intro _ z; cases z)) | fail))
local macro_rules | `(tactic| walk_at "kp") => `(tactic| repeat (first | assumption | exact Kp.refl _ _ | (refine' Kp.trans ?_ ?kk; (case kk => assumption)) | fail))
local macro_rules | `(tactic| walk_at "tup") => `(tactic| (refine' r_tupN ?h ?f ?k; (case h => walk_at "dt"); (case f => simp); skip))
theorem raise_hb (n m : Int) : raiseG n (hb m) = hb (m + n) := by
  show raiseH "b" m n = _
  unfold raiseH
  rw [if_pos rfl]
theorem hb_w (m : Int) : Wd Tx 1000 (hb m) := ⟨by show 2 ≤ 1000; decide, (by decide +kernel : Tx "b"), trivial, trivial⟩
theorem lg_inv : ∀ (z : Nat) (d : D) (m : Int), d.sz ≤ z → tmG d = true → isLg (hb m) d = true → ∃ u : Lc.Ty, d = longD "b" m u := fun z => by
  induction z with
  | zero => intro d m l; have := D.sz_pos d; omega
  | succ z ih =>
    intro d m l g h
    obtain ⟨n, x, ps, rfl, gx, gp⟩ := tmG_of g
    have esz : (D.tup [.int n, x, .tup ps]).sz = 1 + (1 + (x.sz + ((1 + szs ps) + 0))) := rfl
    rw [isLg_eq, Bool.and_eq_true, Bool.and_eq_true] at h
    obtain ⟨e1, e2, e3⟩ := h
    have en := of_decide_eq_true e2
    subst en
    have ex := eqD_hd gx (raise_g (h := hb m) rfl _).1 e1
    have many : ∀ (N : Nat) (qs : List D) (j : Nat), (∀ q ∈ qs, q ∈ ps) → isLgs N j qs = true → ∃ us : List Lc.Ty, qs = longs N j us := fun N qs => by
      induction qs with
      | nil => intro j _ _; exact ⟨[], by rw [longs]⟩
      | cons q qs ihq =>
        intro j s h
        rw [isLgs, Bool.and_eq_true] at h
        have mq := s q List.mem_cons_self
        obtain ⟨u, eu⟩ := ih q _ (by have := szs_mem mq; omega) (tmGs_mem' gp q mq) h.1
        obtain ⟨us, eus⟩ := ihq (j + 1) (fun y hy => s y (List.mem_cons_of_mem _ hy)) h.2
        exact ⟨u :: us, by rw [longs, ← eu, ← eus]⟩
    obtain ⟨us, eus⟩ := many ps.length ps 0 (fun _ h => h) e3
    have lu : us.length = ps.length := by
      have z := congrArg List.length eus
      rw [longs_len] at z
      exact z.symm
    refine ⟨.mk us "a", ?_⟩
    rw [longD_eq]
    show _ = D.tup [.int us.length, raiseH "b" m us.length, .tup (longs us.length 0 us)]
    rw [lu, ← eus, ex]
    rfl
theorem lg_long : ∀ (z : Nat) (t : Lc.Ty) (m : Int), t.d.dp < z → isLg (hb m) (longD "b" m t) = true := fun z => by
  induction z with
  | zero => intro t m l; omega
  | succ z ih =>
    intro t m l
    rw [longD_eq, isLg_eq, raise_hb]
    have e1 : raiseH "b" m t.as.length = hb (m + t.as.length) := by unfold raiseH; rw [if_pos rfl]
    rw [e1, eqD_refl (hb_w _), longs_len, decide_eq_true rfl, Bool.true_and, Bool.true_and]
    have many : ∀ (N : Nat) (ts : List Lc.Ty) (j : Nat), (∀ t' ∈ ts, t' ∈ t.as) → isLgs N j (longs N j ts) = true := fun N ts => by
      induction ts with
      | nil => intro j _; rw [longs, isLgs]
      | cons t' ts iht =>
        intro j s
        have mt := ty_dp_mem (s t' List.mem_cons_self)
        rw [longs, isLgs, ih t' _ (by omega), iht (j + 1) fun y hy => s y (List.mem_cons_of_mem _ hy)]
        rfl
    exact many _ _ 0 fun _ h => h
/-- what a typed long form is -/
theorem long_same {sg : Sg} {hs : List Lc.Ty} : ∀ (z : Nat) (u t : Lc.Ty) (own : List Lc.Ty) (i : Int), u.d.dp < z → tmB sg hs own t (longD "b" i u) = true → hdB sg hs own (hb i) = some t → 0 ≤ i → longD "b" i u = longD "b" i t := fun z => by
  induction z with
  | zero => intro u t own i l; omega
  | succ z ih =>
    intro u t own i l h hv i0
    have h0 := h
    obtain ⟨x, ps, t', e, h1, h2, h3, h4⟩ := tmB_inv h
    rw [longD_eq] at e
    injection e with e
    injection e with e0 e
    injection e with e1 e
    injection e with e _
    injection e with e
    injection e0 with e0
    have lu : u.as.length = t.as.length := by omega
    subst e e1
    have ex : raiseH "b" i u.as.length = hb (i + u.as.length) := by unfold raiseH; rw [if_pos rfl]
    rw [ex] at h1
    obtain ⟨_, il⟩ := hdB_b_inv hv
    rw [hdB_bI i0 il] at hv
    have ev : t' = t := by
      rw [hdB_bI (by omega) (by rw [List.length_append]; omega), List.getElem?_append_left (by rw [List.length_append]; omega)] at h1
      have j1 : (own ++ t.as).length - 1 - (i + (u.as.length : Nat)).toNat = own.length - 1 - i.toNat := by
        rw [List.length_append]
        omega
      rw [j1, hv] at h1
      exact (Option.some.inj h1).symm
    subst ev
    rw [longD_eq "b" i u, longD_eq "b" i t', lu]
    have el : longs u.as.length 0 u.as = longs t'.as.length 0 t'.as := by
      apply List.ext_getElem?
      intro j
      rcases Nat.lt_or_ge j t'.as.length with lj | lj
      · have lju : j < u.as.length := by omega
        rw [longs_at _ _ 0 _ _ (List.getElem?_eq_getElem lj), longs_at _ _ 0 _ _ (List.getElem?_eq_getElem lju), lu]
        have tj := (tmsB_at h4).2 j _ _ (List.getElem?_eq_getElem lj) (longs_at _ _ 0 _ _ (List.getElem?_eq_getElem lju))
        rw [lu] at tj
        have mu := ty_dp_mem (List.getElem_mem lju)
        refine congrArg some (ih _ _ _ _ (by omega) tj ?_ (by omega))
        rw [hdB_bI (by omega) (by rw [List.length_append]; omega), List.getElem?_append_right (by rw [List.length_append]; omega)]
        have j1 : (own ++ t'.as).length - 1 - ((t'.as.length : Int) - 1 - (0 + j : Nat)).toNat - own.length = j := by
          rw [List.length_append]
          omega
        rw [j1]
        exact List.getElem?_eq_getElem lj
      · rw [List.getElem?_eq_none (by rw [longs_len]; omega), List.getElem?_eq_none (by rw [longs_len]; omega)]
    rw [← el, lu]
theorem typed_long {sg : Sg} {hs own : List Lc.Ty} {t : Lc.Ty} {d : D} {m : Int} (h : tmB sg hs own t d = true) (l : isLg (hb m) d = true) : 0 ≤ m ∧ m < own.length ∧ d = longD "b" m t := by
  obtain ⟨u, rfl⟩ := lg_inv _ d m (Nat.le_refl _) (tmB_G _ _ _ h) l
  have h0 := h
  obtain ⟨x, ps, t', e, h1, h2, h3, h4⟩ := tmB_inv h
  rw [longD_eq] at e
  injection e with e
  injection e with e0 e
  injection e with e1 e
  injection e with e _
  injection e with e
  injection e0 with e0
  have lu : u.as.length = t.as.length := by omega
  subst e e1
  have ex : raiseH "b" m u.as.length = hb (m + u.as.length) := by unfold raiseH; rw [if_pos rfl]
  rw [ex] at h1
  obtain ⟨i0, il⟩ := hdB_b_inv h1
  rw [List.length_append] at il
  rw [longs_len] at h3
  have m0 : 0 ≤ m := by
    rcases Int.lt_or_le m 0 with c | c
    · exfalso
      rw [hdB_bI i0 (by rw [List.length_append]; omega), List.getElem?_append_right (by rw [List.length_append]; omega)] at h1
      have mt := List.mem_of_getElem? h1
      have eas : t'.as = t.as := by
        apply List.ext_getElem?
        intro j
        rcases Nat.lt_or_ge j t.as.length with lj | lj
        · have lju : j < u.as.length := by omega
          have ljv : j < t'.as.length := by omega
          rw [List.getElem?_eq_getElem lj, List.getElem?_eq_getElem ljv]
          have tj := (tmsB_at h4).2 j _ _ (List.getElem?_eq_getElem ljv) (longs_at _ _ 0 _ _ (List.getElem?_eq_getElem lju))
          have bj : hdB sg hs (own ++ t.as) (hb ((u.as.length : Int) - 1 - (0 + j : Nat))) = some t.as[j] := by
            rw [hdB_bI (by omega) (by rw [List.length_append]; omega), List.getElem?_append_right (by rw [List.length_append]; omega)]
            have j1 : (own ++ t.as).length - 1 - ((u.as.length : Int) - 1 - (0 + j : Nat)).toNat - own.length = j := by
              rw [List.length_append]
              omega
            rw [j1]
            exact List.getElem?_eq_getElem lj
          exact congrArg some (long_inv _ _ _ _ _ _ (Nat.lt_succ_self _) tj bj (by omega)).symm
        · rw [List.getElem?_eq_none (by omega), List.getElem?_eq_none lj]
      have d1 := ty_dp_mem mt
      rw [ty_dp t', ty_dp t, eas] at d1
      omega
    · exact c
  have lm : m < own.length := by omega
  refine ⟨m0, lm, ?_⟩
  have hv : ∃ v, hdB sg hs own (hb m) = some v := ⟨_, by rw [hdB_bI m0 lm]; exact List.getElem?_eq_getElem (by omega)⟩
  obtain ⟨v, hv⟩ := hv
  have ev := long_inv _ u own t v m (Nat.lt_succ_self _) h0 hv m0
  subst ev
  exact long_same _ _ _ _ _ (Nat.lt_succ_self _) h0 hv m0
theorem bnum_is {p : D} {i : Int} (g : tmG p = true) (h : bNum (lhD p) = some i) : isLg (hb i) p = true := by
  have e := bNum_some h
  obtain ⟨n, x, ps, rfl, gx, gp⟩ := tmG_of g
  have el : lhD (.tup [.int n, x, .tup ps]) = if isLg (raiseG (-n) x) (.tup [.int n, x, .tup ps]) = true then raiseG (-n) x else .non := rfl
  rw [el] at e
  split at e
  · rename_i c
    rw [← e]
    exact c
  · cases e
theorem is_bnum {t : Lc.Ty} {i : Int} : bNum (lhD (longD "b" i t)) = some i := by
  have l := lg_long _ t i (Nat.lt_succ_self _)
  rw [longD_eq] at l ⊢
  have ex : raiseH "b" i t.as.length = hb (i + t.as.length) := by unfold raiseH; rw [if_pos rfl]
  rw [ex] at l ⊢
  have el : lhD (.tup [.int t.as.length, hb (i + t.as.length), .tup (longs t.as.length 0 t.as)]) = if isLg (raiseG (-(t.as.length : Int)) (hb (i + t.as.length))) (.tup [.int t.as.length, hb (i + t.as.length), .tup (longs t.as.length 0 t.as)]) = true then raiseG (-(t.as.length : Int)) (hb (i + t.as.length)) else .non := rfl
  rw [el, raise_hb, Int.add_neg_cancel_right, if_pos l]
  rfl
theorem nodup_some {α : Type} {l : List α} : (l.map some).Nodup ↔ l.Nodup := by
  induction l with
  | nil => simp
  | cons a l ih => rw [List.map_cons, List.nodup_cons, List.nodup_cons, ih]; simp
/-- typed parts that are a row of different binders -/
theorem row_inv {sg : Sg} {hs own ts : List Lc.Ty} {ps : List D} (h : tmsB sg hs own ts ps = true) (r : rowB ps = true) : (∀ (j : Nat) (p : D) (t : Lc.Ty), ps[j]? = some p → ts[j]? = some t → 0 ≤ numB p ∧ numB p < own.length ∧ p = longD "b" (numB p) t) ∧ (ps.map numB).Nodup := by
  unfold rowB at r
  rw [Bool.and_eq_true] at r
  have r2 := of_decide_eq_true r.2
  have all := List.all_eq_true.mp r.1
  have one : ∀ (j : Nat) (p : D) (t : Lc.Ty), ps[j]? = some p → ts[j]? = some t → ∃ i, bNum (lhD p) = some i ∧ 0 ≤ i ∧ i < own.length ∧ p = longD "b" i t := fun j p t hp ht => by
    obtain ⟨i, ei⟩ := Option.isSome_iff_exists.mp (all p (List.mem_of_getElem? hp))
    have tp := (tmsB_at h).2 j t p ht hp
    obtain ⟨a, b, c⟩ := typed_long tp (bnum_is (tmB_G _ _ _ tp) ei)
    exact ⟨i, ei, a, b, c⟩
  have num : ∀ (j : Nat) (p : D) (t : Lc.Ty), ps[j]? = some p → ts[j]? = some t → bNum (lhD p) = some (numB p) := fun j p t hp ht => by
    obtain ⟨i, ei, _, _, c⟩ := one j p t hp ht
    rw [ei, c, num_long]
  refine ⟨fun j p t hp ht => ?_, ?_⟩
  · obtain ⟨i, ei, a, b, c⟩ := one j p t hp ht
    have z : numB p = i := by rw [c, num_long]
    rw [z]
    exact ⟨a, b, c⟩
  · have e : ps.map (fun p => bNum (lhD p)) = (ps.map numB).map some := by
      rw [List.map_map]
      refine List.map_congr_left fun p hp => ?_
      obtain ⟨j, hj⟩ := List.getElem?_of_mem hp
      have lj := (List.getElem?_eq_some_iff.mp hj).1
      have lt : j < ts.length := by rw [(tmsB_at h).1]; exact lj
      exact num j p _ hj (List.getElem?_eq_getElem lt)
    rw [e, nodup_some] at r2
    exact r2
theorem row_true {ts : List Lc.Ty} {ps : List D} (l : ts.length = ps.length) (h : ∀ (j : Nat) (p : D) (t : Lc.Ty), ps[j]? = some p → ts[j]? = some t → p = longD "b" (numB p) t) (nd : (ps.map numB).Nodup) : rowB ps = true := by
  have num : ∀ p ∈ ps, bNum (lhD p) = some (numB p) := fun p hp => by
    obtain ⟨j, hj⟩ := List.getElem?_of_mem hp
    have lj := (List.getElem?_eq_some_iff.mp hj).1
    have e := h j p _ hj (List.getElem?_eq_getElem (show j < ts.length by omega))
    rw [e, is_bnum, num_long]
  unfold rowB
  rw [Bool.and_eq_true]
  refine ⟨List.all_eq_true.mpr fun p hp => by rw [num p hp]; rfl, decide_eq_true ?_⟩
  have e : ps.map (fun p => bNum (lhD p)) = (ps.map numB).map some := by
    rw [List.map_map]
    exact List.map_congr_left fun p hp => num p hp
  rw [e, nodup_some]
  exact nd
/-! ### all nodes -/
def nodeB : D → Bool
  | .tup [.int _, x, .tup ps] => !hdH x || rowB ps
  | _ => true
mutual
def patN : D → Bool
  | .tup [.int _, x, .tup ps] => (!hdH x || rowB ps) && patNs ps
  | _ => true
def patNs : List D → Bool
  | [] => true
  | p :: ps => patN p && patNs ps
end
theorem patN_eq (n : Int) (x : D) (ps : List D) : patN (.tup [.int n, x, .tup ps]) = ((!hdH x || rowB ps) && patNs ps) := by rw [patN]
theorem patNs_all : ∀ ps : List D, patNs ps = ps.all patN
  | [] => by rw [patNs]; rfl
  | p :: ps => by rw [patNs, patNs_all ps, List.all_cons]
theorem preo_pat : ∀ (z : Nat) (d : D) (o : Int), d.sz ≤ z → tmF d = true → ((preo o d).all fun x => nodeB x.1) = patN d := fun z => by
  induction z with
  | zero => intro d o l; have := D.sz_pos d; omega
  | succ z ih =>
    intro d o l f
    obtain ⟨n, x, ps, rfl, fp⟩ := tmF_of f
    have esz : (D.tup [.int n, x, .tup ps]).sz = 1 + (1 + (x.sz + ((1 + szs ps) + 0))) := rfl
    rw [preo_eq, patN_eq, List.all_cons, preos_flat, List.all_flatten, List.all_map]
    have many : ∀ qs : List D, (∀ q ∈ qs, q ∈ ps) → (qs.all ((fun x => x.all fun x => nodeB x.1) ∘ preo (o + n))) = patNs qs := fun qs => by
      induction qs with
      | nil => intro _; rw [patNs]; rfl
      | cons q qs ihq =>
        intro s
        have mq := s q List.mem_cons_self
        rw [List.all_cons, patNs, ihq fun y hy => s y (List.mem_cons_of_mem _ hy)]
        congr 1
        exact ih q _ (by have := szs_mem mq; omega) (tmFs_mem fp q mq)
    rw [many ps fun _ h => h]
    rfl
/-- in long forms of binders no hole stands -/
theorem pat_long : ∀ (z : Nat) (t : Lc.Ty) (m : Int), t.d.dp < z → patN (longD "b" m t) = true := fun z => by
  induction z with
  | zero => intro t m l; omega
  | succ z ih =>
    intro t m l
    rw [longD_eq, patN_eq]
    have e1 : raiseH "b" m t.as.length = hb (m + t.as.length) := by unfold raiseH; rw [if_pos rfl]
    rw [e1]
    have many : ∀ (N : Nat) (ts : List Lc.Ty) (j : Nat), (∀ t' ∈ ts, t' ∈ t.as) → patNs (longs N j ts) = true := fun N ts => by
      induction ts with
      | nil => intro j _; rw [longs, patNs]
      | cons t' ts iht =>
        intro j s
        have mt := ty_dp_mem (s t' List.mem_cons_self)
        rw [longs, patNs, ih t' _ (by omega), iht (j + 1) fun y hy => s y (List.mem_cons_of_mem _ hy)]
        rfl
    rw [many _ _ 0 fun _ h => h]
    rfl
theorem pat_hole {n : Int} {x : D} {ps : List D} (g : tmGs ps = true) (h : hdH x = true) : patN (.tup [.int n, x, .tup ps]) = rowB ps := by
  rw [patN_eq, h]
  cases r : rowB ps with
  | false => rfl
  | true =>
    have all : ∀ p ∈ ps, patN p = true := fun p hp => by
      unfold rowB at r
      rw [Bool.and_eq_true] at r
      obtain ⟨i, ei⟩ := Option.isSome_iff_exists.mp (List.all_eq_true.mp r.1 p hp)
      have gp := tmGs_mem' g p hp
      obtain ⟨u, rfl⟩ := lg_inv _ p i (Nat.le_refl _) gp (bnum_is gp ei)
      exact pat_long _ u i (Nat.lt_succ_self _)
    rw [patNs_all, List.all_eq_true.mpr all]
    rfl
theorem pat_in {n : Int} {x : D} {ps : List D} (h : hdH x = false) : patN (.tup [.int n, x, .tup ps]) = ps.all patN := by
  rw [patN_eq, h, patNs_all]
  rfl
theorem preo_all {p : D → Prop} (cl : ∀ n x ps, p (.tup [.int n, x, .tup ps]) → ∀ q ∈ ps, p q) : ∀ (z : Nat) (d : D) (o : Int), d.sz ≤ z → tmF d = true → p d → ∀ x ∈ preo o d, p x.1 := fun z => by
  induction z with
  | zero => intro d o l; have := D.sz_pos d; omega
  | succ z ih =>
    intro d o l f pd y hy
    obtain ⟨n, x, ps, rfl, fp⟩ := tmF_of f
    have esz : (D.tup [.int n, x, .tup ps]).sz = 1 + (1 + (x.sz + ((1 + szs ps) + 0))) := rfl
    rw [preo_eq, preos_flat] at hy
    rcases List.mem_cons.mp hy with rfl | hy
    · exact pd
    · obtain ⟨l', hl, hy⟩ := List.mem_flatten.mp hy
      obtain ⟨q, hq, rfl⟩ := List.mem_map.mp hl
      exact ih q _ (by have := szs_mem hq; omega) (tmFs_mem fp q hq) (cl _ _ _ pd q hq) y hy
/-- a typed term is no wider than the types -/
theorem typed_wd {sg : Sg} {hs : List Lc.Ty} (gs : SgG sg) (gh : ∀ t ∈ hs, TyG t) : ∀ (z : Nat) (own : List Lc.Ty) (k : Lc.Ty) (d : D), d.sz ≤ z → (∀ t ∈ own, TyG t) → TyG k → tmB sg hs own k d = true → Wd Tx 3 d := fun z => by
  induction z with
  | zero => intro own k d l; have := D.sz_pos d; omega
  | succ z ih =>
    intro own k d l go gk h
    obtain ⟨x, ps, t, rfl, h1, h2, h3, h4⟩ := tmB_inv h
    have esz : (D.tup [.int (k.as.length : Nat), x, .tup ps]).sz = 1 + (1 + (x.sz + ((1 + szs ps) + 0))) := rfl
    have gka := TyG.as gk
    have gown : ∀ t ∈ own ++ k.as, TyG t := fun t ht => by
      rcases List.mem_append.mp ht with ht | ht
      · exact go t ht
      · exact gka.1 t ht
    have gt : TyG t := hdB_all (p := TyG) (fun r hr => (gs.kinds r hr).wd) gh gown h1
    have gta := TyG.as gt
    have wx : Wd Tx 3 x := by
      rcases hdG_of (hdB_G h1) with ⟨s, i, rfl, rfl | rfl⟩ | ⟨u, rfl⟩
      · exact ⟨by show 2 ≤ 3; decide, (by decide +kernel : Tx "b"), trivial, trivial⟩
      · exact ⟨by show 2 ≤ 3; decide, (by decide +kernel : Tx "h"), trivial, trivial⟩
      · refine ⟨by show 2 ≤ 3; decide, (by decide +kernel : Tx "c"), ?_, trivial⟩
        have h9 : hkB sg hs (own ++ k.as) (.str "c") (.str u) = some t := h1
        unfold hkB at h9
        rw [show (eqD (.str "c") (.str "c") && (D.str u).isS) = true by rw [eqD_str, decide_eq_true rfl]; rfl, if_pos rfl] at h9
        have h10 : sgGet sg u = some t := h9
        unfold sgGet at h10
        obtain ⟨r, hr, rfl⟩ := Option.map_eq_some_iff.mp h10
        have q9 := List.find?_some hr
        have e9 : r.1 = u := of_decide_eq_true q9
        rw [← e9]
        exact (gs.ok.ok _ (List.mem_of_find?_eq_some hr)).1
    refine ⟨by show 3 ≤ 3; decide, trivial, wx, ⟨by show ps.length ≤ 3; rw [← h3]; exact gta.2.1, Wds.mem.mpr fun p hp => ?_⟩, trivial⟩
    obtain ⟨j, hj⟩ := List.getElem?_of_mem hp
    have lj : j < t.as.length := by rw [h3]; exact (List.getElem?_eq_some_iff.mp hj).1
    exact ih _ _ p (by have := szs_mem hp; omega) gown (gta.1 _ (List.getElem_mem lj)) ((tmsB_at h4).2 j _ p (List.getElem?_eq_getElem lj) hj)
/-! ### the program -/
def spPatF (n : Nat) : Sp := fun vs H Q _ => ∃ v d, vs = [v] ∧ Dt H d v ∧ tmG d = true ∧ Wd Tx 3 d ∧ d.sz ≤ 1000000 ∧ d.dp < n ∧ ∀ H', Kp [] H H' → Q (.bl (patN d)) H'
def spIsPat (n : Nat) : Sp := fun vs H Q _ => ∃ sv hv pv kv v d, vs = [sv, hv, pv, kv, v] ∧ Dt H d v ∧ tmG d = true ∧ Wd Tx 3 d ∧ d.sz ≤ 1000000 ∧ d.dp < n ∧ ∀ H', Kp [] H H' → Q (.bl (patN d)) H'
def holeN (d : D) : Bool := match d with
  | .tup [.int _, x, .tup _] => hdH x
  | _ => false
def rowN (d : D) : Bool := match d with
  | .tup [.int _, _, .tup ps] => rowB ps
  | _ => true
theorem filt_all {α : Type} {h r : α → Bool} : ∀ l : List α, ((l.filter h).map r).all id = l.all fun x => !h x || r x
  | [] => rfl
  | x :: l => by
    rw [List.all_cons, ← filt_all l]
    cases e : h x with
    | true =>
      rw [List.filter_cons_of_pos e, List.map_cons, List.all_cons]
      rfl
    | false =>
      rw [List.filter_cons_of_neg (by rw [e]; decide)]
      rfl
abbrev s_has_pattern_form : Stmt := top 12
abbrev N_has_pattern_form : List Str := ["term", "nodes", "node", "_"]
theorem sc_has_pattern_form : FnScope N_has_pattern_form ["term"] (defScope s_has_pattern_form) := ⟨rfl, rfl, rfl, by decide +kernel, rfl, by decide +kernel, by decide +kernel⟩
abbrev s_is_pattern : Stmt := top 13
abbrev N_is_pattern : List Str := ["signature", "holes", "prefix", "kind", "term"]
theorem sc_is_pattern : FnScope N_is_pattern ["signature", "holes", "prefix", "kind", "term"] (defScope s_is_pattern) := ⟨rfl, rfl, rfl, by decide +kernel, rfl, by decide +kernel, by decide +kernel⟩
section
variable {P : Program} {w : World} {K : PySem.W.Frag} {mg : Str → Option Value} {base : Heap}
theorem ok_pat_form {k n : Nat} (F : Df K mg "has_pattern_form" s_has_pattern_form ["term"]) (T : Txt mg) (hk : 1 ≤ k) (C_places : Cal P w K mg base "places" ["term"] 1 spPlaces) (C_is_binder_row : Cal P w K mg base "is_binder_row" ["parts"] k (spRow n)) :
    Cal P w K mg base "has_pattern_form" ["term"] (k + 1) (spPatF n) := by
  replace C_places := C_places.mono hk
  refine F.ok sc_has_pattern_form (fun vs H Q E h => ?_) (fun f cdv A outer s H vs Q E hr h => ?_)
  · obtain ⟨v, d, rfl, _⟩ := h
    rfl
  obtain ⟨v, d, rfl, hd, gd, wd, zd, dn, q⟩ := h
  have fd := tmG_F _ gd
  have good := preo_all (p := fun e => tmG e = true ∧ Wd Tx 3 e ∧ e.dp < n) (fun m x ps h p hp => by
    obtain ⟨a, b, c⟩ := h
    obtain ⟨m', x', ps', e, gx, gp⟩ := tmG_of a
    injection e with e
    injection e with _ e
    injection e with _ e
    injection e with e _
    injection e with e
    subst e
    have edp : (D.tup [.int m, x, .tup ps]).dp = 1 + max 1 (max x.dp (max (1 + dps ps) 0)) := rfl
    have := dps_mem hp
    exact ⟨tmGs_mem' gp p hp, Wds.mem.mp b.2.2.2.1.2 p hp, by omega⟩) _ d 0 (Nat.le_refl _) fd ⟨gd, wd, dn⟩
  have few := preo_len 0 d
  refine ⟨_, (pss_cons (ps_setLc (i := 1) (own := [("node", 2), ("_", 3)]) (g := gTup K 2 (gCons (gName 2) (gCons (gName 3) gNil))) (by rfl) sc_has_pattern_form.nd rfl rfl (sw_true rfl rfl rfl (by decide +kernel)) (pi_list (pe_cal C_places hr rfl (pa_cons (pv 0) pa_nil))) (blkOk_by (N := N_has_pattern_form) (sc := defScope s_has_pattern_form) (by decide +kernel)) (fun _ _ _ _ _ => (pg_tup (by rfl) (pgs_cons (pg_name (i := 2) sc_has_pattern_form.nd rfl (Or.inl rfl)) (pgs_cons (pg_name (i := 3) sc_has_pattern_form.nd rfl (Or.inl rfl)) pgs_nil)))) (fun _ _ _ _ _ => pts_nil) (fun _ _ _ _ _ => (pv 2)))
      (pss_one (ps_ret (pe_callB (cr_all rfl) (by rfl) T.z_all (by decide +kernel) (pa_cons (pe_lc (own := [("node", 2)]) (g := gName 2) rfl sc_has_pattern_form.nd (pi_list (pv 1)) (blkOk_by (N := N_has_pattern_form) (sc := defScope s_has_pattern_form) (by decide +kernel)) (fun _ _ _ _ _ => (pg_name (i := 2) sc_has_pattern_form.nd rfl (Or.inl rfl))) (fun _ _ _ _ _ => pts_one (pt_cmpR op_eq (pe_ix (r := rIxT K) ix_tup (pe_ix (r := rIxT K) ix_tup (pv 2) pe_int (fun _ _ => rfl)) pe_int (fun _ _ => rfl)) pe_str (nomark _))) (fun _ _ _ _ _ => (pe_cal C_is_binder_row hr rfl (pa_cons (pe_ix (r := rIxT K) ix_tup (pv 2) pe_int (fun _ _ => rfl)) pa_nil)))) pa_nil))))), ?_⟩
  walk_at "rd"
  refine ⟨v, d, rfl, hd, fd, zd, fun L ys H1 k1 nL eL hys => ?_⟩
  have lys := hys.len
  rw [List.length_map] at lys
  refine ⟨L, rfl, ⟨_, SqL.of eL⟩, fun M nM => lc_it (walk_list (K := K) (a := L) (xs := ys)) (fun i H' => ∃ us, H' M = some (.lst us) ∧ Dts H' (((preo 0 d).take i).map (·.1)) us ∧ Kp [] H1 H')
    ⟨[], upd_same, (show Dts _ (([] : List Pl).map (·.1)) [] from rfl), (Kp.refl _ _).up nM⟩ (fun i H' _ ⟨_, _, _, k⟩ => SqL.of (k.get eL)) ?_ ?_⟩
  · rintro i y H0 H2 hi ⟨us, eM, hus, k2⟩ ⟨rfl, hy⟩
    obtain ⟨dx, hdx, hdy⟩ := (hys.mono k2.t0).at hy
    rw [List.getElem?_map] at hdx
    obtain ⟨x, hx, rfl⟩ := Option.map_eq_some_iff.mp hdx
    obtain ⟨a1, x1, rfl, ha1, w1, r1, rfl, hw1, w2, r2, rfl, hw2, rfl⟩ := hdy
    walk_at "rd"
    refine r_gtup ha1 rfl ?_
    walk_at "rd"
    refine ⟨rfl, ?_⟩
    walk_at "rd"
    refine ⟨us, eM, ?_, us ++ [w1], upd_same, ?_, k2.own nM ⟨_, eM, rfl⟩⟩
    · have := hus.len
      rw [List.length_map, List.length_take] at this
      exact Nat.lt_of_le_of_lt (show _ ≤ 1000000 by omega) (by decide)
    · rw [take_one hx, List.map_append]
      exact Dts.mono (fun p xs z => by rw [upd_ne (ne_of z eM (fun q => by cases q))]; exact z) (hus.snoc hw1)
  rintro H2 ⟨us, eM, hus, k2⟩
  rw [List.take_of_length_le (by omega)] at hus
  have lus := hus.len
  rw [List.length_map] at lus
  walk_at "rd"
  refine ⟨M, rfl, ⟨_, SqL.of eM⟩, fun M2 nM2 => lc_it (walk_list (K := K) (a := M) (xs := us)) (fun i H' => H' M2 = some (.lst ((((((preo 0 d).map (·.1)).take i).filter holeN).map rowN).map V.bl)) ∧ Kp [] H2 H')
    ⟨upd_same, (Kp.refl _ _).up nM2⟩ (fun i H' _ ⟨_, k⟩ => SqL.of (k.get eM)) ?_ ?_⟩
  · rintro i y H0 H3 hi ⟨eM2, k3⟩ ⟨rfl, hy⟩
    obtain ⟨e, he, hey⟩ := (hus.mono k3.t0).at hy
    have he0 := he
    rw [List.getElem?_map] at he
    obtain ⟨x, hx, rfl⟩ := Option.map_eq_some_iff.mp he
    obtain ⟨gx1, wx1, dx1⟩ := good x (List.mem_of_getElem? hx)
    obtain ⟨m, hh, ps, ex, gh, gp⟩ := tmG_of gx1
    rw [ex] at hey gx1 wx1 dx1 he0
    have edp : (D.tup [.int m, hh, .tup ps]).dp = 1 + max 1 (max hh.dp (max (1 + dps ps) 0)) := rfl
    obtain ⟨a1, x1, rfl, ha1, v1, r1, rfl, h1, v2, r2, rfl, h2, v3, r3, rfl, h3, rfl⟩ := hey
    obtain ⟨ap, xp, rfl, hap, hps⟩ := h3
    have h20 := h2
    obtain ⟨sh, mh, eh⟩ : ∃ s m, hh = .tup [.str s, m] := by
      rcases hdG_of gh with ⟨s, i, rfl, _⟩ | ⟨u, rfl⟩
      · exact ⟨s, .int i, rfl⟩
      · exact ⟨_, .str u, rfl⟩
    rw [eh] at h20
    obtain ⟨ah, xh, rfl, hah, w1, s1, rfl, hw1, w2, s2, rfl, hw2, rfl⟩ := h20
    cases hw1.str
    have ehole : holeN (.tup [.int m, hh, .tup ps]) = decide (sh = "h") := by rw [eh]; rfl
    walk_at "rd"
    refine ⟨rfl, ?_⟩
    walk_at "rd"
    refine r_ixT ha1 rfl ?_
    walk_at "rd"
    refine r_ixT hah rfl ?_
    walk_at "rd"
    refine if_2 (fun c => ?_) (fun c => ?_)
    · rw [decide_eq_true (V.str.inj (of_decide_eq_true c))] at ehole
      walk_at "rd"
      refine r_ixT ha1 rfl ?_
      walk_at "rd"
      refine ⟨ap, xp, ps, rfl, hap, hps, fun p hp => ⟨⟨tmGs_mem' gp p hp, Wd.mono (fun _ z => z) (by decide) (Wds.mem.mp wx1.2.2.2.1.2 p hp)⟩, by have := dps_mem hp; omega⟩, Nat.le_trans wx1.2.2.2.1.1 (by decide), fun H4 k4 => ?_⟩
      have eM4 := k4.get eM2
      refine ⟨_, eM4, ?_, ?_, (k3.trans k4).own nM2 ⟨_, eM4, rfl⟩⟩
      · rw [List.length_map, List.length_map]
        have l1 := List.length_filter_le holeN (((preo 0 d).map (·.1)).take i)
        rw [List.length_take, List.length_map] at l1
        exact Nat.lt_of_le_of_lt (show _ ≤ 1000000 by omega) (by decide)
      · rw [upd_same, take_one he0, List.filter_append, List.filter_cons_of_pos ehole, List.filter_nil, List.map_append, List.map_append]
        rfl
    · rw [decide_eq_false fun z => of_decide_eq_false c (by rw [z])] at ehole
      refine ⟨?_, k3⟩
      rw [take_one he0, List.filter_append, List.filter_cons_of_neg (by rw [ehole]; decide), List.filter_nil, List.append_nil]
      exact eM2
  rintro H3 ⟨eM2, k3⟩
  rw [List.take_of_length_le (by rw [List.length_map]; omega)] at eM2
  walk_at "rd"
  refine ⟨M2, _, rfl, SqL.of eM2, ?_⟩
  have e : ((((preo 0 d).map (·.1)).filter holeN).map rowN).all id = patN d := by
    rw [filt_all, List.all_map, ← preo_pat _ d 0 (Nat.le_refl _) fd]
    refine List.all_congr rfl fun x => ?_
    show (!holeN x.1 || rowN x.1) = nodeB x.1
    unfold holeN rowN nodeB
    split <;> rfl
  rw [e]
  exact q H3 ((k1.trans k2).trans k3)
theorem ok_is_pattern {k n : Nat} (F : Df K mg "is_pattern" s_is_pattern ["signature", "holes", "prefix", "kind", "term"]) (T : Txt mg) (C_has_pattern_form : Cal P w K mg base "has_pattern_form" ["term"] k (spPatF n)) :
    Cal P w K mg base "is_pattern" ["signature", "holes", "prefix", "kind", "term"] (k + 1) (spIsPat n) := by
  refine F.ok sc_is_pattern (fun vs H Q E h => ?_) (fun f cdv A outer s H vs Q E hr h => ?_)
  · obtain ⟨sv, hv, xv, kv, v, d, rfl, _⟩ := h
    rfl
  obtain ⟨sv, hv, xv, kv, v, d, rfl, hd, gd, wd, zd, dn, q⟩ := h
  refine ⟨_, (pss_one (ps_ret (pe_cal C_has_pattern_form hr rfl (pa_cons (pv 4) pa_nil)))), ?_⟩
  walk_at "rd"
  refine ⟨v, d, rfl, hd, gd, wd, zd, dn, fun H1 k1 => ?_⟩
  walk_at "rd"
  exact q H1 k1
end
end K02
end

section
/-! Numbers of binders, the least constant, a drawn choice of binders. -/
namespace K02
open PySem L2 PyProof.Rows PySem.Spec Lc
variable [Lc.Tbs]
local macro_rules | `(tactic| walk_at "rd") => `(tactic| repeat (first
  | with_reducible refine r_seq ?_ | with_reducible refine r_mknx ?_ | with_reducible refine r_mkrt ?_ | with_reducible refine r_asg ?_ | with_reducible refine r_name ?_ | with_reducible refine r_next ?_
  | with_reducible refine r_drop ?_ | with_reducible refine r_ret ?_ | with_reducible refine r_if ?_
  | ((with_reducible refine' r_var ?e ?_); (case e => rfl)) | with_reducible refine r_c ?_ | with_reducible refine r_op ?_ | with_reducible refine r_un ?_ | with_reducible refine r_test ?_ | with_reducible refine r_tb ?_
  | with_reducible refine r_and ?_ | with_reducible refine r_or ?_ | with_reducible refine r_not ?_ | with_reducible refine r_andV ?_ | with_reducible refine r_orV ?_ | with_reducible refine r_notV ?_ | with_reducible refine r_bl ?_
  | with_reducible refine r_cb ?_ | with_reducible refine r_cons ?_ | with_reducible refine r_nil ?_ | with_reducible refine r_tup ?_ | with_reducible refine r_lst ?_ | with_reducible refine r_call ?_
  | with_reducible refine r_i0 ?_ | with_reducible refine r_par ?_ | with_reducible refine r_two ?_ | with_reducible refine r_lc ?_ | with_reducible refine r_iL ?_ | with_reducible refine r_iT ?_ | with_reducible refine r_iS ?_ | with_reducible refine r_i1 ?_ | with_reducible refine r_yes ?_ | with_reducible refine r_chain ?_ | with_reducible refine if_t rfl ?_ | with_reducible refine if_f rfl ?_ | with_reducible refine r_nt ?_ | ((with_reducible refine r_eq ?e ?_); (case e => rfl)) | ((with_reducible refine r_ne ?e ?_); (case e => rfl))
  | with_reducible refine r_sub ?_ | with_reducible refine r_sl ?_ | with_reducible refine r_nopart ?_ | with_reducible refine r_part ?_ | with_reducible refine r_int ?_ | with_reducible refine r_bm ?_ | with_reducible refine r_bm0 ?_ | with_reducible refine r_gcons ?_ | with_reducible refine r_gnil ?_ | with_reducible refine r_dget1 ?_ | with_reducible refine r_dget2 ?_))


local macro_rules | `(tactic| walk_at "dt") => `(tactic| repeat' (first | (show Dt _ _ _; assumption) | exact dt_str | exact dt_int | exact dt_bl | exact dt_non | exact Dts.nil | refine' Dts.cons ?_ ?_ | (refine' Dt.mono ?kk ?_; (case kk => assumption)) | fail))
local macro_rules | `(tactic| walk_at "at") => `(tactic| repeat (first | assumption | (refine' Kp.ge ?kk ?nn ?_; (case kk => assumption); (case nn => intro _ z; cases z)) | fail))
local macro_rules | `(tactic| walk_at "kp") => `(tactic| repeat (first | assumption | exact Kp.refl _ _ | (refine' Kp.trans ?_ ?kk; (case kk => assumption)) | fail))
local macro_rules | `(tactic| walk_at "tup") => `(tactic| (refine' r_tupN ?h ?f ?k; (case h => walk_at "dt"); (case f => simp); skip))
mutual
theorem ty_eqD : ∀ (t u : Lc.Ty), eqD t.d u.d = true → t = u
  | .mk as s, .mk bs r, h => by
    rw [Ty.d, Ty.d, eqD_tup, eqDs_cons, eqDs_cons, eqDs_nil, eqD_tup, eqD_str, Bool.and_true, Bool.and_eq_true] at h
    rw [tys_eqD as bs h.1, of_decide_eq_true h.2]
theorem tys_eqD : ∀ (as bs : List Lc.Ty), eqDs (tyds as) (tyds bs) = true → as = bs
  | [], [], _ => rfl
  | [], b :: bs, h => by rw [tyds, tyds, eqDs_nilL] at h; cases h
  | a :: as, [], h => by rw [tyds, tyds, eqDs_nilR] at h; cases h
  | a :: as, b :: bs, h => by
    rw [tyds, tyds, eqDs_cons, Bool.and_eq_true] at h
    rw [ty_eqD a b h.1, tys_eqD as bs h.2]
end
def spNumber : Sp := fun vs H Q _ => ∃ v i t, vs = [v] ∧ Dt H (longD "b" i t) v ∧ ∀ H', Kp [] H H' → Q (.int i) H'
def spLeast : Sp := fun vs H Q _ => ∃ sv kv sg k, vs = [sv, kv] ∧ SgV H sg sv ∧ SgG sg ∧ Dt H (Lc.Ty.d k) kv ∧ TyG k ∧ ∀ v H' x, Kp [] H H' → (x, Lc.Ty.mk [] k.s) ∈ sg → Dt H' (.tup [.int k.as.length, .tup [.str "c", .str x], .tup []]) v → Q v H'
/-- chosen: different binders of the types -/
structure Chosen (own ks : List Lc.Ty) (ns : List Nat) : Prop where
  len : ns.length = ks.length
  nd : ns.Nodup
  at_ : ∀ (j m : Nat) (u : Lc.Ty), ns[j]? = some m → ks[j]? = some u → m < own.length ∧ own[own.length - 1 - m]? = some u
def spChoice : Sp := fun vs H Q _ => ∃ (c a : Addr) (ov kv : V) (own ks : List Lc.Ty), vs = [.ref c, ov, kv] ∧ CS a H c ∧ Dt H (.tup (tyds own)) ov ∧ Dt H (.tup (tyds ks)) kv ∧ own.length ≤ 1000 ∧ (∀ t ∈ own, TyG t) ∧ (∀ t ∈ ks, TyG t ∧ t.d.dp ≤ 60) ∧ ks.length ≤ 1000 ∧
  (∀ H', Kp [c] H H' → CS a H' c → Q .non H') ∧ ∀ L ns H', Kp [c] H H' → CS a H' c → H L = none → H' L = some (.lst (natsV ns)) → Chosen own ks ns → Q (.ref L) H'
theorem CS.lst' {a c : Addr} {H : Hp} (h : CS a H c) : ∃ xs, H c = some (.lst xs) := by
  obtain ⟨ns, i, d, n, z, h1, _⟩ := h
  exact ⟨_, h1⟩
abbrev s_law_number : Stmt := top 28
abbrev N_law_number : List Str := ["part"]
theorem sc_law_number : FnScope N_law_number ["part"] (defScope s_law_number) := ⟨rfl, rfl, rfl, by decide +kernel, rfl, by decide +kernel, by decide +kernel⟩
abbrev s_law_least : Stmt := top 26
abbrev N_law_least : List Str := ["signature", "kind", "name", "own"]
theorem sc_law_least : FnScope N_law_least ["signature", "kind"] (defScope s_law_least) := ⟨rfl, rfl, rfl, by decide +kernel, rfl, by decide +kernel, by decide +kernel⟩
abbrev s_law_choice : Stmt := top 34
abbrev N_law_choice : List Str := ["c", "own", "kinds", "numbers", "kind", "fits", "k"]
theorem sc_law_choice : FnScope N_law_choice ["c", "own", "kinds"] (defScope s_law_choice) := ⟨rfl, rfl, rfl, by decide +kernel, rfl, by decide +kernel, by decide +kernel⟩
section
variable {P : Program} {w : World} {K : PySem.W.Frag} {mg : Str → Option Value} {base : Heap}
theorem ok_number (F : Df K mg "_law_number" s_law_number ["part"]) (T : Txt mg) : Cal P w K mg base "_law_number" ["part"] 1 spNumber := by
  refine F.ok sc_law_number (fun vs H Q E h => ?_) (fun f cdv A outer s H vs Q E hr h => ?_)
  · obtain ⟨v, i, t, rfl, _⟩ := h
    rfl
  obtain ⟨v, i, t, rfl, hd, q⟩ := h
  rw [longD_eq] at hd
  obtain ⟨a, xs, rfl, ha, v1, r1, rfl, h1, v2, r2, rfl, h2, v3, r3, rfl, h3, rfl⟩ := hd
  cases h1.int
  have er : raiseH "b" i t.as.length = hb (i + t.as.length) := by
    unfold raiseH
    rw [if_pos rfl]
  rw [er] at h2
  obtain ⟨ah, xh, rfl, hah, vh, r2, rfl, hvh, vi, r3, rfl, hvi, rfl⟩ := h2
  cases hvi.int
  refine ⟨_, (pss_one (ps_ret (pe_op op_sub (pe_ix ix_tup (pe_ix ix_tup (pv 0) pe_int (fun _ _ => rfl)) pe_int (fun _ _ => rfl)) (pe_ix ix_tup (pv 0) pe_int (fun _ _ => rfl))))), ?_⟩
  walk_at "rd"
  refine r_ixT ha rfl ?_
  walk_at "rd"
  refine r_ixT hah rfl ?_
  walk_at "rd"
  refine r_ixT ha rfl ?_
  walk_at "rd"
  have e : i + (t.as.length : Int) - (t.as.length : Int) = i := by omega
  rw [e]
  exact q H (Kp.refl _ _)
theorem ok_least (F : Df K mg "_law_least" s_law_least ["signature", "kind"]) (T : Txt mg) : Cal P w K mg base "_law_least" ["signature", "kind"] 1 spLeast := by
  refine F.ok sc_law_least (fun vs H Q E h => ?_) (fun f cdv A outer s H vs Q E hr h => ?_)
  · obtain ⟨sv, kv, sg, k, rfl, _⟩ := h
    rfl
  obtain ⟨sv, kv, sg, k, rfl, hsg, good, hk, gk, q⟩ := h
  obtain ⟨x0, hx0⟩ := good.cons _ (TyG.as gk).2.2
  obtain ⟨asg, obs, ps, kvs, rfl, hasg, hobs, hprs⟩ := hsg
  have sq : ∀ {H' : Hp}, Kp [] H H' → SqT K H' asg (ps.map V.ref) := fun k => .inl (.inr ⟨obs, k.get hasg⟩)
  rw [Ty.d_eq] at hk
  obtain ⟨ak, xk, rfl, hak, va, r2, rfl, hva, vs2, r3, rfl, hvs2, rfl⟩ := hk
  cases hvs2.str
  obtain ⟨a3, x3, rfl, ha3, hs3⟩ := hva
  have l3 : x3.length = k.as.length := by rw [hs3.len, tyds_len]
  have lps : (ps.map V.ref).length = sg.length := by rw [List.length_map, hprs.1]
  refine ⟨_, (pss_cons (ps_for PassesOwn.never rfl (pi_tup (pv 0)) (pg_tup (by rfl) (pgs_cons (pg_name (i := 2) sc_law_least.nd rfl (.inl rfl)) (pgs_cons (pg_name (i := 3) sc_law_least.nd rfl (.inl rfl)) pgs_nil))) (pss_one (ps_if (pt_cmpR (op_eqA (n := 150) (u150 hr)) (pv 3) (pe_tup (pa_cons (pe_tup pa_nil) (pa_cons (pe_ix ix_tup (pv 1) pe_int (fun _ _ => rfl)) pa_nil))) (nomark _)) (pss_one (ps_ret (pe_tup (pa_cons (pe_callB call_len_seq (by rfl) T.z_len (by decide +kernel) (pa_cons (pe_ix ix_tup (pv 1) pe_int (fun _ _ => rfl)) pa_nil)) (pa_cons (pe_tup (pa_cons pe_str (pa_cons (pv 2) pa_nil))) (pa_cons (pe_tup pa_nil) pa_nil)))))) pss_nil)))
      (pss_one (ps_ret pe_non))), ?_⟩
  walk_at "rd"
  refine ⟨_, rfl, asg, rfl, ⟨_, sq (Kp.refl _ _)⟩, for_it (walk_tup (K := K) (a := asg) (xs := ps.map V.ref)) (fun i σ H' => ∃ v2 v3, σ = [some (.ref asg), some (.ref ak), v2, v3] ∧ Kp [] H H' ∧ ∀ r ∈ sg.take i, r.2 ≠ Lc.Ty.mk [] k.s)
    ⟨_, _, rfl, Kp.refl _ _, fun r hr => nomatch hr⟩ (fun _ _ _ _ ⟨_, _, _, k1, _⟩ => sq k1) ?_ ?_⟩
  · rintro i y σ H0 H1 hi ⟨v2, v3, rfl, k1, no⟩ ⟨rfl, hy⟩
    have hi' : i < sg.length := by rw [← lps]; exact hi
    obtain ⟨p, v, e1, e2, e3, e4⟩ := hprs.2.2 i _ (List.getElem?_eq_getElem hi')
    rw [List.getElem?_map, e1] at hy
    cases hy
    refine r_gtup (k1.get e3) rfl ?_
    walk_at "rd"
    refine r_tupN (ds := []) Dts.nil (by decide) fun p1 G1 g1 u1 m1 f1 d1 => ?_
    walk_at "rd"
    have k11 := k1.trans g1
    refine r_ixT (k11.get hak) rfl ?_
    walk_at "rd"
    refine r_tupN (ds := (D.tup []) :: [.str k.s]) (Dts.cons d1 (Dts.cons dt_str Dts.nil)) (by simp) fun p2 G2 g2 u2 m2 f2 d2 => ?_
    walk_at "rd"
    have k12 := k11.trans g2
    have okr := good.ok.ok _ (List.getElem_mem hi')
    have e0 : D.tup [.tup [], .str k.s] = (Lc.Ty.mk [] k.s).d := by rw [Ty.d, tyds]
    rw [e0] at d2
    have ok0 : Wd Tx 3 (Lc.Ty.mk [] k.s).d := by
      rw [← e0]
      exact ⟨by show 2 ≤ 3; decide, ⟨by show 0 ≤ 3; decide, trivial⟩, AB.tx (TyG.as gk).2.2, trivial⟩
    refine ⟨_, _, 3, e4.mono k12.t0, d2, okr.2, ok0, ?_, ?_⟩
    · refine Nat.le_trans (Nat.min_le_right _ _) ?_
      rw [← e0]
      show 1 + max (1 + 0) (max 1 0) ≤ 150
      decide
    walk_at "rd"
    refine if_2 (fun c => ?_) (fun c => ?_)
    · have et := ty_eqD _ _ c
      walk_at "rd"
      refine r_ixT (k12.get hak) rfl ?_
      walk_at "rd"
      refine ⟨a3, x3, rfl, .inr (SqT.of (k12.get ha3)), ?_⟩
      walk_at "rd"
      rw [l3]
      refine r_tupN (ds := [.str "c", .str (sg[i]).1]) (by walk_at "dt") (by simp) fun p3 G3 g3 u3 m3 f3 d3 => ?_
      walk_at "rd"
      refine r_tupN (ds := []) Dts.nil (by decide) fun p4 G4 g4 u4 m4 f4 d4 => ?_
      walk_at "rd"
      refine r_tupN (ds := [.int k.as.length, .tup [.str "c", .str (sg[i]).1], .tup []]) (Dts.cons dt_int (Dts.cons (d3.mono u4) (Dts.cons d4 Dts.nil))) (by simp) fun p5 G5 g5 u5 m5 f5 d5 => ?_
      walk_at "rd"
      refine q _ G5 (sg[i]).1 (((k12.trans g3).trans g4).trans g5) ?_ d5
      rw [← et]
      exact List.getElem_mem hi'
    · walk_at "rd"
      refine ⟨_, _, rfl, k12, fun r hr => ?_⟩
      rw [take_one (List.getElem?_eq_getElem hi')] at hr
      rcases List.mem_append.mp hr with hr | hr
      · exact no r hr
      · rw [List.mem_singleton.mp hr]
        intro z
        rw [z, eqD_refl ok0] at c
        cases c
  · rintro σ H1 ⟨v2, v3, rfl, k1, no⟩
    rw [lps, List.take_length] at no
    exact absurd rfl (no _ hx0)
theorem inV_nats {m : Nat} : ∀ {ns : List Nat}, inV (.int m) (natsV ns) = decide (m ∈ ns)
  | [] => rfl
  | n :: ns => by
    have ih := inV_nats (m := m) (ns := ns)
    unfold inV natsV at *
    rw [List.map_cons, List.any_cons, ih]
    have e : eqV (.int n) (.int m) = decide (m = n) := by
      show decide _ = _
      refine decide_eq_decide.mpr ?_
      omega
    rw [e, ← Bool.decide_or]
    exact decide_eq_decide.mpr (by simp)
theorem flat_nats (ns : List Nat) : (natsV ns).all flatV = true := by
  rw [List.all_eq_true]
  intro x hx
  obtain ⟨n, _, rfl⟩ := List.mem_map.mp hx
  rfl
theorem ok_choice (F : Df K mg "_law_choice" s_law_choice ["c", "own", "kinds"]) (T : Txt mg) (C_law_take : Cal P w K mg base "_law_take" ["c", "many"] 2 spTake) : Cal P w K mg base "_law_choice" ["c", "own", "kinds"] 3 spChoice := by
  refine F.ok sc_law_choice (fun vs H Q E h => ?_) (fun f cdv A outer s H vs Q E hr h => ?_)
  · obtain ⟨c, a, ov, kv, own, ks, rfl, _⟩ := h
    rfl
  obtain ⟨c, a, ov, kv, own, ks, rfl, cs, ho, hk, lown, gown, gks, lks, q0, q⟩ := h
  obtain ⟨ao, xo, rfl, hao, hso⟩ := ho.tup
  obtain ⟨ak, xk, rfl, hak, hsk⟩ := hk.tup
  have lo : xo.length = own.length := by rw [hso.len, tyds_len]
  have lk : xk.length = ks.length := by rw [hsk.len, tyds_len]
  have cs0 := cs.lst'
  obtain ⟨xc, hxc⟩ := cs0
  refine ⟨_, (pss_cons (ps_set (i := 3) sc_law_choice.nd rfl (Or.inr rfl) (pe_lst pa_nil))
      (pss_cons (ps_for PassesOwn.never rfl (pi_tup (pv 2)) (pg_name (i := 4) sc_law_choice.nd rfl (.inr rfl)) (pss_cons (ps_setLc (i := 5) (own := [("k", 6)]) (g := gName 6) (by rfl) sc_law_choice.nd rfl rfl (sw_true rfl rfl rfl (by decide +kernel)) (pi_range1 rfl T.z_range (pa_cons (pe_callB call_len_seq (by rfl) T.z_len (by decide +kernel) (pa_cons (pv 1) pa_nil)) pa_nil)) (blkOk_by (N := N_law_choice) (sc := defScope s_law_choice) (by decide +kernel)) (fun _ _ _ _ _ => (pg_name (i := 6) sc_law_choice.nd rfl (Or.inl rfl))) (fun _ _ _ _ _ => pts_one (PW.pt (pw_and (pt_cmpR (r := rEqA 150) (op_eqA (n := 150) (u150 hr)) (pe_ix (r := rIxT K) ix_tup (pv 1) (pe_op op_sub (pe_op op_sub (pe_callB (r := Evl.rLenS K) call_len_seq (by rfl) T.z_len (by decide +kernel) (pa_cons (pv 1) pa_nil)) pe_int) (pv 6)) (fun _ _ => rfl)) (pv 4) (nomark _)) (pw_and1 (pt_cmpR (r := rIn K true) op_notIn_seq (pv 6) (pv 3) (by rfl)))))) (fun _ _ _ _ _ => (pv 6)))
      (pss_cons (ps_if (pt_not (pt_truth (pv 5) (by intro _; rfl))) (pss_one (ps_ret pe_non)) pss_nil)
      (pss_one (ps_expr (pe_bm PySem.F.plainAttrs_list PySem.F.slot_list_append PySem.F.type_list_append mt_append (pv 3) (pa_cons (pe_ix ix_list (pv 5) (pe_cal C_law_take hr rfl (pa_cons (pv 0) (pa_cons (pe_callB call_len_seq (by rfl) T.z_len (by decide +kernel) (pa_cons (pv 5) pa_nil)) pa_nil))) (fun _ _ => rfl)) pa_nil)))))))
      (pss_one (ps_ret (pv 3))))), ?_⟩
  walk_at "rd"
  refine r_lstN (show 0 ≤ 10000 by decide) fun L1 H1 k1 t1 n1 e1 => ?_
  have ne1 : L1 ≠ c := (cs.ne n1).1
  walk_at "rd"
  refine ⟨_, rfl, ak, rfl, ⟨_, SqT.of (k1.get hak)⟩, for_it (walk_tup (K := K) (a := ak) (xs := xk)) (fun i σ H' => ∃ ns v4 v5, σ = [some (.ref c), some (.ref ao), some (.ref ak), some (.ref L1), v4, v5, none] ∧ Kp [c] H H' ∧ CS a H' c ∧ H' L1 = some (.lst (natsV ns)) ∧ Chosen own (ks.take i) ns)
    ⟨[], _, _, rfl, k1.of0, cs.keep k1, e1, ⟨rfl, List.nodup_nil, fun j m u h => by simp at h⟩⟩ (fun _ _ _ _ ⟨_, _, _, _, k, _⟩ => SqT.of (cs.t k _ _ hak)) ?_ ?_⟩
  · rintro i y σ H0 H2 hi ⟨ns, v4, v5, rfl, k2, cs2, eL1, ch⟩ ⟨rfl, hy⟩
    have hi' : i < ks.length := by omega
    have t2 : KeepT H H2 := cs.t k2
    obtain ⟨dk, hdk, hdy⟩ := (hsk.mono t2).at hy
    rw [tyds_at (List.getElem?_eq_getElem hi')] at hdk
    cases hdk
    have gk := gks _ (List.getElem_mem hi')
    have lns : ns.length = i := by
      rw [ch.len, List.length_take]
      omega
    walk_at "rd"
    refine ⟨ao, xo, rfl, .inr (SqT.of (t2 _ _ hao)), ?_⟩
    rw [lo]
    refine ⟨_, rfl, by omega, by omega, fun L2 nL2 => lc_it walk_range (fun j H' => ∃ fs : List Nat, Kp [] H2 H' ∧ H' L2 = some (.lst (natsV fs)) ∧ fs.length ≤ j ∧ ∀ m ∈ fs, m < own.length ∧ own[own.length - 1 - m]? = some ks[i] ∧ m ∉ ns)
      ⟨[], (Kp.refl _ _).up nL2, upd_same, Nat.le_refl _, fun m hm => nomatch hm⟩ (fun _ _ _ _ => trivial) ?_ ?_⟩
    · rintro j z H3 H4 hj ⟨fs, k4, eL2, lfs, allf⟩ ⟨rfl, rfl⟩
      have hj' : j < own.length := by simpa using hj
      have lt : own.length - 1 - j < own.length := by omega
      have t24 : KeepT H H4 := t2.trans k4.t0
      walk_at "rd"
      refine ⟨rfl, ?_⟩
      walk_at "rd"
      refine ⟨ao, xo, rfl, .inr (SqT.of (t24 _ _ hao)), ?_⟩
      walk_at "rd"
      obtain ⟨x, hx1, hdx⟩ := (hso.mono t24).of (tyds_at (List.getElem?_eq_getElem lt))
      have zz := atI_nat hx1
      have iz : ((own.length - 1 - j : Nat) : Int) = (xo.length : Int) - 1 - (0 + j) := by omega
      rw [iz] at zz
      refine r_ixT (t24 _ _ hao) zz ?_
      walk_at "rd"
      have gx := gown _ (List.getElem_mem lt)
      refine ⟨_, _, 3, hdx, hdy.mono k4.t0, gx.ok, gk.1.ok, Nat.le_trans (Nat.min_le_right _ _) (by have := gk.2; omega), ?_⟩
      walk_at "rd"
      refine if_2 (fun c1 => ?_) (fun c1 => ?_)
      · have et := ty_eqD _ _ c1
        walk_at "rd"
        refine ⟨L1, _, rfl, .inl (SqL.of (k4.get eL1)), rfl, flat_nats _, ?_⟩
        have ez : (V.int (0 + (j : Int))) = V.int (j : Nat) := by rw [Int.zero_add]
        have ez0 : inV ((fun i : Nat => V.int (0 + (i : Int))) j) (natsV ns) = decide (j ∈ ns) := by
          show inV (V.int (0 + (j : Int))) _ = _
          rw [Int.zero_add]
          exact inV_nats
        rw [ez0]
        walk_at "rd"
        refine if_2 (fun c2 => ?_) (fun c2 => ?_)
        · walk_at "rd"
          refine ⟨_, eL2, ?_, fs ++ [j], k4.own nL2, ?_, by rw [List.length_append]; simp; omega, ?_⟩
          · unfold natsV
            rw [List.length_map]
            exact Nat.lt_of_le_of_lt (show _ ≤ 1000 by omega) (by decide)
          · rw [upd_same]
            unfold natsV
            rw [List.map_append]
            show some (HO.lst (_ ++ [V.int (0 + (j : Int))])) = _
            rw [ez]
            rfl
          · intro m hm
            rcases List.mem_append.mp hm with hm | hm
            · exact allf m hm
            · rw [List.mem_singleton.mp hm]
              exact ⟨hj', by rw [List.getElem?_eq_getElem lt, et], by simpa using c2⟩
        · exact ⟨fs, k4, eL2, Nat.le_succ_of_le lfs, allf⟩
      · walk_at "rd"
        exact ⟨fs, k4, eL2, Nat.le_succ_of_le lfs, allf⟩
    · rintro H4 ⟨fs, k4, eL2, lfs, allf⟩
      have cs4 := cs2.keep k4
      have ne2 : L2 ≠ c := (cs2.ne nL2).1
      walk_at "rd"
      refine ⟨_, .inl ⟨_, SqL.of eL2, rfl⟩, ?_⟩
      walk_at "rd"
      refine if_2 (fun c1 => ?_) (fun c1 => ?_)
      · walk_at "rd"
        exact q0 H4 (k2.trans k4.of0) cs4
      · have pos : 0 < fs.length := by
          cases fs with
          | nil => cases c1
          | cons b r => simp
        walk_at "rd"
        refine ⟨.inl ⟨rfl, _, SqL.of (k4.get eL1)⟩, ?_⟩
        walk_at "rd"
        refine ⟨L2, _, rfl, .inl (SqL.of eL2), ?_⟩
        have lv : (natsV fs).length = fs.length := by
          unfold natsV
          rw [List.length_map]
        walk_at "rd"
        refine ⟨c, a, (natsV fs).length, rfl, cs4, by omega, by omega, fun d H5 lo5 hi5 k5 cs5 => ?_⟩
        have eL25 : H5 L2 = some (.lst (natsV fs)) := k5 L2 _ (by simpa using ne2) eL2
        have eL15 : H5 L1 = some (.lst (natsV ns)) := k5 L1 _ (by simpa using ne1) (k4.get eL1)
        walk_at "rd"
        have hd5 : d.toNat < fs.length := by omega
        have ed : d = ((d.toNat : Nat) : Int) := by omega
        have hat : (natsV fs)[d.toNat]? = some (V.int (fs[d.toNat] : Nat)) := by
          unfold natsV
          rw [List.getElem?_map, List.getElem?_eq_getElem hd5]
          rfl
        have hat2 := atI_nat hat
        rw [← ed] at hat2
        refine r_ixL eL25 hat2 ?_
        have okm := allf _ (List.getElem_mem hd5)
        have lvn : (natsV ns).length ≤ 1000 := by
          unfold natsV
          rw [List.length_map]
          omega
        refine ⟨L1, _, _, rfl, rfl, eL15, Nat.lt_of_le_of_lt lvn (by decide), ?_⟩
        walk_at "rd"
        refine ⟨ns ++ [fs[d.toNat]], _, _, rfl, ((k2.trans k4.of0).trans k5).own n1, ?_, ?_, ?_⟩
        · obtain ⟨ns0, i0, dg0, cnt0, z0, hc0, ha0, h00, hne0⟩ := cs5
          have na : L1 ≠ a := (cs.ne n1).2
          exact ⟨ns0, i0, dg0, cnt0, z0, by rw [upd_ne ne1.symm]; exact hc0, by rw [upd_ne na.symm]; exact ha0, h00, hne0⟩
        · rw [upd_same]
          unfold natsV
          rw [List.map_append]
          rfl
        · refine ⟨?_, ?_, ?_⟩
          · rw [List.length_append, lns, List.length_take]
            simp
            omega
          · rw [List.nodup_append]
            refine ⟨ch.nd, by simp, fun x hx y hy => ?_⟩
            rw [List.mem_singleton.mp hy]
            intro z
            rw [z] at hx
            exact okm.2.2 hx
          · intro j m u hjm hju
            rw [take_one (List.getElem?_eq_getElem hi')] at hju
            rcases Nat.lt_or_ge j ns.length with lt | ge
            · rw [List.getElem?_append_left lt] at hjm
              rw [List.getElem?_append_left (by rw [List.length_take]; omega)] at hju
              exact ch.at_ j m u hjm hju
            · rw [List.getElem?_append_right ge] at hjm
              rw [List.getElem?_append_right (by rw [List.length_take]; omega)] at hju
              have j0 : j - ns.length = 0 := by
                have := (List.getElem?_eq_some_iff.mp hjm).1
                simp at this
                omega
              have j1 : j - (ks.take i).length = 0 := by
                rw [List.length_take]
                omega
              rw [j0] at hjm
              rw [j1] at hju
              have e1 : fs[d.toNat] = m := by simpa using hjm
              have e2 : ks[i] = u := by simpa using hju
              rw [← e1, ← e2]
              exact ⟨okm.1, okm.2.1⟩
  · rintro σ H2 ⟨ns, v4, v5, rfl, k2, cs2, eL1, ch⟩
    rw [lk, List.take_length] at ch
    walk_at "rd"
    exact q L1 ns H2 k2 cs2 n1 eL1 ch
end
end K02
end

section
/-! What is a pattern: the law's own. -/
namespace K02
open PySem L2 PyProof.Rows PySem.Spec Lc
variable [Lc.Tbs]
local macro_rules | `(tactic| walk_at "rd") => `(tactic| repeat (first
  | with_reducible refine r_seq ?_ | with_reducible refine r_mknx ?_ | with_reducible refine r_mkrt ?_ | with_reducible refine r_asg ?_ | with_reducible refine r_name ?_ | with_reducible refine r_next ?_
  | with_reducible refine r_drop ?_ | with_reducible refine r_ret ?_ | with_reducible refine r_if ?_
  | ((with_reducible refine' r_var ?e ?_); (case e => rfl)) | with_reducible refine r_c ?_ | with_reducible refine r_op ?_ | with_reducible refine r_un ?_ | with_reducible refine r_test ?_ | with_reducible refine r_tb ?_
  | with_reducible refine r_and ?_ | with_reducible refine r_or ?_ | with_reducible refine r_not ?_ | with_reducible refine r_andV ?_ | with_reducible refine r_orV ?_ | with_reducible refine r_notV ?_ | with_reducible refine r_bl ?_
  | with_reducible refine r_cb ?_ | with_reducible refine r_cons ?_ | with_reducible refine r_nil ?_ | with_reducible refine r_tup ?_ | with_reducible refine r_lst ?_ | with_reducible refine r_call ?_
  | with_reducible refine r_i0 ?_ | with_reducible refine r_par ?_ | with_reducible refine r_two ?_ | with_reducible refine r_lc ?_ | with_reducible refine r_iL ?_ | with_reducible refine r_iT ?_ | with_reducible refine r_iS ?_ | with_reducible refine r_i1 ?_ | with_reducible refine r_yes ?_ | with_reducible refine r_chain ?_ | with_reducible refine if_t rfl ?_ | with_reducible refine if_f rfl ?_ | with_reducible refine r_nt ?_ | ((with_reducible refine r_eq ?e ?_); (case e => rfl)) | ((with_reducible refine r_ne ?e ?_); (case e => rfl))
  | with_reducible refine r_sub ?_ | with_reducible refine r_sl ?_ | with_reducible refine r_nopart ?_ | with_reducible refine r_part ?_ | with_reducible refine r_int ?_ | with_reducible refine r_bm ?_ | with_reducible refine r_bm0 ?_ | with_reducible refine r_gcons ?_ | with_reducible refine r_gnil ?_ | with_reducible refine r_dget1 ?_ | with_reducible refine r_dget2 ?_ | with_reducible refine r_dgetR ?_ | with_reducible refine r_dset ?_ | with_reducible refine r_dc ?_ | with_reducible refine r_keys ?_ | with_reducible refine r_ckw ?_ | with_reducible refine r_dput ?_ | with_reducible refine r_dnotin ?_))


local macro_rules | `(tactic| walk_at "dt") => `(tactic| repeat' (first | (show Dt _ _ _; assumption) | exact dt_str | exact dt_int | exact dt_bl | exact dt_non | exact Dts.nil | refine' Dts.cons ?_ ?_ | (refine' Dt.mono ?kk ?_; (case kk => assumption)) | fail))
local macro_rules | `(tactic| walk_at "at") => `(tactic| repeat (first | assumption | (refine' Kp.ge ?kk ?nn ?_; (case kk => assumption); (case nn => intro _ z; cases z)) | fail))
local macro_rules | `(tactic| walk_at "kp") => `(tactic| repeat (first | assumption | exact Kp.refl _ _ | (refine' Kp.trans ?_ ?kk; (case kk => assumption)) | fail))
local macro_rules | `(tactic| walk_at "tup") => `(tactic| (refine' r_tupN ?h ?f ?k; (case h => walk_at "dt"); (case f => simp); skip))
theorem r_for {wi : TI} {g : TG} {tb : TS} {D0 : Ends} {σ : L2.St} {H : Hp} (h : wi σ H fun J H1 => ∃ W : Nat → Nat → L2.St → Hp → Prop, (∃ m, W 0 m σ H1) ∧ ∀ i m σ H, W i m σ H →
  (J.stop i H ∧ D0.nx σ H) ∨ (J.go i H ∧ ∃ N : L2.St → Hp → Prop, (∀ σ' H', N σ' H' → ∃ m', m' < m ∧ W (i + 1) m' σ' H') ∧ ∀ x H', J.yld i H x H' → g x σ H' fun σ2 H2 => tb { D0 with nx := N, ct := N, bk := D0.nx } σ2 H2)) : tFor wi g tb D0 σ H := h
theorem inV_mem {i : Int} : ∀ {is : List Int}, inV (.int i) (is.map V.int) = decide (i ∈ is)
  | [] => by rw [decide_eq_false (by simp)]; rfl
  | j :: is => by
    have ih := inV_mem (i := i) (is := is)
    have e : inV (.int i) ((j :: is).map V.int) = (eqV (.int j) (.int i) || inV (.int i) (is.map V.int)) := rfl
    have e2 : eqV (.int j) (.int i) = decide (j = i) := rfl
    rw [e, e2, ih, ← Bool.decide_or]
    exact decide_eq_decide.mpr (by rw [List.mem_cons]; exact or_congr ⟨fun z => z.symm, fun z => z.symm⟩ Iff.rfl)
theorem flat_mem : ∀ is : List Int, (is.map V.int).all flatV = true
  | [] => rfl
  | i :: is => by rw [List.map_cons, List.all_cons, flat_mem is]; rfl
def spNumG : Sp := fun vs H Q _ => ∃ v n i ps, vs = [v] ∧ Dt H (.tup [.int n, hb i, .tup ps]) v ∧ ∀ H', Kp [] H H' → Q (.int (i - n)) H'
abbrev TyL (t : Lc.Ty) : Prop := TyG t ∧ t.d.dp ≤ 18
def spPatL (n : Nat) : Sp := fun vs H Q _ => ∃ sv hv pv kv v sg hs own k d, vs = [sv, hv, pv, kv, v] ∧ SgV H sg sv ∧ SgG sg ∧ Dt H (.tup (tyds hs)) hv ∧ (∀ t ∈ hs, TyL t) ∧ Dt H (.tup (tyds own)) pv ∧ (∀ t ∈ own, TyL t) ∧ Dt H (Lc.Ty.d k) kv ∧ TyL k ∧
  Dt H d v ∧ tmB sg hs own k d = true ∧ Wd Tx 3 d ∧ d.sz ≤ 1000000 ∧ d.dp < n ∧ d.dp ≤ 150 ∧ own.length + 3 * d.dp ≤ 5000 ∧ ∀ H', Kp [] H H' → Q (.bl (patN d)) H'
abbrev s_law_is_pattern : Stmt := top 36
abbrev N_law_is_pattern : List Str := ["signature", "holes", "prefix", "kind", "term", "own", "needed", "numbers", "j", "part", "number"]
theorem sc_law_is_pattern : FnScope N_law_is_pattern ["signature", "holes", "prefix", "kind", "term"] (defScope s_law_is_pattern) := ⟨rfl, rfl, rfl, by decide +kernel, rfl, by decide +kernel, by decide +kernel⟩
section
variable {P : Program} {w : World} {K : PySem.W.Frag} {mg : Str → Option Value} {base : Heap}
theorem ok_numG (F : Df K mg "_law_number" s_law_number ["part"]) (T : Txt mg) : Cal P w K mg base "_law_number" ["part"] 1 spNumG := by
  refine F.ok sc_law_number (fun vs H Q E h => ?_) (fun f cdv A outer s H vs Q E hr h => ?_)
  · obtain ⟨v, n, i, ps, rfl, _⟩ := h
    rfl
  obtain ⟨v, n, i, ps, rfl, hd, q⟩ := h
  obtain ⟨a, xs, rfl, ha, v1, r1, rfl, h1, v2, r2, rfl, h2, v3, r3, rfl, h3, rfl⟩ := hd
  cases h1.int
  obtain ⟨ah, xh, rfl, hah, vh, r2, rfl, hvh, vi, r3, rfl, hvi, rfl⟩ := h2
  cases hvi.int
  refine ⟨_, (pss_one (ps_ret (pe_op op_sub (pe_ix ix_tup (pe_ix ix_tup (pv 0) pe_int (fun _ _ => rfl)) pe_int (fun _ _ => rfl)) (pe_ix ix_tup (pv 0) pe_int (fun _ _ => rfl))))), ?_⟩
  walk_at "rd"
  refine r_ixT ha rfl ?_
  walk_at "rd"
  refine r_ixT hah rfl ?_
  walk_at "rd"
  refine r_ixT ha rfl ?_
  walk_at "rd"
  exact q H (Kp.refl _ _)
theorem ok_lpat0 {k n : Nat} (F : Df K mg "_law_is_pattern" s_law_is_pattern ["signature", "holes", "prefix", "kind", "term"]) (T : Txt mg) (C_law_needed : Cal P w K mg base "_law_needed" ["signature", "holes", "own", "head"] k spNeeded) (C_law_number : Cal P w K mg base "_law_number" ["part"] k spNumG)
    (C_law_long : Cal P w K mg base "_law_long" ["head", "kind"] k (spLong 20)) (C_law_is_pattern : Cal P w K mg base "_law_is_pattern" ["signature", "holes", "prefix", "kind", "term"] k (spPatL n)) :
    Cal P w K mg base "_law_is_pattern" ["signature", "holes", "prefix", "kind", "term"] (k + 1) (spPatL (n + 1)) := by
  refine F.ok sc_law_is_pattern (fun vs H Q E h => ?_) (fun f cdv A outer s H vs Q E hr h => ?_)
  · obtain ⟨sv, hv, xv, kv, v, sg, hs, own, k, d, rfl, _⟩ := h
    rfl
  obtain ⟨sv, hv, xv, kv, v, sg, hs, own, ⟨as, srt⟩, d, rfl, hsg, gs, hh, gh, hp, go, hkd, gk, hd, htm, wd, zd, dn, d150, far, q⟩ := h
  have htm0 := htm
  obtain ⟨x, ps, t, rfl, h1, h2, h3, h4⟩ := tmB_inv htm
  replace h1 : hdB sg hs (own ++ as) x = some t := h1
  replace h4 : tmsB sg hs (own ++ as) t.as ps = true := h4
  obtain ⟨ao, xo, rfl, hao, hso⟩ := hp.tup
  have lo : xo.length = own.length := by rw [hso.len, tyds_len]
  rw [Ty.d] at hkd
  obtain ⟨ak, xk, rfl, hak, va, r2, rfl, hva, vs2, r3, rfl, hvs2, rfl⟩ := hkd
  cases hvs2.str
  obtain ⟨a3, x3, rfl, ha3, hs3⟩ := hva
  have l3 : x3.length = as.length := by rw [hs3.len, tyds_len]
  have gka := TyG.as gk.1
  have las : as.length ≤ 3 := gka.2.1
  have down : ∀ {t u : Lc.Ty}, TyL t → u ∈ t.as → TyL u := fun {t u} h m => ⟨(TyG.as h.1).1 u m, by have := ty_dp_mem m; have := h.2; omega⟩
  have gown : ∀ t ∈ own ++ as, TyL t := fun t ht => by
    rcases List.mem_append.mp ht with ht | ht
    · exact go t ht
    · exact down gk ht
  have gt : TyL t := hdB_all (p := TyL) (fun r hr => ⟨(gs.kinds r hr).wd, Nat.le_trans (gs.kinds r hr).dp (by decide)⟩) gh gown h1
  have gta := TyG.as gt.1
  have gx := hdB_G h1
  have gd := tmB_G _ _ _ htm0
  obtain ⟨n', x', ps', e', gx', gps⟩ := tmG_of gd
  injection e' with e'
  injection e' with _ e'
  injection e' with _ e'
  injection e' with e' _
  injection e' with e'
  subst e'
  have edp : (D.tup [.int (as.length : Nat), x, .tup ps]).dp = 1 + max 1 (max x.dp (max (1 + dps ps) 0)) := rfl
  have esz : (D.tup [.int (as.length : Nat), x, .tup ps]).sz = 1 + (1 + (x.sz + ((1 + szs ps) + 0))) := rfl
  replace dn : (D.tup [.int (as.length : Nat), x, .tup ps]).dp < n + 1 := dn
  replace d150 : (D.tup [.int (as.length : Nat), x, .tup ps]).dp ≤ 150 := d150
  replace far : own.length + 3 * (D.tup [.int (as.length : Nat), x, .tup ps]).dp ≤ 5000 := far
  replace zd : (D.tup [.int (as.length : Nat), x, .tup ps]).sz ≤ 1000000 := zd
  replace q : ∀ H', Kp [] H H' → Q (.bl (patN (.tup [.int (as.length : Nat), x, .tup ps]))) H' := q
  obtain ⟨a, xs, rfl, ha, v1, r1, rfl, hv1, v2, r2, rfl, hv2, v3, r3, rfl, hv3, rfl⟩ := hd
  cases hv1.int
  obtain ⟨ap, xp, rfl, hap, hps⟩ := hv3
  have lxp : xp.length = ps.length := hps.len
  have hv20 := hv2
  obtain ⟨sx, mx, ex⟩ : ∃ s m, x = .tup [.str s, m] := by
    rcases hdG_of gx with ⟨s, i, rfl, _⟩ | ⟨u, rfl⟩
    · exact ⟨s, .int i, rfl⟩
    · exact ⟨_, .str u, rfl⟩
  rw [ex] at hv20
  obtain ⟨ah, xh, rfl, hah, w1, s1, rfl, hw1, w2, s2, rfl, hw2, rfl⟩ := hv20
  cases hw1.str
  have ehole : hdH x = decide (sx = "h") := by rw [ex]; rfl
  refine ⟨_, (pss_cons (ps_set (i := 5) sc_law_is_pattern.nd rfl (Or.inl rfl) (pe_op op_catA (pv 2) (pe_ix ix_tup (pv 3) pe_int (fun _ _ => rfl))))
      (pss_cons (ps_set (i := 6) sc_law_is_pattern.nd rfl (Or.inl rfl) (pe_cal C_law_needed hr rfl (pa_cons (pv 0) (pa_cons (pv 1) (pa_cons (pv 5) (pa_cons (pe_ix ix_tup (pv 4) pe_int (fun _ _ => rfl)) pa_nil))))))
      (pss_cons (ps_set (i := 7) sc_law_is_pattern.nd rfl (Or.inl rfl) (pe_lst pa_nil))
      (pss_cons (ps_for PassesOwn.never rfl (pi_range1 rfl T.z_range (pa_cons (pe_callB call_len_seq (by rfl) T.z_len (by decide +kernel) (pa_cons (pe_ix ix_tup (pv 6) pe_int (fun _ _ => rfl)) pa_nil)) pa_nil)) (pg_name (i := 8) sc_law_is_pattern.nd rfl (.inl rfl)) (pss_cons (ps_set (i := 9) sc_law_is_pattern.nd rfl (Or.inl rfl) (pe_ix ix_tup (pe_ix ix_tup (pv 4) pe_int (fun _ _ => rfl)) (pv 8) (fun _ _ => rfl)))
      (pss_one (ps_if (pt_cmpR op_ne (pe_ix ix_tup (pe_ix ix_tup (pv 4) pe_int (fun _ _ => rfl)) pe_int (fun _ _ => rfl)) pe_str (nomark _)) (pss_one (ps_if (pt_not (pt_val (pe_cal C_law_is_pattern hr rfl (pa_cons (pv 0) (pa_cons (pv 1) (pa_cons (pv 5) (pa_cons (pe_ix ix_tup (pe_ix ix_tup (pv 6) pe_int (fun _ _ => rfl)) (pv 8) (fun _ _ => rfl)) (pa_cons (pv 9) pa_nil)))))))) (pss_one (ps_ret pe_bl)) pss_nil)) (pss_cons (ps_set (i := 10) sc_law_is_pattern.nd rfl (Or.inl rfl) (pe_ifExp (pt_cmpR op_eq (pe_ix ix_tup (pe_ix ix_tup (pv 9) pe_int (fun _ _ => rfl)) pe_int (fun _ _ => rfl)) pe_str (nomark _)) (pe_cal C_law_number hr rfl (pa_cons (pv 9) pa_nil)) (pe_op op_sub pe_int pe_int)))
      (pss_cons (ps_if (PW.pt (pw_or (pt_cmpR op_lt (pv 10) pe_int (nomark _)) (pw_or (pt_cmpR op_ge (pv 10) (pe_callB call_len_seq (by rfl) T.z_len (by decide +kernel) (pa_cons (pv 5) pa_nil)) (nomark _)) (pw_or (pt_cmpR op_in_seq (pv 10) (pv 7) (by rfl)) (pw_or1 (pt_cmpR (op_neA (n := 150) (u150 hr)) (pv 9) (pe_cal C_law_long hr rfl (pa_cons (pe_tup (pa_cons pe_str (pa_cons (pv 10) pa_nil))) (pa_cons (pe_ix ix_tup (pe_ix ix_tup (pv 6) pe_int (fun _ _ => rfl)) (pv 8) (fun _ _ => rfl)) pa_nil))) (nomark _))))))) (pss_one (ps_ret pe_bl)) pss_nil)
      (pss_one (ps_expr (pe_bm PySem.F.plainAttrs_list PySem.F.slot_list_append PySem.F.type_list_append mt_append (pv 7) (pa_cons (pv 10) pa_nil))))))))))
      (pss_one (ps_ret pe_bl)))))), ?_⟩
  walk_at "rd"
  refine r_ixT hak rfl ?_
  walk_at "rd"
  refine r_catT hao ha3 hso hs3 (by omega) fun vb H1 k1 t1 hb1 => ?_
  rw [← tyds_app] at hb1
  walk_at "rd"
  refine r_ixT (t1 _ _ ha) rfl ?_
  walk_at "rd"
  refine ⟨sv, hv, vb, .ref ah, sg, hs, own ++ as, x, 3, 3, rfl, hsg.mono0 k1, gs.ok, Nat.le_trans gs.few (by decide), hh.mono t1, hb1, hv2.mono t1, wd.2.2.1, fun r H2 k2 hr2 => ?_⟩
  rw [h1] at hr2
  replace hr2 : Dt H2 t.d r := hr2
  rw [Ty.d_eq] at hr2
  obtain ⟨an, xn, rfl, han, w3, r3, rfl, hw3, w4, r4, rfl, hw4, rfl⟩ := hr2
  obtain ⟨a9, x9, rfl, ha9, hs9⟩ := hw3
  have l9 : x9.length = t.as.length := by rw [hs9.len, tyds_len]
  have k02 := k1.trans k2
  obtain ⟨ab, xb, rfl, hab, hsb⟩ := hb1.tup
  have lxb : xb.length = own.length + as.length := by rw [hsb.len, tyds_len, List.length_append]
  walk_at "rd"
  refine r_lstN (show 0 ≤ 10000 by decide) fun NL H3 k3 t3 n3 e3 => ?_
  walk_at "rd"
  refine r_for ?_
  walk_at "rd"
  refine r_ixT (k3.get han) rfl ?_
  walk_at "rd"
  refine ⟨a9, x9, rfl, .inr (SqT.of (k3.get ha9)), ?_⟩
  walk_at "rd"
  refine ⟨_, rfl, by omega, by omega, for_range (fun i σ H' => ∃ (v8 v9 v10 : Option V) (ns : List Int), σ = [some sv, some hv, some (.ref ao), some (.ref ak), some (.ref a), some (.ref ab), some (.ref an), some (.ref NL), v8, v9, v10] ∧ Kp [] H2 H' ∧ H' NL = some (.lst (ns.map V.int)) ∧ ns.length ≤ i ∧
    (hdH x = true → ns = (ps.take i).map numB ∧ ns.Nodup ∧ ∀ (j : Nat) (p : D) (u : Lc.Ty), j < i → ps[j]? = some p → t.as[j]? = some u → p = longD "b" (numB p) u) ∧ (hdH x = false → ∀ p ∈ ps.take i, patN p = true))
    ⟨_, _, _, [], rfl, k3, e3, Nat.le_refl 0, fun _ => ⟨rfl, List.nodup_nil, fun j p u hj => absurd hj (Nat.not_lt_zero _)⟩, fun _ p hp => nomatch hp⟩ ?_ ?_⟩
  · rintro i σ H4 hi ⟨v8, v9, v10, ns, rfl, k4, eN, lns, inH, inO⟩
    have hi' : i < x9.length := by simpa using hi
    have hip : i < ps.length := by omega
    have hit : i < t.as.length := by omega
    have k04 := k02.trans k4
    have t04 := k04.t0
    obtain ⟨y2, hy2, hdy2⟩ := (hps.mono t04).of (List.getElem?_eq_getElem hip)
    obtain ⟨y0, hy0, hdy0⟩ := (hs9.mono k4.t0).of (tyds_at (List.getElem?_eq_getElem hit))
    have mp : ps[i] ∈ ps := List.getElem_mem hip
    have dpp := dps_mem mp
    have szp := szs_mem mp
    have tmp := (tmsB_at h4).2 i _ _ (List.getElem?_eq_getElem hit) (List.getElem?_eq_getElem hip)
    have wp : Wd Tx 3 ps[i] := Wds.mem.mp wd.2.2.2.1.2 _ mp
    have gti : TyL t.as[i] := down gt (List.getElem_mem hit)
    walk_at "rd"
    refine r_ixT (t04 _ _ ha) rfl ?_
    walk_at "rd"
    refine r_ixT (t04 _ _ hap) (by rw [Int.zero_add]; exact atI_nat hy2) ?_
    walk_at "rd"
    refine r_ixT (t04 _ _ ha) rfl ?_
    walk_at "rd"
    refine r_ixT (t04 _ _ hah) rfl ?_
    walk_at "rd"
    refine if_2 (fun c1 => ?_) (fun c1 => ?_)
    · have nh : hdH x = false := by
        rw [ehole]
        refine decide_eq_false fun z => ?_
        rw [z, decide_eq_true rfl] at c1
        cases c1
      walk_at "rd"
      refine r_ixT (k4.get han) rfl ?_
      walk_at "rd"
      refine r_ixT (k4.get ha9) (by rw [Int.zero_add]; exact atI_nat hy0) ?_
      walk_at "rd"
      refine ⟨sv, hv, .ref ab, y0, y2, sg, hs, own ++ as, t.as[i], ps[i], rfl, hsg.mono0 k04, gs, hh.mono t04, gh, hb1.mono (k2.trans k4).t0, gown, hdy0, gti, hdy2, tmp, wp, by omega, by omega, by omega, by rw [List.length_append]; omega, fun H5 k5 => ?_⟩
      walk_at "rd"
      cases e : patN ps[i] with
      | false =>
        have ef : patN (.tup [.int (as.length : Nat), x, .tup ps]) = false := by
          rw [pat_in nh]
          exact List.all_eq_false.mpr ⟨_, mp, by rw [e]; decide⟩
        rw [ef] at q
        walk_at "rd"
        exact q H5 (k04.trans k5)
      | true =>
        walk_at "rd"
        refine ⟨_, _, _, ns, rfl, k4.trans k5, k5.get eN, by omega, (fun z => by rw [nh] at z; cases z), fun _ p hp => ?_⟩
        rw [take_one (List.getElem?_eq_getElem hip)] at hp
        rcases List.mem_append.mp hp with hp | hp
        · exact inO nh p hp
        · rw [List.mem_singleton.mp hp]
          exact e
    · have yh : hdH x = true := by
        rw [ehole]
        refine decide_eq_true ?_
        rcases Classical.em (sx = "h") with z | z
        · exact z
        · rw [decide_eq_false fun y => z (V.str.inj y)] at c1
          cases c1
      obtain ⟨i1, i2, i3⟩ := inH yh
      have eq1 : patN (.tup [.int (as.length : Nat), x, .tup ps]) = rowB ps := pat_hole gps yh
      rw [eq1] at q
      -- where the row is one, the place is good
      have good : rowB ps = true → 0 ≤ numB ps[i] ∧ numB ps[i] < (own ++ as).length ∧ ps[i] = longD "b" (numB ps[i]) t.as[i] ∧ numB ps[i] ∉ ns := fun r => by
        obtain ⟨g1, g2⟩ := row_inv h4 r
        obtain ⟨a1, a2, a3⟩ := g1 i _ _ (List.getElem?_eq_getElem hip) (List.getElem?_eq_getElem hit)
        refine ⟨a1, a2, a3, fun m => ?_⟩
        rw [i1] at m
        rw [← List.take_append_drop i ps, List.map_append, List.drop_eq_getElem_cons hip, List.map_cons, List.nodup_append] at g2
        exact g2.2.2 _ m _ List.mem_cons_self rfl
      have fail : ∀ H', Kp [] H2 H' → ¬ (0 ≤ numB ps[i] ∧ numB ps[i] < (own ++ as).length ∧ ps[i] = longD "b" (numB ps[i]) t.as[i] ∧ numB ps[i] ∉ ns) → Q (.bl false) H' := fun H' k no => by
        have e : rowB ps = false := by
          cases r : rowB ps with
          | false => rfl
          | true => exact absurd (good r) no
        rw [e] at q
        exact q H' (k02.trans k)
      obtain ⟨xi, qs, ti, ei, f1, f2, f3, f4⟩ := tmB_inv tmp
      have gxi := hdB_G f1
      obtain ⟨si, mi, exi⟩ : ∃ s m, xi = .tup [.str s, m] := by
        rcases hdG_of gxi with ⟨s, i, rfl, _⟩ | ⟨u, rfl⟩
        · exact ⟨s, .int i, rfl⟩
        · exact ⟨_, .str u, rfl⟩
      have hdy20 := hdy2
      rw [ei, exi] at hdy20
      obtain ⟨ai, xsi, rfl, hai, u1, r1, rfl, hu1, u2, r2, rfl, hu2, u3, r3, rfl, hu3, rfl⟩ := hdy20
      obtain ⟨ahi, xhi, rfl, hahi, z1, s1, rfl, hz1, z2, s2, rfl, hz2, rfl⟩ := hu2
      cases hz1.str
      walk_at "rd"
      refine r_ife ?_
      walk_at "rd"
      refine r_ixT hai rfl ?_
      walk_at "rd"
      refine r_ixT hahi rfl ?_
      walk_at "rd"
      refine if_2 (fun c2 => ?_) (fun c2 => ?_)
      · have esi : si = "b" := V.str.inj (of_decide_eq_true c2)
        subst esi
        obtain ⟨ib, rfl⟩ : ∃ ib, mi = .int ib := by
          rcases hdG_of gxi with ⟨s, i, e, _⟩ | ⟨u, e⟩
          · rw [exi] at e
            injection e with e
            injection e with _ e
            injection e with e _
            exact ⟨i, e⟩
          · rw [exi] at e
            injection e with e
            injection e with e _
            injection e with e
            exact absurd e (by decide)
        have enum : numB ps[i] = ib - (t.as[i].as.length : Nat) := by rw [ei, exi]; rfl
        walk_at "rd"
        refine ⟨_, (t.as[i].as.length : Nat), ib, qs, rfl, by rw [ei, exi] at hdy2; exact hdy2, fun H5 k5 => ?_⟩
        rw [← enum]
        have k25 := k4.trans k5
        walk_at "rd"
        refine if_2 (fun c3 => ?_) (fun c3 => ?_)
        · walk_at "rd"
          exact fail H5 k25 fun z => by have := of_decide_eq_true c3; omega
        walk_at "rd"
        refine ⟨ab, xb, rfl, .inr (SqT.of ((k2.trans k25).get hab)), ?_⟩
        walk_at "rd"
        refine if_2 (fun c4 => ?_) (fun c4 => ?_)
        · walk_at "rd"
          exact fail H5 k25 fun z => by have z2 := of_decide_eq_true c4; have z3 := z.2.1; rw [List.length_append] at z3; omega
        walk_at "rd"
        refine ⟨NL, _, rfl, .inl (SqL.of (k5.get eN)), rfl, flat_mem _, ?_⟩
        rw [inV_mem, show ∀ b : Bool, (if false = true then !b else b) = b from fun b => rfl]
        walk_at "rd"
        refine if_2 (fun c5 => ?_) (fun c5 => ?_)
        · walk_at "rd"
          exact fail H5 k25 fun z => z.2.2.2 (of_decide_eq_true c5)
        walk_at "rd"
        refine r_tupN (ds := [.str "b", .int (numB ps[i])]) (Dts.cons dt_str (Dts.cons dt_int Dts.nil)) (by simp) fun p6 H6 k6 t6 n6 e6 d6 => ?_
        walk_at "rd"
        have k26 := k25.trans k6
        refine r_ixT (k26.get han) rfl ?_
        walk_at "rd"
        refine r_ixT (k26.get ha9) (by rw [Int.zero_add]; exact atI_nat hy0) ?_
        walk_at "rd"
        refine ⟨.ref p6, y0, "b", numB ps[i], t.as[i], rfl, d6, hdy0.mono (k5.trans k6).t0, Wd.mono (fun _ z => z) (by decide) gti.1.ok, by have := gti.2; omega, fun vl H7 k7 hvl => ?_⟩
        walk_at "rd"
        have lb := long_bd (W := 3) (Nat.le_refl 3) t.as[i] "b" (numB ps[i]) (by decide +kernel) gti.1.ok
        have k27 := k26.trans k7
        refine ⟨ps[i], longD "b" (numB ps[i]) t.as[i], 3, hdy2.mono ((k5.trans k6).trans k7).t0, hvl, wp, lb.1, Nat.le_trans (Nat.min_le_left _ _) (by omega), ?_⟩
        walk_at "rd"
        cases e7 : eqD ps[i] (longD "b" (numB ps[i]) t.as[i]) with
        | false =>
          walk_at "rd"
          refine fail H7 k27 fun z => ?_
          have er := eqD_refl wp
          rw [← z.2.2.1, er] at e7
          cases e7
        | true =>
          have same := eqD_G _ _ (tmB_G _ _ _ tmp) (long_G _ _) e7
          walk_at "rd"
          have eN7 := (k5.trans (k6.trans k7)).get eN
          refine ⟨.inl ⟨rfl, _, SqL.of eN7⟩, ?_⟩
          walk_at "rd"
          refine ⟨NL, _, _, rfl, rfl, eN7, ?_, ?_⟩
          · rw [List.length_map]
            exact Nat.lt_of_le_of_lt (show _ ≤ 1000 by omega) (by decide)
          walk_at "rd"
          refine ⟨_, _, _, ns ++ [numB ps[i]], rfl, k27.own n3 ⟨_, eN7, rfl⟩, by rw [upd_same, List.map_append]; rfl, by rw [List.length_append]; exact Nat.succ_le_succ lns, fun _ => ⟨?_, ?_, fun j p u hj hp hu => ?_⟩, fun z => by rw [yh] at z; cases z⟩
          · rw [take_one (List.getElem?_eq_getElem hip), List.map_append, ← i1]
            rfl
          · rw [List.nodup_append]
            refine ⟨i2, by simp, fun y hy z hz e => ?_⟩
            rw [List.mem_singleton.mp hz] at e
            rw [e] at hy
            exact of_decide_eq_false c5 hy
          · rcases Nat.lt_or_ge j i with lj | lj
            · exact i3 j p u lj hp hu
            · have ej : j = i := by omega
              subst ej
              rw [List.getElem?_eq_getElem hip] at hp
              rw [List.getElem?_eq_getElem hit] at hu
              cases hp
              cases hu
              exact same
      · have ne : si ≠ "b" := fun z => of_decide_eq_false c2 (by rw [z])
        walk_at "rd"
        refine fail H4 k4 fun z => ?_
        have e := z.2.2.1
        rw [ei, exi, longD_eq] at e
        injection e with e
        injection e with _ e
        injection e with e _
        have ex2 : raiseH "b" (numB ps[i]) t.as[i].as.length = hb (numB ps[i] + t.as[i].as.length) := by unfold raiseH; rw [if_pos rfl]
        rw [← exi, ← ei, ex2, exi] at e
        injection e with e
        injection e with e _
        injection e with e
        exact ne e
  · rintro σ H4 ⟨v8, v9, v10, ns, rfl, k4, eN, lns, inH, inO⟩
    have e9 : (x9.length : Int).toNat = ps.length := by omega
    rw [e9] at inH inO lns
    rw [List.take_length] at inH inO
    walk_at "rd"
    have et : patN (.tup [.int (as.length : Nat), x, .tup ps]) = true := by
      cases c : hdH x with
      | true =>
        obtain ⟨i1, i2, i3⟩ := inH c
        rw [pat_hole gps c]
        refine row_true (by omega) (fun j p u hp hu => i3 j p u (List.getElem?_eq_some_iff.mp hp).1 hp hu) ?_
        rw [← i1]
        exact i2
      | false =>
        rw [pat_in c]
        exact List.all_eq_true.mpr (inO c)
    rw [et] at q
    exact q H4 (k02.trans k4)
end
end K02
end

section
/-! Nodes, changes, heights of any data. -/
namespace K02
open PySem L2 PyProof.Rows PySem.Spec Lc
variable [Lc.Tbs]
local macro_rules | `(tactic| walk_at "rd") => `(tactic| repeat (first
  | with_reducible refine r_seq ?_ | with_reducible refine r_mknx ?_ | with_reducible refine r_mkrt ?_ | with_reducible refine r_asg ?_ | with_reducible refine r_name ?_ | with_reducible refine r_next ?_
  | with_reducible refine r_drop ?_ | with_reducible refine r_ret ?_ | with_reducible refine r_if ?_
  | ((with_reducible refine' r_var ?e ?_); (case e => rfl)) | with_reducible refine r_c ?_ | with_reducible refine r_op ?_ | with_reducible refine r_un ?_ | with_reducible refine r_test ?_ | with_reducible refine r_tb ?_
  | with_reducible refine r_and ?_ | with_reducible refine r_or ?_ | with_reducible refine r_not ?_ | with_reducible refine r_andV ?_ | with_reducible refine r_orV ?_ | with_reducible refine r_notV ?_ | with_reducible refine r_bl ?_
  | with_reducible refine r_cb ?_ | with_reducible refine r_cons ?_ | with_reducible refine r_nil ?_ | with_reducible refine r_tup ?_ | with_reducible refine r_lst ?_ | with_reducible refine r_call ?_
  | with_reducible refine r_i0 ?_ | with_reducible refine r_par ?_ | with_reducible refine r_two ?_ | with_reducible refine r_lc ?_ | with_reducible refine r_iL ?_ | with_reducible refine r_iT ?_ | with_reducible refine r_iS ?_ | with_reducible refine r_i1 ?_ | with_reducible refine r_yes ?_ | with_reducible refine r_chain ?_ | with_reducible refine if_t rfl ?_ | with_reducible refine if_f rfl ?_ | with_reducible refine r_nt ?_ | ((with_reducible refine r_eq ?e ?_); (case e => rfl)) | ((with_reducible refine r_ne ?e ?_); (case e => rfl))
  | with_reducible refine r_sub ?_ | with_reducible refine r_sl ?_ | with_reducible refine r_nopart ?_ | with_reducible refine r_part ?_ | with_reducible refine r_int ?_ | with_reducible refine r_bm ?_ | with_reducible refine r_bm0 ?_ | with_reducible refine r_gcons ?_ | with_reducible refine r_gnil ?_ | with_reducible refine r_dget1 ?_ | with_reducible refine r_dget2 ?_))


local macro_rules | `(tactic| walk_at "dt") => `(tactic| repeat' (first | (show Dt _ _ _; assumption) | exact dt_str | exact dt_int | exact dt_bl | exact dt_non | exact Dts.nil | refine' Dts.cons ?_ ?_ | (refine' Dt.mono ?kk ?_; (case kk => assumption)) | fail))
local macro_rules | `(tactic| walk_at "at") => `(tactic| repeat (first | assumption | (refine' Kp.ge ?kk ?nn ?_; (case kk => assumption); (case nn => intro _ z; cases z)) | fail))
local macro_rules | `(tactic| walk_at "kp") => `(tactic| repeat (first | assumption | exact Kp.refl _ _ | (refine' Kp.trans ?_ ?kk; (case kk => assumption)) | fail))
local macro_rules | `(tactic| walk_at "tup") => `(tactic| (refine' r_tupN ?h ?f ?k; (case h => walk_at "dt"); (case f => simp); skip))
structure Gd (W : Nat) (d : D) : Prop where
  wd : Wd Tx W d
  dp : d.dp ≤ 90
  sz : d.sz ≤ 500000
theorem Gd.wide {W W' : Nat} {d : D} (g : Gd W d) (l : W ≤ W') : Gd W' d := ⟨Wd.mono (fun _ z => z) l g.wd, g.dp, g.sz⟩
theorem Gd.part {W : Nat} {ds : List D} {d : D} (g : Gd W (.tup ds)) (h : d ∈ ds) : Gd W d := by
  have e1 : (D.tup ds).dp = 1 + dps ds := rfl
  have e2 : (D.tup ds).sz = 1 + szs ds := rfl
  have h1 := g.dp
  have h2 := g.sz
  have h3 := dps_mem h
  have h4 := szs_mem h
  exact ⟨Wds.mem.mp g.wd.2 d h, by omega, by omega⟩
def Itm (H : Hp) (W : Nat) (y : V) : Prop := ∃ e, Dt H e y ∧ Gd W e
theorem Itm.mono {H H' : Hp} {W : Nat} {y : V} (t : KeepT H H') (h : Itm H W y) : Itm H' W y := by
  obtain ⟨e, h1, h2⟩ := h
  exact ⟨e, h1.mono t, h2⟩
def spNodes (n : Nat) : Sp := fun vs H Q _ => ∃ v d f xs W, vs = [v, .ref f] ∧ Dt H d v ∧ Gd W d ∧ d.dp ≤ n ∧ W ≤ 3000 ∧ H f = some (.lst xs) ∧ (∀ x ∈ xs, Itm H W x) ∧ xs.length ≤ 3000 ∧
  ∀ H' ys, Kp [f] H H' → H' f = some (.lst ys) → (∀ y ∈ ys, Itm H' W y) → ys.length ≤ 3000 → ys ≠ [] → Q (.ref f) H'
def spChanged (n : Nat) : Sp := fun vs H Q _ => ∃ v d b k o e W, vs = [v, .ref b, o] ∧ Dt H d v ∧ Wd Tx W d ∧ d.dp ≤ n ∧ W ≤ 3000 ∧ Dt H e o ∧ Wd Tx W e ∧ H b = some (.lst [.int k]) ∧
  ∀ u d' k' H', Kp [b] H H' → H' b = some (.lst [.int k']) → Dt H' d' u → Wd Tx W d' → Q u H'
def spHigh : Sp := fun vs H Q _ => ∃ v d W, vs = [v] ∧ Dt H d v ∧ Wd Tx W d ∧ W ≤ 40 ∧ ∀ (r : Int) H', Kp [] H H' → (r ≤ 90 → d.dp ≤ 90 ∧ d.sz ≤ 200000) → Q (.int r) H'

abbrev s_law_nodes_of : Stmt := top 29
abbrev N_law_nodes_of : List Str := ["value", "found", "part"]
theorem sc_law_nodes_of : FnScope N_law_nodes_of ["value", "found"] (defScope s_law_nodes_of) := ⟨rfl, rfl, rfl, by decide +kernel, rfl, by decide +kernel, by decide +kernel⟩
abbrev s_law_changed : Stmt := top 30
abbrev N_law_changed : List Str := ["value", "box", "other", "part"]
theorem sc_law_changed : FnScope N_law_changed ["value", "box", "other"] (defScope s_law_changed) := ⟨rfl, rfl, rfl, by decide +kernel, rfl, by decide +kernel, by decide +kernel⟩
abbrev s_law_high : Stmt := top 31
abbrev N_law_high : List Str := ["value", "level", "high", "count", "deeper", "one"]
theorem sc_law_high : FnScope N_law_high ["value"] (defScope s_law_high) := ⟨rfl, rfl, rfl, by decide +kernel, rfl, by decide +kernel, by decide +kernel⟩
section
variable {P : Program} {w : World} {K : PySem.W.Frag} {mg : Str → Option Value} {base : Heap}
theorem ok_nodes {k n : Nat} (F : Df K mg "_law_nodes_of" s_law_nodes_of ["value", "found"]) (T : Txt mg) (C_law_nodes_of : Cal P w K mg base "_law_nodes_of" ["value", "found"] k (spNodes n)) :
    Cal P w K mg base "_law_nodes_of" ["value", "found"] (k + 1) (spNodes (n + 1)) := by
  refine F.ok sc_law_nodes_of (fun vs H Q E h => ?_) (fun f cdv A outer s H vs Q E hr h => ?_)
  · obtain ⟨v, d, f, xs, W, rfl, _⟩ := h
    rfl
  obtain ⟨v, d, fo, xs, W, rfl, hd, g, hdp, hW, hf, hxs, lxs, q⟩ := h
  refine ⟨_, (Evl.pss_cut (ps_if (pt_cmpR op_lt (pe_callB call_len_seq (by rfl) T.z_len (by decide +kernel) (pa_cons (pv 1) pa_nil)) pe_int (nomark _)) (pss_one (ps_expr (pe_bm PySem.F.plainAttrs_list PySem.F.slot_list_append PySem.F.type_list_append mt_append (pv 1) (pa_cons (pv 0) pa_nil)))) pss_nil)
      (Evl.pss_cut (ps_if (pt_val (pe_callB call_isi (by rfl) T.z_isinstance (by decide +kernel) (pa_cons (pv 0) (pa_cons (pe_bty (T := "tuple") (by rfl) T.z_tuple (by decide +kernel)) pa_nil)))) (pss_one (ps_for PassesOwn.never rfl (pi_tup (pv 0)) (pg_name (i := 2) sc_law_nodes_of.nd rfl (.inl rfl)) (pss_one (ps_expr (pe_cal C_law_nodes_of hr rfl (pa_cons (pv 2) (pa_cons (pv 1) pa_nil))))))) pss_nil)
      (pss_one (ps_ret (pv 1))))), ?_⟩
  refine r_cut (fun σ H' => ∃ ys, σ = [some v, some (.ref fo), none] ∧ Kp [fo] H H' ∧ H' fo = some (.lst ys) ∧ (∀ y ∈ ys, Itm H' W y) ∧ ys.length ≤ 3000 ∧ ys ≠ []) ?_ ?_
  · walk_at "rd"
    refine ⟨fo, xs, rfl, .inl (SqL.of hf), ?_⟩
    walk_at "rd"
    refine if_2 (fun c => ?_) (fun c => ?_)
    · walk_at "rd"
      refine ⟨.inl ⟨rfl, _, SqL.of hf⟩, ?_⟩
      walk_at "rd"
      have few : xs.length < 3000 := by simp at c; omega
      refine ⟨fo, xs, v, rfl, rfl, hf, Nat.lt_of_lt_of_le few (by decide), ?_⟩
      walk_at "rd"
      have k1 : Kp [fo] H (upd H fo (.lst (xs ++ [v]))) := (Kp.refl _ _).at (by simp)
      have t1 : KeepT H (upd H fo (.lst (xs ++ [v]))) := k1.t1 (NoT.lst hf)
      refine ⟨xs ++ [v], rfl, k1, upd_same, ?_, by rw [List.length_append]; exact few, by simp⟩
      intro y hy
      rcases List.mem_append.mp hy with hy | hy
      · exact (hxs y hy).mono t1
      · rw [List.mem_singleton.mp hy]
        exact ⟨d, hd.mono t1, g⟩
    · walk_at "rd"
      refine ⟨xs, rfl, Kp.refl _ _, hf, hxs, lxs, ?_⟩
      rintro rfl
      simp at c
  · rintro σ H1 ⟨ys, rfl, k1, hf1, hys, lys, nys⟩
    have t1 : KeepT H H1 := k1.t1 (NoT.lst hf)
    refine r_cut (fun σ H' => ∃ ys v2, σ = [some v, some (.ref fo), v2] ∧ Kp [fo] H H' ∧ H' fo = some (.lst ys) ∧ (∀ y ∈ ys, Itm H' W y) ∧ ys.length ≤ 3000 ∧ ys ≠ []) ?_ ?_
    · walk_at "rd"
      refine r_isT (hd.mono t1) ?_
      walk_at "rd"
      refine if_2 (fun c => ?_) (fun c => ?_)
      · obtain ⟨ds, rfl⟩ := D.tup_of c
        obtain ⟨a, us, rfl, ha, hus⟩ := hd.tup
        have nea : a ≠ fo := ne_of ha hf (by intro z; cases z)
        have edp : (D.tup ds).dp = 1 + dps ds := rfl
        walk_at "rd"
        refine ⟨_, rfl, a, rfl, ⟨_, SqT.of (t1 a _ ha)⟩, for_tup (K := K) (a := a) (xs := us) (fun i σ H' => ∃ ys v2, σ = [some (.ref a), some (.ref fo), v2] ∧ Kp [fo] H H' ∧ H' fo = some (.lst ys) ∧ (∀ y ∈ ys, Itm H' W y) ∧ ys.length ≤ 3000 ∧ ys ≠ [])
          ⟨ys, none, rfl, k1, hf1, hys, lys, nys⟩ (fun i σ H' _ ⟨_, _, _, k, _⟩ => SqT.of (k a _ (by simpa using nea) ha)) ?_ ?_⟩
        · rintro i u σ H2 hi ⟨zs, v2, rfl, k2, hf2, hzs, lzs, nzs⟩
          obtain ⟨e, he, hu⟩ := hus.at hi
          have me : e ∈ ds := List.mem_of_getElem? he
          have dpe := dps_mem me
          have t2 : KeepT H H2 := k2.t1 (NoT.lst hf)
          walk_at "rd"
          refine ⟨u, e, fo, zs, W, rfl, hu.mono t2, g.part me, by omega, hW, hf2, hzs, lzs, fun H3 ws k3 hf3 hws lws nws => ?_⟩
          walk_at "rd"
          exact ⟨ws, some u, rfl, k2.trans k3, hf3, hws, lws, nws⟩
        · rintro σ H2 ⟨zs, v2, rfl, k2, hf2, hzs, lzs, nzs⟩
          exact ⟨zs, v2, rfl, k2, hf2, hzs, lzs, nzs⟩
      · walk_at "rd"
        exact ⟨ys, none, rfl, k1, hf1, hys, lys, nys⟩
    · rintro σ H2 ⟨zs, v2, rfl, k2, hf2, hzs, lzs, nzs⟩
      walk_at "rd"
      exact q H2 zs k2 hf2 hzs lzs nzs
theorem ok_changed {k n : Nat} (F : Df K mg "_law_changed" s_law_changed ["value", "box", "other"]) (T : Txt mg) (C_law_changed : Cal P w K mg base "_law_changed" ["value", "box", "other"] k (spChanged n)) :
    Cal P w K mg base "_law_changed" ["value", "box", "other"] (k + 1) (spChanged (n + 1)) := by
  refine F.ok sc_law_changed (fun vs H Q E h => ?_) (fun f cdv A outer s H vs Q E hr h => ?_)
  · obtain ⟨v, d, b, k, o, e, W, rfl, _⟩ := h
    rfl
  obtain ⟨v, d, b, j, o, e, W, rfl, hd, hw, hdp, hW, ho, hwo, hb, q⟩ := h
  refine ⟨_, (pss_cons (ps_asg (pe_op op_sub (pe_ix ix_list (pv 1) pe_int (fun _ _ => rfl)) pe_int) (pg_sub (pv 1) pe_int set_list))
      (pss_cons (ps_if (pt_cmpR op_eq (pe_ix ix_list (pv 1) pe_int (fun _ _ => rfl)) pe_int (nomark _)) (pss_one (ps_ret (pv 2))) pss_nil)
      (pss_cons (ps_if (pt_not (pt_val (pe_callB call_isi (by rfl) T.z_isinstance (by decide +kernel) (pa_cons (pv 0) (pa_cons (pe_bty (T := "tuple") (by rfl) T.z_tuple (by decide +kernel)) pa_nil))))) (pss_one (ps_ret (pv 0))) pss_nil)
      (pss_one (ps_ret (pe_callTy call_tuple_of (by rfl) T.z_tuple (by decide +kernel) (pa_cons (pe_lc (own := [("part", 3)]) (g := gName 3) rfl sc_law_changed.nd (pi_tup (pv 0)) (blkOk_by (N := N_law_changed) (sc := defScope s_law_changed) (by decide +kernel)) (fun _ _ _ _ _ => (pg_name (i := 3) sc_law_changed.nd rfl (Or.inl rfl))) (fun _ _ _ _ _ => pts_nil) (fun _ _ _ _ _ => (pe_cal C_law_changed hr rfl (pa_cons (pv 3) (pa_cons (pv 1) (pa_cons (pv 2) pa_nil)))))) pa_nil))))))), ?_⟩
  walk_at "rd"
  refine r_ixL hb rfl ?_
  walk_at "rd"
  refine r_set hb rfl ?_
  have k1 : Kp [b] H (upd H b (.lst [.int (j - 1)])) := (Kp.refl _ _).at (by simp)
  have t1 : KeepT H (upd H b (.lst [.int (j - 1)])) := k1.t1 (NoT.lst hb)
  have b1 : (upd H b (.lst [.int (j - 1)])) b = some (.lst [.int (j - 1)]) := upd_same
  show (fun (H1 : Hp) => _) (upd H b (.lst [.int (j - 1)]))
  generalize (upd H b (.lst [.int (j - 1)])) = H1 at k1 t1 b1 ⊢
  walk_at "rd"
  refine r_ixL b1 rfl ?_
  walk_at "rd"
  refine if_2 (fun c => ?_) (fun c => ?_)
  · walk_at "rd"
    exact q o e _ H1 k1 b1 (ho.mono t1) hwo
  walk_at "rd"
  replace hd := hd.mono t1
  refine r_isT hd ?_
  walk_at "rd"
  refine if_2 (fun c2 => ?_) (fun c2 => ?_)
  · walk_at "rd"
    exact q v d _ H1 k1 b1 hd hw
  obtain ⟨ds, rfl⟩ := D.tup_of (by simpa using c2)
  obtain ⟨a, us, rfl, ha, hus⟩ := hd.tup
  have nea : a ≠ b := ne_of ha b1 (by intro z; cases z)
  have edp : (D.tup ds).dp = 1 + dps ds := rfl
  have wds : Wds Tx W ds := hw.2
  have lds : ds.length ≤ W := hw.1
  have lus := hus.len
  walk_at "rd"
  refine ⟨a, rfl, ⟨_, SqT.of ha⟩, fun L nL => lc_it (walk_tup (K := K) (a := a) (xs := us)) (fun i H' => ∃ ys es k', H' L = some (.lst ys) ∧ Dts H' es ys ∧ es.length = i ∧ Kp [b] H1 H' ∧ H' b = some (.lst [.int k']) ∧ ∀ x ∈ es, Wd Tx W x)
    ⟨[], [], j - 1, upd_same, rfl, rfl, (Kp.refl _ _).up nL, by rw [upd_ne (ne_of_none b1 nL)]; exact b1, (fun x hx => by cases hx)⟩ (fun i H' _ ⟨_, _, _, _, _, _, k, _⟩ => SqT.of (k a _ (by simpa using nea) ha)) ?_ ?_⟩
  · rintro i u H0 H2 hi ⟨ys, es, k', hL, hes, les, k2, b2, wes⟩ ⟨rfl, hu⟩
    obtain ⟨x, hx, hux⟩ := hus.at hu
    have mx : x ∈ ds := List.mem_of_getElem? hx
    have dpx := dps_mem mx
    have t2 : KeepT H1 H2 := k2.t1 (NoT.lst b1)
    have neL : L ≠ b := (ne_of_none b1 nL).symm
    walk_at "rd"
    refine ⟨rfl, ?_⟩
    walk_at "rd"
    refine ⟨u, x, b, k', o, e, W, rfl, hux.mono t2, Wds.mem.mp wds x mx, by omega, hW, (ho.mono t1).mono t2, hwo, b2, fun u3 d3 k3' H3 k3 b3 hd3 wd3 => ?_⟩
    have hL3 := k3 L _ (by simpa using neL) hL
    have t3 : KeepT H2 H3 := k3.t1 (NoT.lst b2)
    refine ⟨ys, hL3, ?_, ys ++ [u3], es ++ [d3], k3', upd_same, ?_, ?_, (k2.trans k3).own nL, by rw [upd_ne neL.symm]; exact b3, ?_⟩
    · have := hes.len
      exact Nat.lt_of_le_of_lt (show _ ≤ 3000 by omega) (by decide)
    · exact Dts.mono (fun p xs z => by rw [upd_ne (ne_of z hL3 (fun q => by cases q))]; exact z) ((hes.mono t3).snoc hd3)
    · rw [List.length_append, les]
      rfl
    · intro y hy
      rcases List.mem_append.mp hy with hy | hy
      · exact wes y hy
      · rw [List.mem_singleton.mp hy]
        exact wd3
  · rintro H2 ⟨ys, es, k', hL, hes, les, k2, b2, wes⟩
    walk_at "rd"
    refine ⟨L, ys, rfl, .inl ⟨SqL.of hL, fun l nl => ?_⟩⟩
    obtain ⟨k3, t3, d3⟩ := new_tup nl hes
    walk_at "rd"
    exact q _ (.tup es) k' _ (k1.trans (k2.trans k3.of0)) (k3.get b2) d3 ⟨by omega, Wds.mem.mpr wes⟩
theorem ok_high (F : Df K mg "_law_high" s_law_high ["value"]) (T : Txt mg) : Cal P w K mg base "_law_high" ["value"] 1 spHigh := by
  refine F.ok sc_law_high (fun vs H Q E h => ?_) (fun f cdv A outer s H vs Q E hr h => ?_)
  · obtain ⟨v, d, W, rfl, _⟩ := h
    rfl
  obtain ⟨v, d, W, rfl, hd, hw, hW, q⟩ := h
  refine ⟨_, (pss_cons (ps_set (i := 1) sc_law_high.nd rfl (Or.inl rfl) (pe_lst (pa_cons (pv 0) pa_nil)))
      (pss_cons (ps_set (i := 2) sc_law_high.nd rfl (Or.inl rfl) pe_int)
      (pss_cons (ps_set (i := 3) sc_law_high.nd rfl (Or.inl rfl) pe_int)
      (pss_cons (ps_while PassesOwn.never (PW.pt (pw_and (pt_truth (pv 1) (by intro _; rfl)) (pw_and1 (pt_cmpR op_lt (pv 3) pe_int (nomark _))))) (pss_cons (ps_set (i := 2) sc_law_high.nd rfl (Or.inl rfl) (pe_op op_add (pv 2) pe_int))
      (pss_cons (ps_set (i := 3) sc_law_high.nd rfl (Or.inl rfl) (pe_op op_add (pv 3) (pe_callB call_len_seq (by rfl) T.z_len (by decide +kernel) (pa_cons (pv 1) pa_nil))))
      (pss_cons (ps_set (i := 4) sc_law_high.nd rfl (Or.inl rfl) (pe_lst pa_nil))
      (pss_cons (ps_for PassesOwn.never rfl (pi_list (pv 1)) (pg_name (i := 5) sc_law_high.nd rfl (.inl rfl)) (pss_one (ps_if (pt_val (pe_callB call_isi (by rfl) T.z_isinstance (by decide +kernel) (pa_cons (pv 5) (pa_cons (pe_bty (T := "tuple") (by rfl) T.z_tuple (by decide +kernel)) pa_nil)))) (pss_one (ps_expr (pe_bm PySem.F.plainAttrs_list PySem.F.slot_list_extend PySem.F.type_list_extend mt_extT (pv 4) (pa_cons (pv 5) pa_nil)))) pss_nil)))
      (pss_one (ps_set (i := 1) sc_law_high.nd rfl (Or.inl rfl) (pv 4))))))))
      (pss_cons (ps_if (pt_truth (pv 1) (by intro _; rfl)) (pss_one (ps_ret pe_int)) pss_nil)
      (pss_one (ps_ret (pv 2)))))))), ?_⟩
  walk_at "rd"
  refine r_lstN (by simp) fun l0 H0 k0 t0 n0 e0 => ?_
  walk_at "rd"
  refine ⟨fun m σ H' => ∃ (L : Addr) (xs : List V) (ds : List D) (h c : Nat) (v4 v5 : Option V), σ = [some v, some (.ref L), some (.int h), some (.int c), v4, v5] ∧ Kp [] H H' ∧ H L = none ∧ H' L = some (.lst xs) ∧ Dts H' ds xs ∧ Wds Tx W ds ∧
      d.dp ≤ h + dps ds ∧ d.sz ≤ c + szs ds ∧ xs.length ≤ 40 * (c + 1) ∧ c ≤ 164000 ∧ m = 4000 - c,
    ⟨_, l0, [v], [d], 0, 0, none, none, rfl, k0, n0, e0, Dts.cons (hd.mono t0) Dts.nil, ⟨hw, trivial⟩, ?_, ?_, by simp, by omega, rfl⟩, ?_⟩
  · show d.dp ≤ 0 + max d.dp 0
    omega
  · show d.sz ≤ 0 + (d.sz + 0)
    omega
  rintro m σ H1 ⟨L, xs, ds, h, c, v4, v5, rfl, k1, nL, hL, hds, wds, dle, sle, lxs, cle, rfl⟩
  have lds := hds.len
  walk_at "rd"
  refine ⟨_, .inl ⟨xs, SqL.of hL, rfl⟩, if_2 (fun c1 => ?_) (fun c1 => ?_)⟩
  rotate_left
  · have e0 : xs = [] := by
      cases xs with
      | nil => rfl
      | cons _ _ => cases c1
    subst e0
    have e1 : ds = [] := List.eq_nil_of_length_eq_zero lds.symm
    subst e1
    have z1 : d.dp ≤ h := dle
    have z2 : d.sz ≤ c := sle
    walk_at "rd"
    refine ⟨_, .inl ⟨[], SqL.of hL, rfl⟩, ?_⟩
    walk_at "rd"
    exact q h H1 k1 fun r => ⟨by omega, by omega⟩
  walk_at "rd"
  refine if_2 (fun c2 => ?_) (fun c2 => ?_)
  rotate_left
  · walk_at "rd"
    refine ⟨_, .inl ⟨xs, SqL.of hL, rfl⟩, if_t c1 ?_⟩
    walk_at "rd"
    exact q 1000 H1 k1 fun r => absurd r (by decide)
  have cl : c < 4000 := by simp at c2; omega
  have px : 1 ≤ xs.length := by
    cases xs with
    | nil => cases c1
    | cons _ _ => simp
  refine ⟨_, fun _ _ z => z, ?_⟩
  walk_at "rd"
  refine ⟨L, xs, rfl, .inl (SqL.of hL), ?_⟩
  walk_at "rd"
  refine r_lstN (by simp) fun M H2 k2 t2 nM eM => ?_
  walk_at "rd"
  have neL : M ≠ L := (ne_of_none hL nM).symm
  have nM0 : H M = none := k1.none nM
  refine ⟨_, rfl, L, rfl, ⟨_, SqL.of (k2.get hL)⟩, for_list (K := K) (a := L) (xs := xs) (fun i σ H' => ∃ es ys v6, σ = [some v, some (.ref L), some (.int ((h : Int) + 1)), some (.int ((c : Int) + (xs.length : Nat))), some (.ref M), v6] ∧ Kp [] H H' ∧ H' L = some (.lst xs) ∧ Dts H' ds xs ∧ H' M = some (.lst ys) ∧ Dts H' es ys ∧ Wds Tx W es ∧
      dps (ds.take i) ≤ 1 + dps es ∧ szs (ds.take i) ≤ i + szs es ∧ ys.length ≤ W * i)
    ⟨[], [], v5, rfl, k1.trans k2, k2.get hL, hds.mono t2, eM, Dts.nil, trivial, by show 0 ≤ _; omega, by show 0 ≤ _; omega, Nat.zero_le _⟩ (fun i σ H' _ ⟨_, _, _, _, _, e, _⟩ => SqL.of e) ?_ ?_⟩
  · rintro i u σ H3 hi ⟨es, ys, v6, rfl, k3, hL3, hds3, hM3, hes, wes, dl, sl, ll⟩
    obtain ⟨x, hx, hu⟩ := hds3.at hi
    have mx : x ∈ ds := List.mem_of_getElem? hx
    have wx : Wd Tx W x := Wds.mem.mp wds x mx
    have ilt : i < xs.length := (List.getElem?_eq_some_iff.mp hi).1
    have dt1 : dps (ds.take (i + 1)) = max (dps (ds.take i)) (max x.dp 0) := by
      rw [take_one hx, dps_app]
      rfl
    have st1 : szs (ds.take (i + 1)) = szs (ds.take i) + (x.sz + 0) := by
      rw [take_one hx, szs_app]
      rfl
    have mul : W * (i + 1) = W * i + W := Nat.mul_succ _ _
    walk_at "rd"
    refine r_isT hu ?_
    walk_at "rd"
    refine if_2 (fun c3 => ?_) (fun c3 => ?_)
    · obtain ⟨ps, rfl⟩ := D.tup_of c3
      obtain ⟨a, us, rfl, ha, hus⟩ := hu.tup
      have lus := hus.len
      have lps : ps.length ≤ W := wx.1
      have e1 : (D.tup ps).dp = 1 + dps ps := rfl
      have e2 : (D.tup ps).sz = 1 + szs ps := rfl
      walk_at "rd"
      refine ⟨.inl ⟨rfl, _, SqL.of hM3⟩, ?_⟩
      walk_at "rd"
      have big : W * i ≤ 40 * 160040 := Nat.mul_le_mul hW (by omega)
      refine ⟨M, a, ys, us, rfl, rfl, hM3, SqT.of ha, Nat.le_trans (show _ ≤ 16000000 by omega) (by decide), ?_⟩
      walk_at "rd"
      have tt : KeepT H3 (upd H3 M (.lst (ys ++ us))) := fun p zs z => by rw [upd_ne (ne_of z hM3 (fun q => by cases q))]; exact z
      refine ⟨es ++ ps, ys ++ us, some (.ref a), rfl, k3.own nM0, by rw [upd_ne neL.symm]; exact hL3, hds3.mono tt, upd_same, (hes.app hus).mono tt, wes.app wx.2, ?_, ?_, ?_⟩
      · rw [dt1, dps_app]
        omega
      · rw [st1, szs_app]
        omega
      · rw [List.length_append]
        omega
    · have e1 : x.dp = 1 := by cases x <;> first | rfl | cases c3
      have e2 : x.sz = 1 := by cases x <;> first | rfl | cases c3
      walk_at "rd"
      refine ⟨es, ys, some u, rfl, k3, hL3, hds3, hM3, hes, wes, ?_, ?_, by omega⟩
      · rw [dt1]
        omega
      · rw [st1]
        omega
  · rintro σ H3 ⟨es, ys, v6, rfl, k3, hL3, hds3, hM3, hes, wes, dl, sl, ll⟩
    rw [lds, List.take_length] at dl sl
    walk_at "rd"
    have big : W * xs.length ≤ 40 * xs.length := Nat.mul_le_mul_right _ hW
    refine ⟨4000 - (c + xs.length), by omega, M, ys, es, h + 1, c + xs.length, some (.ref M), v6, rfl, k3, nM0, hM3, hes, wes, by omega, by omega, by omega, by omega, rfl⟩
end
end K02
end

section
/-! Data with a place replaced. -/
namespace K02
open PySem L2 PyProof.Rows PySem.Spec Lc
variable [Lc.Tbs]
local macro_rules | `(tactic| walk_at "rd") => `(tactic| repeat (first
  | with_reducible refine r_seq ?_ | with_reducible refine r_mknx ?_ | with_reducible refine r_mkrt ?_ | with_reducible refine r_asg ?_ | with_reducible refine r_name ?_ | with_reducible refine r_next ?_
  | with_reducible refine r_drop ?_ | with_reducible refine r_ret ?_ | with_reducible refine r_if ?_
  | ((with_reducible refine' r_var ?e ?_); (case e => rfl)) | with_reducible refine r_c ?_ | with_reducible refine r_op ?_ | with_reducible refine r_un ?_ | with_reducible refine r_test ?_ | with_reducible refine r_tb ?_
  | with_reducible refine r_and ?_ | with_reducible refine r_or ?_ | with_reducible refine r_not ?_ | with_reducible refine r_andV ?_ | with_reducible refine r_orV ?_ | with_reducible refine r_notV ?_ | with_reducible refine r_bl ?_
  | with_reducible refine r_cb ?_ | with_reducible refine r_cons ?_ | with_reducible refine r_nil ?_ | with_reducible refine r_tup ?_ | with_reducible refine r_lst ?_ | with_reducible refine r_call ?_
  | with_reducible refine r_i0 ?_ | with_reducible refine r_par ?_ | with_reducible refine r_two ?_ | with_reducible refine r_lc ?_ | with_reducible refine r_iL ?_ | with_reducible refine r_iT ?_ | with_reducible refine r_iS ?_ | with_reducible refine r_i1 ?_ | with_reducible refine r_yes ?_ | with_reducible refine r_chain ?_ | with_reducible refine if_t rfl ?_ | with_reducible refine if_f rfl ?_ | with_reducible refine r_nt ?_ | ((with_reducible refine r_eq ?e ?_); (case e => rfl)) | ((with_reducible refine r_ne ?e ?_); (case e => rfl))
  | with_reducible refine r_sub ?_ | with_reducible refine r_sl ?_ | with_reducible refine r_nopart ?_ | with_reducible refine r_part ?_ | with_reducible refine r_int ?_ | with_reducible refine r_bm ?_ | with_reducible refine r_bm0 ?_ | with_reducible refine r_gcons ?_ | with_reducible refine r_gnil ?_ | with_reducible refine r_dget1 ?_ | with_reducible refine r_dget2 ?_))


local macro_rules | `(tactic| walk_at "dt") => `(tactic| repeat' (first | (show Dt _ _ _; assumption) | exact dt_str | exact dt_int | exact dt_bl | exact dt_non | exact Dts.nil | refine' Dts.cons ?_ ?_ | (refine' Dt.mono ?kk ?_; (case kk => assumption)) | fail))
local macro_rules | `(tactic| walk_at "at") => `(tactic| repeat (first | assumption | (refine' Kp.ge ?kk ?nn ?_; (case kk => assumption); (case nn => intro _ z; cases z)) | fail))
local macro_rules | `(tactic| walk_at "kp") => `(tactic| repeat (first | assumption | exact Kp.refl _ _ | (refine' Kp.trans ?_ ?kk; (case kk => assumption)) | fail))
local macro_rules | `(tactic| walk_at "tup") => `(tactic| (refine' r_tupN ?h ?f ?k; (case h => walk_at "dt"); (case f => simp); skip))
theorem gd_of {W : Nat} {d : D} (h1 : Wd Tx 3 d) (h2 : d.dp ≤ 90) (h3 : d.sz ≤ 500000) (hW : 3 ≤ W) : Gd W d := ⟨Wd.mono (fun _ z => z) hW h1, h2, h3⟩
def spSpoilt : Sp := fun vs H Q _ => ∃ (c a m : Addr) (v : V) (d : D) (W : Nat) (ms : List V), vs = [.ref c, v, .ref m] ∧ CS a H c ∧ Dt H d v ∧ Gd W d ∧ 3 ≤ W ∧ W + 1 ≤ 40 ∧ H m = some (.lst ms) ∧ m ≠ c ∧ ms.length ≤ 100 ∧ (∀ x ∈ ms, Itm H W x) ∧
  ∀ v' d' H', Kp [c] H H' → CS a H' c → Dt H' d' v' → Gd (W + 1) d' → Q v' H'
/-- what may be put in -/
def Oth (H : Hp) (W : Nat) (y : V) : Prop := ∃ e, Dt H e y ∧ Wd Tx W e
theorem Itm.oth {H : Hp} {W : Nat} {y : V} (h : Itm H W y) : Oth H (W + 1) y := by
  obtain ⟨e, h1, h2⟩ := h
  exact ⟨e, h1, Wd.mono (fun _ z => z) (Nat.le_succ W) h2.wd⟩
theorem Oth.mono {H H' : Hp} {W : Nat} {y : V} (t : KeepT H H') (h : Oth H W y) : Oth H' W y := by
  obtain ⟨e, h1, h2⟩ := h
  exact ⟨e, h1.mono t, h2⟩

abbrev s_law_spoilt : Stmt := top 32
abbrev N_law_spoilt : List Str := ["c", "value", "menu", "found", "at", "one", "others", "other", "changed"]
theorem sc_law_spoilt : FnScope N_law_spoilt ["c", "value", "menu"] (defScope s_law_spoilt) := ⟨rfl, rfl, rfl, by decide +kernel, rfl, by decide +kernel, by decide +kernel⟩
section
variable {P : Program} {w : World} {K : PySem.W.Frag} {mg : Str → Option Value} {base : Heap}
theorem ok_spoilt (F : Df K mg "_law_spoilt" s_law_spoilt ["c", "value", "menu"]) (T : Txt mg) (C_law_nodes_of : Cal P w K mg base "_law_nodes_of" ["value", "found"] 110 (spNodes 91)) (C_law_take : Cal P w K mg base "_law_take" ["c", "many"] 110 spTake)
    (C_law_is_int : Cal P w K mg base "_law_is_int" ["value"] 110 spIsInt) (C_law_changed : Cal P w K mg base "_law_changed" ["value", "box", "other"] 110 (spChanged 91)) (C_law_high : Cal P w K mg base "_law_high" ["value"] 110 spHigh) :
    Cal P w K mg base "_law_spoilt" ["c", "value", "menu"] 111 spSpoilt := by
  refine F.ok sc_law_spoilt (fun vs H Q E h => ?_) (fun f cdv A outer s H vs Q E hr h => ?_)
  · obtain ⟨c, a, m, v, d, W, ms, rfl, _⟩ := h
    rfl
  obtain ⟨c, a, m, v, d, W, ms, rfl, cs, hd, g, hW3, hW, hm, nmc, lms, hms, q⟩ := h
  refine ⟨_, (pss_cons (ps_set (i := 3) sc_law_spoilt.nd rfl (Or.inl rfl) (pe_cal C_law_nodes_of hr rfl (pa_cons (pv 1) (pa_cons (pe_lst pa_nil) pa_nil))))
      (pss_cons (ps_set (i := 4) sc_law_spoilt.nd rfl (Or.inl rfl) (pe_cal C_law_take hr rfl (pa_cons (pv 0) (pa_cons (pe_callB call_len_seq (by rfl) T.z_len (by decide +kernel) (pa_cons (pv 3) pa_nil)) pa_nil))))
      (pss_cons (ps_set (i := 5) sc_law_spoilt.nd rfl (Or.inl rfl) (pe_ix ix_list (pv 3) (pv 4) (fun _ _ => rfl)))
      (pss_cons (ps_set (i := 6) sc_law_spoilt.nd rfl (Or.inl rfl) (pe_op op_cat (pe_lst (pa_cons (pe_ix ix_list (pv 3) (pe_cal C_law_take hr rfl (pa_cons (pv 0) (pa_cons (pe_callB call_len_seq (by rfl) T.z_len (by decide +kernel) (pa_cons (pv 3) pa_nil)) pa_nil))) (fun _ _ => rfl)) (pa_cons (pe_ix ix_list (pv 3) (pe_cal C_law_take hr rfl (pa_cons (pv 0) (pa_cons (pe_callB call_len_seq (by rfl) T.z_len (by decide +kernel) (pa_cons (pv 3) pa_nil)) pa_nil))) (fun _ _ => rfl)) (pa_cons pe_non (pa_cons pe_bl (pa_cons pe_bl (pa_cons pe_int (pa_cons pe_int (pa_cons (pe_op op_sub pe_int pe_int) (pa_cons pe_str (pa_cons pe_str (pa_cons (pe_tup pa_nil) (pa_cons (pe_tup (pa_cons (pe_tup pa_nil) (pa_cons pe_str pa_nil))) pa_nil))))))))))))) (pv 2)))
      (pss_cons (ps_set (i := 7) sc_law_spoilt.nd rfl (Or.inl rfl) (pe_ix ix_list (pv 6) (pe_cal C_law_take hr rfl (pa_cons (pv 0) (pa_cons (pe_callB call_len_seq (by rfl) T.z_len (by decide +kernel) (pa_cons (pv 6) pa_nil)) pa_nil))) (fun _ _ => rfl)))
      (Evl.pss_cut (ps_if (PW.pt (pw_and (pt_val (pe_callB call_isi (by rfl) T.z_isinstance (by decide +kernel) (pa_cons (pv 5) (pa_cons (pe_bty (T := "tuple") (by rfl) T.z_tuple (by decide +kernel)) pa_nil)))) (pw_and1 (pt_cmpR op_eq (pe_cal C_law_take hr rfl (pa_cons (pv 0) (pa_cons pe_int pa_nil))) pe_int (nomark _))))) (pss_one (ps_set (i := 7) sc_law_spoilt.nd rfl (Or.inl rfl) (pe_ix ix_list (pe_lst (pa_cons (pe_slice sl_tupA (pv 5) (po_some pe_int) po_none) (pa_cons (pe_op op_catA (pv 5) (pe_slice sl_tupA (pv 5) (po_some (pe_un un_neg pe_int)) po_none)) (pa_cons (pe_revT (pv 5)) (pa_cons (pe_slice sl_tupA (pv 5) po_none (po_some (pe_un un_neg pe_int))) pa_nil))))) (pe_cal C_law_take hr rfl (pa_cons (pv 0) (pa_cons pe_int pa_nil))) (fun _ _ => rfl)))) pss_nil)
      (Evl.pss_cut (ps_if (PW.pt (pw_and (pt_val (pe_cal C_law_is_int hr rfl (pa_cons (pv 5) pa_nil))) (pw_and1 (pt_cmpR op_eq (pe_cal C_law_take hr rfl (pa_cons (pv 0) (pa_cons pe_int pa_nil))) pe_int (nomark _))))) (pss_one (ps_set (i := 7) sc_law_spoilt.nd rfl (Or.inl rfl) (pe_ix ix_list (pe_lst (pa_cons (pe_op op_add (pv 5) pe_int) (pa_cons (pe_op op_sub (pv 5) pe_int) (pa_cons (pe_op op_add (pv 5) pe_int) pa_nil)))) (pe_cal C_law_take hr rfl (pa_cons (pv 0) (pa_cons pe_int pa_nil))) (fun _ _ => rfl)))) pss_nil)
      (pss_cons (ps_set (i := 8) sc_law_spoilt.nd rfl (Or.inl rfl) (pe_cal C_law_changed hr rfl (pa_cons (pv 1) (pa_cons (pe_lst (pa_cons (pe_op op_add (pv 4) pe_int) pa_nil)) (pa_cons (pv 7) pa_nil)))))
      (pss_cons (ps_if (pt_cmpR op_gt (pe_cal C_law_high hr rfl (pa_cons (pv 8) pa_nil)) pe_int (nomark _)) (pss_one (ps_ret (pv 1))) pss_nil)
      (pss_one (ps_ret (pv 8)))))))))))), ?_⟩
  walk_at "rd"
  refine r_lstN (by simp) fun fo H1 k1 t1 nf ef => ?_
  walk_at "rd"
  refine ⟨v, d, fo, [], W, rfl, hd.mono t1, g, Nat.le_trans g.dp (by decide), by omega, ef, (fun x hx => by cases hx), by simp, fun H2 ys k2 e2 hys lys nys => ?_⟩
  have kk2 : Kp [] H H2 := (k1.of0.trans k2).drop nf
  have c2 : CS a H2 c := cs.keep kk2
  have nfo := cs.ne nf
  clear k1 k2 t1 ef H1
  walk_at "rd"
  refine ⟨fo, ys, rfl, .inl (SqL.of e2), ?_⟩
  walk_at "rd"
  have pos : 0 < ys.length := List.length_pos_iff.mpr nys
  refine ⟨c, a, ys.length, rfl, c2, by omega, by omega, fun i1 H3 lo1 hi1 k3 c3 => ?_⟩
  have e3 := k3 fo _ (by simpa using nfo.1) e2
  have t3 := c2.t k3
  walk_at "rd"
  obtain ⟨one, h1, m1, _⟩ := at_mem (xs := ys) lo1 hi1
  refine r_ixL e3 h1 ?_
  walk_at "rd"
  refine ⟨fo, ys, rfl, .inl (SqL.of e3), ?_⟩
  walk_at "rd"
  refine ⟨c, a, ys.length, rfl, c3, by omega, by omega, fun i2 H4 lo2 hi2 k4 c4 => ?_⟩
  have e4 := k4 fo _ (by simpa using nfo.1) e3
  have t4 := c3.t k4
  walk_at "rd"
  obtain ⟨o1, h2, m2, _⟩ := at_mem (xs := ys) lo2 hi2
  refine r_ixL e4 h2 ?_
  walk_at "rd"
  refine ⟨fo, ys, rfl, .inl (SqL.of e4), ?_⟩
  walk_at "rd"
  refine ⟨c, a, ys.length, rfl, c4, by omega, by omega, fun i3 H5 lo3 hi3 k5 c5 => ?_⟩
  have e5 := k5 fo _ (by simpa using nfo.1) e4
  have t5 := c4.t k5
  walk_at "rd"
  obtain ⟨o2, h3, m3, _⟩ := at_mem (xs := ys) lo3 hi3
  refine r_ixL e5 h3 ?_
  walk_at "rd"
  walk_at "tup"
  intro p1 H6 k6 t6 n6 e6 d6
  walk_at "rd"
  walk_at "tup"
  intro p2 H7 k7 t7 n7 e7 d7
  walk_at "rd"
  walk_at "tup"
  intro p3 H8 k8 t8 n8 e8 d8
  walk_at "rd"
  refine r_lstN (by simp) fun l1 H9 k9 t9 n9 e9 => ?_
  walk_at "rd"
  have f1 : Dt H9 (.tup []) (.ref p1) := by walk_at "dt"
  have f3 : Dt H9 (.tup [.tup [], .str "a"]) (.ref p3) := by walk_at "dt"
  have kc : Kp [c] H H9 := ((kk2.of0.trans k3).trans (k4.trans k5)).trans (((k6.trans k7).trans k8).trans k9).of0
  have c9 : CS a H9 c := c5.keep (((k6.trans k7).trans k8).trans k9)
  have m9 : H9 m = some (.lst ms) := kc m _ (by simpa using nmc) hm
  have th : KeepT H H9 := cs.t kc
  refine r_catN e9 m9 (by simp; omega) fun l2 H10 k10 t10 n10 e10 => ?_
  walk_at "rd"
  have t210 : KeepT H2 H10 := (((t3.trans t4).trans t5).trans ((t6.trans t7).trans (t8.trans t9))).trans t10
  have good : ∀ d : D, Wd Tx 3 d → d.dp ≤ 90 → d.sz ≤ 500000 → ∀ y, Dt H10 d y → Itm H10 W y := fun d z1 z2 z3 y hy => ⟨d, hy, gd_of z1 z2 z3 hW3⟩
  have oth : ∀ y ∈ [o1, o2, .non, .bl true, .bl false, .int 0, .int 1, .int (0 - 1), .str "", .str "a", .ref p1, .ref p3] ++ ms, Itm H10 W y := by
    intro y hy
    rcases List.mem_append.mp hy with hy | hy
    · simp only [List.mem_cons, List.not_mem_nil, or_false] at hy
      rcases hy with rfl | rfl | rfl | rfl | rfl | rfl | rfl | rfl | rfl | rfl | rfl | rfl
      · exact (hys _ m2).mono t210
      · exact (hys _ m3).mono t210
      · exact good .non trivial (by decide) (by decide) _ rfl
      · exact good (.bl true) trivial (by decide) (by decide) _ rfl
      · exact good (.bl false) trivial (by decide) (by decide) _ rfl
      · exact good (.int 0) trivial (by decide) (by decide) _ rfl
      · exact good (.int 1) trivial (by decide) (by decide) _ rfl
      · exact good (.int (0 - 1)) trivial (by decide) (by decide) _ rfl
      · exact good (.str "") (show Tx "" by decide +kernel) (by decide) (by decide) _ rfl
      · exact good (.str "a") (show Tx "a" by decide +kernel) (by decide) (by decide) _ rfl
      · exact good (.tup []) ⟨by show 0 ≤ 3; decide, trivial⟩ (by decide +kernel) (by decide +kernel) _ (f1.mono t10)
      · exact good (.tup [.tup [], .str "a"]) ⟨by show 2 ≤ 3; decide, ⟨by show 0 ≤ 3; decide, trivial⟩, (show Tx "a" by decide +kernel), trivial⟩ (by decide +kernel) (by decide +kernel) _ (f3.mono t10)
    · exact ((hms y hy).mono th).mono t10
  have lo : ([o1, o2, .non, .bl true, .bl false, .int 0, .int 1, .int (0 - 1), .str "", .str "a", .ref p1, .ref p3] ++ ms).length ≤ 200 := by
    rw [List.length_append]
    show 12 + ms.length ≤ 200
    omega
  have po : 0 < ([o1, o2, .non, .bl true, .bl false, .int 0, .int 1, .int (0 - 1), .str "", .str "a", .ref p1, .ref p3] ++ ms).length := by
    rw [List.length_append]
    show 0 < 12 + ms.length
    omega
  have c10 := c9.keep k10
  have kc10 : Kp [c] H H10 := kc.trans k10.of0
  have hone : Itm H10 W one := (hys _ m1).mono t210
  generalize [o1, o2, .non, .bl true, .bl false, .int 0, .int 1, .int (0 - 1), .str "", .str "a", .ref p1, .ref p3] ++ ms = others at e10 oth lo po
  refine ⟨l2, others, rfl, .inl (SqL.of e10), ?_⟩
  walk_at "rd"
  refine ⟨c, a, others.length, rfl, c10, by omega, by omega, fun i4 H11 lo4 hi4 k11 c11 => ?_⟩
  have nl2 : l2 ≠ c := (c9.ne n10).1
  have t11 := c10.t k11
  walk_at "rd"
  obtain ⟨other, h4, m4, _⟩ := at_mem (xs := others) lo4 hi4
  refine r_ixL (k11 l2 _ (by simpa using nl2) e10) h4 ?_
  walk_at "rd"
  have kc11 : Kp [c] H H11 := kc10.trans k11
  obtain ⟨d1, hd1, g1⟩ := hone.mono t11
  have ho1 : Oth H11 (W + 1) other := ((oth _ m4).mono t11).oth
  clear k3 k4 k5 k6 k7 k8 k9 k10 k11 t3 t4 t5 t6 t7 t8 t9 t10 t11 t210 d6 d7 d8 f1 f3 kc kc10 kk2 e2 e3 e4 e5 e6 e7 e8 e9 e10 n6 n7 n8 n9 n10 c2 c3 c4 c5 c9 c10 hone oth h1 h2 h3 h4 m9 th good
  refine r_cut (fun σ H' => ∃ o, σ = [some (.ref c), some v, some (.ref m), some (.ref fo), some (.int i1), some one, some (.ref l2), some o, none] ∧ Kp [c] H11 H' ∧ CS a H' c ∧ Oth H' (W + 1) o) ?_ ?_
  · walk_at "rd"
    refine r_isT hd1 ?_
    walk_at "rd"
    refine if_2 (fun c1 => ?_) (fun c1 => ?_)
    · obtain ⟨ds, rfl⟩ := D.tup_of c1
      obtain ⟨p, us, rfl, hp, hus⟩ := hd1.tup
      have lus := hus.len
      have wds : Wds Tx W ds := g1.wd.2
      have lds : ds.length ≤ W := g1.wd.1
      walk_at "rd"
      refine ⟨c, a, 2, rfl, c11, by decide, by decide, fun i5 G1 lo5 hi5 k1 c1 => ?_⟩
      walk_at "rd"
      have tg1 := c11.t k1
      refine if_2 (fun _ => ?_) (fun _ => ?_)
      · walk_at "rd"
        refine r_slT (tg1 p _ hp) (hus.mono tg1) fun u1 es1 G2 k2 t2 hu1 s1 l1 => ?_
        walk_at "rd"
        refine ⟨1, rfl, ?_⟩
        walk_at "rd"
        refine r_slT (t2 p _ (tg1 p _ hp)) ((hus.mono tg1).mono t2) fun u2 es2 G3 k3 t3 hu2 s2 l2 => ?_
        have l2' := last_cut us
        obtain ⟨p2, us2, rfl, hp2, hus2⟩ := hu2.tup
        have lus2 := hus2.len
        refine r_catT (t3 p _ (t2 p _ (tg1 p _ hp))) hp2 (((hus.mono tg1).mono t2).mono t3) hus2 (by omega) fun u3 G4 k4 t4 hu3 => ?_
        walk_at "rd"
        refine r_back ?_
        walk_at "rd"
        refine ⟨p, us, rfl, SqT.of (t4 p _ (t3 p _ (t2 p _ (tg1 p _ hp)))), fun p4 np4 => ?_⟩
        obtain ⟨k5, t5, hu4⟩ := new_tup np4 (((((hus.mono tg1).mono t2).mono t3).mono t4).rev)
        show (fun (G5 : Hp) => _) (upd G4 p4 (.tup us.reverse))
        generalize (upd G4 p4 (.tup us.reverse)) = G5 at k5 t5 hu4 ⊢
        walk_at "rd"
        refine ⟨1, rfl, ?_⟩
        walk_at "rd"
        refine r_slT (t5 p _ (t4 p _ (t3 p _ (t2 p _ (tg1 p _ hp))))) (((((hus.mono tg1).mono t2).mono t3).mono t4).mono t5) fun u5 es5 G6 k6 t6 hu5 s5 l5 => ?_
        have w1 : Oth G6 (W + 1) u1 := ⟨_, (((hu1.mono t3).mono t4).mono t5).mono t6, ⟨by have := cutV_length us (some 1) none; omega, Wds.mono (fun _ z => z) (Nat.le_succ W) (wds.sub s1)⟩⟩
        have w2 : Oth G6 (W + 1) u3 := ⟨_, (hu3.mono t5).mono t6, ⟨by rw [List.length_append]; omega, Wds.mono (fun _ z => z) (Nat.le_succ W) (wds.app (wds.sub s2))⟩⟩
        have w3 : Oth G6 (W + 1) (.ref p4) := ⟨_, hu4.mono t6, ⟨by rw [List.length_reverse]; omega, Wds.mono (fun _ z => z) (Nat.le_succ W) (wds.sub fun e he => List.mem_reverse.mp he)⟩⟩
        have w4 : Oth G6 (W + 1) u5 := ⟨_, hu5, ⟨by have := cutV_length us none (some (-1)); omega, Wds.mono (fun _ z => z) (Nat.le_succ W) (wds.sub s5)⟩⟩
        have k16 : Kp [] G1 G6 := (((k2.trans k3).trans k4).trans k5).trans k6
        walk_at "rd"
        refine r_lstN (by simp) fun l6 G7 k7 t7 n7 e7 => ?_
        walk_at "rd"
        have cG7 := c1.keep (k16.trans k7)
        refine ⟨c, a, 4, rfl, cG7, by decide, by decide, fun i6 G8 lo6 hi6 k8 c8 => ?_⟩
        have nl6 : l6 ≠ c := ((c1.keep k16).ne n7).1
        walk_at "rd"
        obtain ⟨o, h5, m5, _⟩ := at_mem (xs := [u1, u3, .ref p4, u5]) lo6 hi6
        refine r_ixL (k8 l6 _ (by simpa using nl6) e7) h5 ?_
        walk_at "rd"
        have t8 := cG7.t k8
        refine ⟨o, rfl, (k1.trans (k16.trans k7).of0).trans k8, c8, ?_⟩
        simp only [List.mem_cons, List.not_mem_nil, or_false] at m5
        rcases m5 with rfl | rfl | rfl | rfl
        · exact (w1.mono t7).mono t8
        · exact (w2.mono t7).mono t8
        · exact (w3.mono t7).mono t8
        · exact (w4.mono t7).mono t8
      · walk_at "rd"
        exact ⟨other, rfl, k1, c1, ho1.mono tg1⟩
    · walk_at "rd"
      exact ⟨other, rfl, Kp.refl _ _, c11, ho1⟩
  · rintro σ G0 ⟨o0, rfl, kG0, cG0, hoG0⟩
    have tG0 := c11.t kG0
    refine r_cut (fun σ H' => ∃ o, σ = [some (.ref c), some v, some (.ref m), some (.ref fo), some (.int i1), some one, some (.ref l2), some o, none] ∧ Kp [c] H11 H' ∧ CS a H' c ∧ Oth H' (W + 1) o) ?_ ?_
    · walk_at "rd"
      refine ⟨one, d1, rfl, hd1.mono tG0, fun G1 k1 => ?_⟩
      walk_at "rd"
      have cG1 := cG0.keep k1
      refine if_2 (fun c1 => ?_) (fun c1 => ?_)
      · obtain ⟨n1, rfl⟩ : ∃ n1, d1 = .int n1 := by
          cases d1 <;> first | exact ⟨_, rfl⟩ | cases c1
        cases hd1.int
        walk_at "rd"
        refine ⟨c, a, 2, rfl, cG1, by decide, by decide, fun i5 G2 lo5 hi5 k2 c2 => ?_⟩
        walk_at "rd"
        have t2 := cG1.t k2
        have kk : Kp [c] H11 G2 := (kG0.trans k1.of0).trans k2
        refine if_2 (fun _ => ?_) (fun _ => ?_)
        · walk_at "rd"
          refine r_lstN (by simp) fun l6 G7 k7 t7 n7 e7 => ?_
          walk_at "rd"
          have cG7 := c2.keep k7
          refine ⟨c, a, 3, rfl, cG7, by decide, by decide, fun i6 G8 lo6 hi6 k8 c8 => ?_⟩
          have nl6 : l6 ≠ c := (c2.ne n7).1
          walk_at "rd"
          obtain ⟨o, h5, m5, _⟩ := at_mem (xs := [.int (n1 + 1), .int (n1 - 1), .int (n1 + 2)]) lo6 hi6
          refine r_ixL (k8 l6 _ (by simpa using nl6) e7) h5 ?_
          walk_at "rd"
          refine ⟨o, rfl, (kk.trans k7.of0).trans k8, c8, ?_⟩
          simp only [List.mem_cons, List.not_mem_nil, or_false] at m5
          rcases m5 with rfl | rfl | rfl
          all_goals exact ⟨.int _, rfl, trivial⟩
        · walk_at "rd"
          exact ⟨o0, rfl, kk, c2, (hoG0.mono k1.t0).mono t2⟩
      · walk_at "rd"
        exact ⟨o0, rfl, kG0.trans k1.of0, cG1, hoG0.mono k1.t0⟩
    · rintro σ G1 ⟨o, rfl, k1, cG1, hoG1⟩
      have t1 := c11.t k1
      have kc1 : Kp [c] H G1 := kc11.trans k1
      have tc1 : KeepT H G1 := cs.t kc1
      obtain ⟨e, he, we⟩ := hoG1
      walk_at "rd"
      refine r_lstN (by simp) fun b G2 k2 t2 nb eb => ?_
      walk_at "rd"
      refine ⟨v, d, b, i1 + 1, o, e, W + 1, rfl, (hd.mono tc1).mono t2, g.wd.wide (Nat.le_succ W), Nat.le_trans g.dp (by decide), by omega, he.mono t2, we, eb, fun u d' k' G3 k3 eb3 hd' wd' => ?_⟩
      have k13 : Kp [] G1 G3 := (k2.of0.trans k3).drop nb
      have cG3 := cG1.keep k13
      walk_at "rd"
      refine ⟨u, d', W + 1, rfl, hd', wd', hW, fun r G4 k4 hr4 => ?_⟩
      have kc4 : Kp [c] H G4 := kc1.trans (k13.trans k4).of0
      have cG4 := cG3.keep k4
      walk_at "rd"
      refine if_2 (fun c1 => ?_) (fun c1 => ?_)
      · walk_at "rd"
        exact q v d G4 kc4 cG4 (hd.mono (cs.t kc4)) (g.wide (Nat.le_succ W))
      · have rle : r ≤ 90 := by simp at c1; omega
        obtain ⟨z1, z2⟩ := hr4 rle
        walk_at "rd"
        exact q u d' G4 kc4 cG4 (hd'.mono k4.t0) ⟨wd', z1, Nat.le_trans z2 (by decide)⟩
end
end K02
end

section
/-! A drawn pattern. -/
namespace K02
open PySem L2 PyProof.Rows PySem.Spec Lc
variable [Lc.Tbs]
local macro_rules | `(tactic| walk_at "rd") => `(tactic| repeat (first
  | with_reducible refine r_seq ?_ | with_reducible refine r_mknx ?_ | with_reducible refine r_mkrt ?_ | with_reducible refine r_asg ?_ | with_reducible refine r_name ?_ | with_reducible refine r_next ?_
  | with_reducible refine r_drop ?_ | with_reducible refine r_ret ?_ | with_reducible refine r_if ?_
  | ((with_reducible refine' r_var ?e ?_); (case e => rfl)) | with_reducible refine r_c ?_ | with_reducible refine r_op ?_ | with_reducible refine r_un ?_ | with_reducible refine r_test ?_ | with_reducible refine r_tb ?_
  | with_reducible refine r_and ?_ | with_reducible refine r_or ?_ | with_reducible refine r_not ?_ | with_reducible refine r_andV ?_ | with_reducible refine r_orV ?_ | with_reducible refine r_notV ?_ | with_reducible refine r_bl ?_
  | with_reducible refine r_cb ?_ | with_reducible refine r_cons ?_ | with_reducible refine r_nil ?_ | with_reducible refine r_tup ?_ | with_reducible refine r_lst ?_ | with_reducible refine r_call ?_
  | with_reducible refine r_i0 ?_ | with_reducible refine r_par ?_ | with_reducible refine r_two ?_ | with_reducible refine r_lc ?_ | with_reducible refine r_iL ?_ | with_reducible refine r_iT ?_ | with_reducible refine r_iS ?_ | with_reducible refine r_i1 ?_ | with_reducible refine r_yes ?_ | with_reducible refine r_chain ?_ | with_reducible refine if_t rfl ?_ | with_reducible refine if_f rfl ?_ | with_reducible refine r_nt ?_ | ((with_reducible refine r_eq ?e ?_); (case e => rfl)) | ((with_reducible refine r_ne ?e ?_); (case e => rfl))
  | with_reducible refine r_sub ?_ | with_reducible refine r_sl ?_ | with_reducible refine r_nopart ?_ | with_reducible refine r_part ?_ | with_reducible refine r_int ?_ | with_reducible refine r_bm ?_ | with_reducible refine r_bm0 ?_ | with_reducible refine r_gcons ?_ | with_reducible refine r_gnil ?_ | with_reducible refine r_dget1 ?_ | with_reducible refine r_dget2 ?_))


local macro_rules | `(tactic| walk_at "dt") => `(tactic| repeat' (first | (show Dt _ _ _; assumption) | exact dt_str | exact dt_int | exact dt_bl | exact dt_non | exact Dts.nil | refine' Dts.cons ?_ ?_ | (refine' Dt.mono ?kk ?_; (case kk => assumption)) | fail))
local macro_rules | `(tactic| walk_at "at") => `(tactic| repeat (first | assumption | (refine' Kp.ge ?kk ?nn ?_; (case kk => assumption); (case nn => intro _ z; cases z)) | fail))
local macro_rules | `(tactic| walk_at "kp") => `(tactic| repeat (first | assumption | exact Kp.refl _ _ | (refine' Kp.trans ?_ ?kk; (case kk => assumption)) | fail))
local macro_rules | `(tactic| walk_at "tup") => `(tactic| (refine' r_tupN ?h ?f ?k; (case h => walk_at "dt"); (case f => simp); skip))
theorem hdB_h_inv {sg : Sg} {hs own : List Lc.Ty} {i : Int} {t : Lc.Ty} (h : hdB sg hs own (hd2 "h" i) = some t) : ∃ k : Nat, i = k ∧ hs[k]? = some t := by
  replace h : hkB sg hs own (.str "h") (.int i) = some t := h
  unfold hkB at h
  rw [show (eqD (.str "h") (.str "c") && (D.int i).isS) = false by rw [eqD_str]; rfl, if_neg (by decide), hkM_int] at h
  split at h
  · exact absurd h (by simp)
  · unfold hkI at h
    rw [show eqD (.str "h") (.str "b") = false by rw [eqD_str]; exact decide_eq_false (by decide), Bool.false_and, if_neg (by decide)] at h
    split at h
    · exact ⟨i.toNat, by omega, h⟩
    · exact absurd h (by simp)
theorem ty_sz_mem {t u : Lc.Ty} (h : u ∈ t.as) : u.d.sz < t.d.sz := by
  have m := szs_mem (ds := tyds t.as) (d := u.d) (by rw [tyds_map]; exact List.mem_map.mpr ⟨u, h, rfl⟩)
  rw [Ty.d_eq t]
  show u.d.sz < 1 + ((1 + szs (tyds t.as)) + (1 + 0))
  omega
structure DrOk (n : Nat) (d : D) : Prop where
  wd : Wd Tx 3 d
  dp : d.dp ≤ 2 * n + 20
  sz : d.sz + 4 ≤ 2004 * 3 ^ n
theorem DrOk.up {h j : Nat} {d : D} (k : DrOk h d) (l : h ≤ j) : DrOk j d :=
  ⟨k.wd, Nat.le_trans k.dp (by omega), Nat.le_trans k.sz (Nat.mul_le_mul_left _ (Nat.pow_le_pow_right (by decide) l))⟩
theorem szs_max4 {n : Nat} : ∀ {ds : List D}, (∀ d ∈ ds, d.sz + 4 ≤ n) → szs ds + 4 * ds.length ≤ ds.length * n
  | [], _ => by simp [szs]
  | d :: ds, h => by
    have h1 := h d List.mem_cons_self
    have h2 := szs_max4 (ds := ds) fun e he => h e (List.mem_cons_of_mem _ he)
    rw [szs, List.length_cons, Nat.succ_mul ds.length n]
    omega
theorem dr_ok {n m : Nat} {h : D} {ps : List D} (wh : Wd Tx 3 h) (dh : h.dp = 2) (zh : h.sz = 3) (few : ps.length ≤ 3) (z : n = 0 → ps = []) (all : ∀ d ∈ ps, DrOk (n - 1) d) : DrOk n (.tup [.int m, h, .tup ps]) := by
  have e1 : (D.tup [.int m, h, .tup ps]).dp = 1 + max 1 (max h.dp (max (1 + dps ps) 0)) := rfl
  have e2 : (D.tup [.int m, h, .tup ps]).sz = 1 + (1 + (h.sz + ((1 + szs ps) + 0))) := rfl
  have a1 : dps ps ≤ 2 * (n - 1) + 20 := dps_max fun d hd => (all d hd).dp
  have a2 : szs ps + 4 * ps.length ≤ ps.length * (2004 * 3 ^ (n - 1)) := szs_max4 fun d hd => (all d hd).sz
  refine ⟨⟨by show 3 ≤ 3; decide, trivial, wh, ⟨few, Wds.mem.mpr fun d hd => (all d hd).wd⟩, trivial⟩, ?_, ?_⟩
  · by_cases n0 : n = 0
    · subst n0
      rw [e1, z rfl, dh]
      decide
    · omega
  · by_cases n0 : n = 0
    · subst n0
      rw [e2, z rfl, zh]
      decide
    · have e3 : 3 ^ n = 3 ^ (n - 1) * 3 := by rw [← Nat.pow_succ]; congr 1; omega
      have a5 : 1 ≤ 3 ^ (n - 1) := Nat.pow_pos (by decide)
      have hp : ps.length = 0 ∨ ps.length = 1 ∨ ps.length = 2 ∨ ps.length = 3 := by omega
      rcases hp with hp | hp | hp | hp <;> rw [hp] at a2 <;> omega
theorem lgPs_bd : ∀ {is : List Int} {ts : List Lc.Ty} {m z : Nat}, (∀ t ∈ ts, TyG t ∧ t.d.dp ≤ m ∧ t.d.sz ≤ z) → Wds Tx 3 (lgPs is ts) ∧ dps (lgPs is ts) ≤ m + 1 ∧ szs (lgPs is ts) ≤ ts.length * (2 * z)
  | [], ts, m, z, _ => ⟨trivial, Nat.zero_le _, Nat.zero_le _⟩
  | _ :: _, [], m, z, _ => ⟨trivial, Nat.zero_le _, Nat.zero_le _⟩
  | i :: is, t :: ts, m, z, h => by
    obtain ⟨q1, q2, q3⟩ := lgPs_bd (is := is) (ts := ts) (m := m) (z := z) fun u hu => h u (List.mem_cons_of_mem _ hu)
    have ht := h t List.mem_cons_self
    obtain ⟨b1, b2, b3⟩ := long_bd (Nat.le_refl 3) t "b" i (by decide +kernel) ht.1.ok
    have e : lgPs (i :: is) (t :: ts) = longD "b" i t :: lgPs is ts := rfl
    rw [e]
    refine ⟨⟨b1, q1⟩, ?_, ?_⟩
    · rw [dps]
      omega
    · rw [szs, List.length_cons, Nat.succ_mul]
      omega
theorem chosen_tm {sg : Sg} {hs own : List Lc.Ty} : ∀ {ks : List Lc.Ty} {ns : List Nat}, ns.length = ks.length → (∀ (j m : Nat) (u : Lc.Ty), ns[j]? = some m → ks[j]? = some u → m < own.length ∧ own[own.length - 1 - m]? = some u) → tmsB sg hs own ks (lgPs (intsOf ns) ks) = true
  | [], [], _, _ => by
    show tmsB sg hs own [] [] = true
    rw [tmsB]
    rfl
  | [], _ :: _, l, _ => by cases l
  | _ :: _, [], l, _ => by cases l
  | k :: ks, n :: ns, l, h => by
    have ih := chosen_tm (sg := sg) (hs := hs) (own := own) (ks := ks) (ns := ns) (Nat.succ.inj l) fun j m u h1 h2 => h (j + 1) m u (by simpa using h1) (by simpa using h2)
    have h0 := h 0 n k rfl rfl
    have e : lgPs (intsOf (n :: ns)) (k :: ks) = longD "b" (n : Int) k :: lgPs (intsOf ns) ks := rfl
    rw [e, tmsB]
    show (tmB sg hs own k (longD "b" (n : Int) k) && tmsB sg hs own ks (lgPs (intsOf ns) ks)) = true
    rw [ih, Bool.and_true]
    refine tm_long k own "b" n (.inl rfl) ?_
    rw [hdB_bI (by omega) (by omega)]
    exact h0.2
def spDrawn (n : Nat) : Sp := fun vs H Q _ => ∃ (c a : Addr) (sv hv pv kv : V) (depth : Nat) (sg : Sg) (hs own : List Lc.Ty) (k : Lc.Ty), vs = [.ref c, sv, hv, pv, kv, .int depth] ∧ CS a H c ∧ SgV H sg sv ∧ SgG sg ∧ Dt H (.tup (tyds hs)) hv ∧ (∀ t ∈ hs, TyG t ∧ t.d.dp ≤ 8 ∧ t.d.sz ≤ 256) ∧
  Dt H (.tup (tyds own)) pv ∧ (∀ t ∈ own, TyG t) ∧ Dt H k.d kv ∧ TyG k ∧ own.length + 3 * (depth + 1) ≤ 1000 ∧ hs.length ≤ 1000 ∧ depth < n ∧
  ∀ v d H', Kp [c] H H' → CS a H' c → Dt H' d v → tmB sg hs own k d = true → Pt hs d → DrOk depth d → Q v H'
abbrev s_law_drawn : Stmt := top 35
abbrev N_law_drawn : List Str := ["c", "signature", "holes", "prefix", "kind", "depth", "own", "fits", "parts", "head", "needed", "numbers", "row", "one", "j"]
theorem sc_law_drawn : FnScope N_law_drawn ["c", "signature", "holes", "prefix", "kind", "depth"] (defScope s_law_drawn) := ⟨rfl, rfl, rfl, by decide +kernel, rfl, by decide +kernel, by decide +kernel⟩
section
variable {P : Program} {w : World} {K : PySem.W.Frag} {mg : Str → Option Value} {base : Heap}
theorem ok_law_drawn0 {k n : Nat} (F : Df K mg "_law_drawn" s_law_drawn ["c", "signature", "holes", "prefix", "kind", "depth"]) (T : Txt mg) (hk : 2 ≤ k) (C_law_take : Cal P w K mg base "_law_take" ["c", "many"] 2 spTake) (C_law_heads : Cal P w K mg base "_law_heads" ["signature", "holes", "own", "sort"] 1 spHeads) (hk2 : 20 ≤ k) (C_law_choice : Cal P w K mg base "_law_choice" ["c", "own", "kinds"] 3 spChoice) (C_law_least : Cal P w K mg base "_law_least" ["signature", "kind"] 1 spLeast) (C_law_long : Cal P w K mg base "_law_long" ["head", "kind"] 20 (spLong 20))
    (C_law_drawn : Cal P w K mg base "_law_drawn" ["c", "signature", "holes", "prefix", "kind", "depth"] k (spDrawn n)) : Cal P w K mg base "_law_drawn" ["c", "signature", "holes", "prefix", "kind", "depth"] (k + 1) (spDrawn (n + 1)) := by
  replace C_law_take := C_law_take.mono hk
  replace C_law_heads := C_law_heads.mono (show 1 ≤ k by omega)
  replace C_law_choice := C_law_choice.mono (show 3 ≤ k by omega)
  replace C_law_least := C_law_least.mono (show 1 ≤ k by omega)
  replace C_law_long := C_law_long.mono hk2
  refine F.ok sc_law_drawn (fun vs H Q E h => ?_) (fun f cdv A outer s H vs Q E hr h => ?_)
  · obtain ⟨c, a, sv, hv, xv, kv, depth, sg, hs, own, k, rfl, _⟩ := h
    rfl
  obtain ⟨c, a, sv, hv, xv, kv, depth, sg, hs, own, ⟨as, srt⟩, rfl, cs, hsg, good, hh, whs, hp, wp, hkd, wk, far, lhs, dn, q⟩ := h
  have wh : ∀ t ∈ hs, TyG t := fun t ht => (whs t ht).1
  have hkd0 := hkd
  obtain ⟨ao, xo, rfl, hao, hso⟩ := hp.tup
  have lo : xo.length = own.length := by rw [hso.len, tyds_len]
  rw [Ty.d] at hkd
  obtain ⟨ak, xk, rfl, hak, va, r2, rfl, hva, vs2, r3, rfl, hvs2, rfl⟩ := hkd
  cases hvs2.str
  obtain ⟨a3, x3, rfl, ha3, hs3⟩ := hva
  have l3 : x3.length = as.length := by rw [hs3.len, tyds_len]
  have gk := TyG.as wk
  have las : as.length ≤ 3 := gk.2.1
  have wown : ∀ t ∈ own ++ as, TyG t := fun t ht => by
    rcases List.mem_append.mp ht with ht | ht
    · exact wp t ht
    · exact gk.1 t ht
  have cs' := cs
  obtain ⟨ns, i, dg, cnt, z, hc, ha, h0, hne⟩ := cs'
  refine ⟨_, (pss_cons (ps_asg (pe_op op_sub (pe_ix ix_list (pv 0) pe_int (fun _ _ => rfl)) pe_int) (pg_sub (pv 0) pe_int set_list))
      (pss_cons (ps_set (i := 6) sc_law_drawn.nd rfl (Or.inr rfl) (pe_op op_catA (pv 3) (pe_ix ix_tup (pv 4) pe_int (fun _ _ => rfl))))
      (pss_cons (ps_set (i := 7) sc_law_drawn.nd rfl (Or.inl rfl) (pe_cal C_law_heads hr rfl (pa_cons (pv 1) (pa_cons (pv 2) (pa_cons (pv 6) (pa_cons (pe_ix ix_tup (pv 4) pe_int (fun _ _ => rfl)) pa_nil))))))
      (Evl.pss_cut (ps_if (PW.pt (pw_or (pt_cmpR op_lt (pv 5) pe_int (nomark _)) (pw_or1 (pt_cmpR op_lt (pe_ix ix_list (pv 0) pe_int (fun _ _ => rfl)) pe_int (nomark _))))) (pss_one (ps_setLc (i := 7) (own := [("row", 12)]) (g := gName 12) (by rfl) sc_law_drawn.nd rfl rfl (sw_true rfl rfl rfl (by decide +kernel)) (pi_list (pv 7)) (blkOk_by (N := N_law_drawn) (sc := defScope s_law_drawn) (by decide +kernel)) (fun _ _ _ _ _ => (pg_name (i := 12) sc_law_drawn.nd rfl (Or.inl rfl))) (fun _ _ _ _ _ => pts_one (PW.pt (pw_or (pt_cmpR (r := rEqA 150) (op_eqA (n := 150) (u150 hr)) (pe_ix (r := rIxT K) ix_tup (pe_ix (r := rIxT K) ix_tup (pv 12) pe_int (fun _ _ => rfl)) pe_int (fun _ _ => rfl)) (pe_tup pa_nil) (nomark _)) (pw_or1 (pt_cmpR op_eq (pe_ix (r := rIxT K) ix_tup (pe_ix (r := rIxT K) ix_tup (pv 12) pe_int (fun _ _ => rfl)) pe_int (fun _ _ => rfl)) pe_str (nomark _)))))) (fun _ _ _ _ _ => (pv 12)))) pss_nil)
      (pss_cons (ps_asg (pe_ix ix_list (pv 7) (pe_cal C_law_take hr rfl (pa_cons (pv 0) (pa_cons (pe_callB call_len_seq (by rfl) T.z_len (by decide +kernel) (pa_cons (pv 7) pa_nil)) pa_nil))) (fun _ _ => rfl)) (pg_tup (by rfl) (pgs_cons (pg_name (i := 9) sc_law_drawn.nd rfl (.inl rfl)) (pgs_cons (pg_name (i := 10) sc_law_drawn.nd rfl (.inr rfl)) pgs_nil))))
      (pss_cons (ps_if (pt_cmpR op_eq (pe_ix ix_tup (pv 9) pe_int (fun _ _ => rfl)) pe_str (nomark _)) (pss_cons (ps_set (i := 11) sc_law_drawn.nd rfl (Or.inr rfl) (pe_cal C_law_choice hr rfl (pa_cons (pv 0) (pa_cons (pv 6) (pa_cons (pe_ix ix_tup (pv 10) pe_int (fun _ _ => rfl)) pa_nil)))))
      (pss_cons (ps_if (pt_cmpR op_isN (pv 11) pe_non (nomark _)) (pss_one (ps_ret (pe_cal C_law_least hr rfl (pa_cons (pv 1) (pa_cons (pv 4) pa_nil))))) pss_nil)
      (pss_one (ps_ret (pe_tup (pa_cons (pe_callB call_len_seq (by rfl) T.z_len (by decide +kernel) (pa_cons (pe_ix ix_tup (pv 4) pe_int (fun _ _ => rfl)) pa_nil)) (pa_cons (pv 9) (pa_cons (pe_callTy call_tuple_of (by rfl) T.z_tuple (by decide +kernel) (pa_cons (pe_lc (own := [("j", 14)]) (g := gName 14) rfl sc_law_drawn.nd (pi_range1 rfl T.z_range (pa_cons (pe_callB call_len_seq (by rfl) T.z_len (by decide +kernel) (pa_cons (pv 11) pa_nil)) pa_nil)) (blkOk_by (N := N_law_drawn) (sc := defScope s_law_drawn) (by decide +kernel)) (fun _ _ _ _ _ => (pg_name (i := 14) sc_law_drawn.nd rfl (Or.inl rfl))) (fun _ _ _ _ _ => pts_nil) (fun _ _ _ _ _ => (pe_cal C_law_long hr rfl (pa_cons (pe_tup (pa_cons pe_str (pa_cons (pe_ix (r := rIxL K) ix_list (pv 11) (pv 14) (fun _ _ => rfl)) pa_nil))) (pa_cons (pe_ix (r := rIxT K) ix_tup (pe_ix (r := rIxT K) ix_tup (pv 10) pe_int (fun _ _ => rfl)) (pv 14) (fun _ _ => rfl)) pa_nil))))) pa_nil)) pa_nil)))))))) pss_nil)
      (pss_cons (ps_set (i := 8) sc_law_drawn.nd rfl (Or.inl rfl) (pe_callTy call_tuple_of (by rfl) T.z_tuple (by decide +kernel) (pa_cons (pe_lc (own := [("one", 13)]) (g := gName 13) rfl sc_law_drawn.nd (pi_tup (pe_ix ix_tup (pv 10) pe_int (fun _ _ => rfl))) (blkOk_by (N := N_law_drawn) (sc := defScope s_law_drawn) (by decide +kernel)) (fun _ _ _ _ _ => (pg_name (i := 13) sc_law_drawn.nd rfl (Or.inl rfl))) (fun _ _ _ _ _ => pts_nil) (fun _ _ _ _ _ => (pe_cal C_law_drawn hr rfl (pa_cons (pv 0) (pa_cons (pv 1) (pa_cons (pv 2) (pa_cons (pv 6) (pa_cons (pv 13) (pa_cons (pe_op op_sub (pv 5) pe_int) pa_nil))))))))) pa_nil)))
      (pss_one (ps_ret (pe_tup (pa_cons (pe_callB call_len_seq (by rfl) T.z_len (by decide +kernel) (pa_cons (pe_ix ix_tup (pv 4) pe_int (fun _ _ => rfl)) pa_nil)) (pa_cons (pv 9) (pa_cons (pv 8) pa_nil))))))))))))), ?_⟩
  walk_at "rd"
  refine r_ixL hc rfl ?_
  walk_at "rd"
  refine r_set hc rfl ?_
  rw [show ([V.ref a, .int i, .int dg, .int cnt, .int z].set (Int.toNat 4) (.int (z - 1))) = [.ref a, .int i, .int dg, .int cnt, .int (z - 1)] from rfl]
  have k1 : Kp [c] H (upd H c (.lst [.ref a, .int i, .int dg, .int cnt, .int (z - 1)])) := (Kp.refl _ _).at (by simp)
  have cs1 : CS a (upd H c (.lst [.ref a, .int i, .int dg, .int cnt, .int (z - 1)])) c := ⟨ns, i, dg, cnt, z - 1, upd_same, by rw [upd_ne hne]; exact ha, h0, hne⟩
  have hc1 : (upd H c (.lst [.ref a, .int i, .int dg, .int cnt, .int (z - 1)])) c = some (.lst [.ref a, .int i, .int dg, .int cnt, .int (z - 1)]) := upd_same
  have t1 : KeepT H (upd H c (.lst [.ref a, .int i, .int dg, .int cnt, .int (z - 1)])) := cs.t k1
  have hsg1 := hsg.mono1 k1 hc
  generalize (upd H c (.lst [.ref a, .int i, .int dg, .int cnt, .int (z - 1)])) = H1 at k1 cs1 hc1 t1 hsg1
  walk_at "rd"
  refine r_ixT (t1 _ _ hak) rfl ?_
  walk_at "rd"
  refine r_catT (t1 _ _ hao) (t1 _ _ ha3) (hso.mono t1) (hs3.mono t1) (by omega) fun vb H2 k2 t2 hb => ?_
  rw [← tyds_app] at hb
  walk_at "rd"
  refine r_ixT (k2.get (t1 _ _ hak)) rfl ?_
  walk_at "rd"
  refine ⟨sv, hv, vb, sg, hs, own ++ as, srt, rfl, hsg1.mono0 k2, good, hh.mono (t1.trans t2), hb, by rw [List.length_append]; omega, lhs, fun L ys rs H3 k3 nL eL hys lrs hrs there => ?_⟩
  walk_at "rd"
  have k13 := k2.trans k3
  have k03 : Kp [c] H H3 := k1.trans k13.of0
  have t03 : KeepT H H3 := t1.trans k13.t0
  have hc3 := k13.get hc1
  have neL : L ≠ c := fun q => by
    rw [q, k2.get hc1] at nL
    cases nL
  have cs3 := cs1.keep k13
  obtain ⟨r0, hr0, as0⟩ := there gk.2.2
  refine r_cut (fun σ H' => ∃ (L' : Addr) (ys' : List V) (rs' : List Hr) (v11 : Option V), σ = [some (.ref c), some sv, some hv, some (.ref ao), some (.ref ak), some (.int depth), some vb, some (.ref L'), none, none, none, none, v11, none, none] ∧ Kp [] H3 H' ∧ L' ≠ c ∧ H' L' = some (.lst ys') ∧ Dts H' (rs'.map hrD) ys' ∧
    rs'.length ≤ 5000 ∧ rs' ≠ [] ∧ (∀ r ∈ rs', HrOk sg hs (own ++ as) srt r) ∧ (depth = 0 → ∀ r ∈ rs', r.2.as = [] ∨ ∃ m, r.1 = .tup [.str "h", m])) ?_ ?_
  · walk_at "rd"
    refine if_or2 (c := decide (z - 1 < 1)) (fun c1 y => ?_) ?_ (fun c1 c2 => ?_)
    · walk_at "rd"
      refine r_ixL hc3 rfl ?_
      walk_at "rd"
      exact y
    · walk_at "rd"
      refine ⟨L, rfl, ⟨_, SqL.of eL⟩, fun L6 nL6 => lc_it (walk_list (K := K) (a := L) (xs := ys)) (fun i H' => ∃ (us : List V) (gs : List Hr), H' L6 = some (.lst us) ∧ Dts H' (gs.map hrD) us ∧ gs.length ≤ i ∧ Kp [] H3 H' ∧ (∀ r ∈ gs, HrOk sg hs (own ++ as) srt r ∧ (r.2.as = [] ∨ ∃ m, r.1 = .tup [.str "h", m])) ∧ ∀ r ∈ rs.take i, r.2.as = [] → r ∈ gs)
        ⟨[], [], upd_same, (show Dts _ (([] : List Hr).map hrD) [] from rfl), Nat.le_refl 0, (Kp.refl _ _).up nL6, (fun d hd => nomatch hd), fun r hr => nomatch hr⟩ (fun i H' _ ⟨_, _, _, _, _, k, _⟩ => SqL.of (k.get eL)) ?_ ?_⟩
      · rintro i y H0 H6 hi6 ⟨us, gs, eL6, hus, lgs, k6, all, inn⟩ ⟨rfl, hy⟩
        obtain ⟨dr, hdr, hdy⟩ := (hys.mono k6.t0).at hy
        rw [List.getElem?_map] at hdr
        obtain ⟨r, hr', rfl⟩ := Option.map_eq_some_iff.mp hdr
        have mr := List.mem_of_getElem? hr'
        have tr : TyG r.2 := hdB_all (fun r hr => (good.kinds r hr).wd) wh wown (hrs r mr).hd
        have hdy0 := hdy
        obtain ⟨a1, x1, rfl, ha1, w1, r1, rfl, hw1, w2, r2, rfl, hw2, rfl⟩ := hdy
        obtain ⟨hx, hm, epr⟩ := (hrs r mr).pr
        replace hw1 : Dt H6 r.1 w1 := hw1
        rw [epr] at hw1
        obtain ⟨ah, xh, rfl, hah, vh, r7, rfl, hvh, vm, r8, rfl, hvm, rfl⟩ := hw1
        cases hvh.str
        rw [Ty.d_eq] at hw2
        obtain ⟨a2, x2, rfl, ha2, w3, r3, rfl, hw3, w4, r4, rfl, hw4, rfl⟩ := hw2
        walk_at "rd"
        refine ⟨rfl, ?_⟩
        walk_at "rd"
        refine r_ixT ha1 rfl ?_
        walk_at "rd"
        refine r_ixT ha2 rfl ?_
        walk_at "rd"
        refine r_tupN Dts.nil (by decide) fun p1 G1 g1 u1 m1 e1 d1 => ?_
        have tsr : Wd Tx 3 (.tup (tyds r.2.as)) := by
          have y := tr.ok
          unfold Ty.Ok at y
          rw [Ty.d_eq] at y
          exact y.2.1
        refine ⟨.tup (tyds r.2.as), .tup [], 3, hw3.mono u1, d1, tsr, ⟨by show 0 ≤ 3; decide, trivial⟩, Nat.le_trans (Nat.min_le_right _ _) (by decide), ?_⟩
        have lv := hys.len
        rw [List.length_map] at lv
        walk_at "rd"
        refine if_2 (fun c => ?_) (fun c => ?_)
        · have es := eq_nil_of c
          have eL7 := g1.get eL6
          walk_at "rd"
          refine ⟨us, eL7, ?_, us ++ [.ref a1], gs ++ [r], upd_same, ?_, ?_, (k6.trans g1).own nL6, ?_, ?_⟩
          · have := hus.len
            rw [List.length_map] at this
            exact Nat.lt_of_le_of_lt (show _ ≤ 5000 by omega) (by decide)
          · rw [List.map_append]
            exact Dts.mono (fun p xs z => by rw [upd_ne (ne_of z eL7 (fun q => by cases q))]; exact z) ((hus.mono u1).snoc (hdy0.mono u1))
          · rw [List.length_append]
            exact Nat.succ_le_succ lgs
          · intro r' hr''
            rcases List.mem_append.mp hr'' with hr'' | hr''
            · exact all r' hr''
            · rw [List.mem_singleton.mp hr'']
              exact ⟨hrs r mr, .inl es⟩
          · intro r' hr'' es'
            rw [take_one hr'] at hr''
            rcases List.mem_append.mp hr'' with hr'' | hr''
            · exact List.mem_append_left _ (inn r' hr'' es')
            · rw [List.mem_singleton.mp hr'']
              exact List.mem_append_right _ List.mem_cons_self
        · have es : r.2.as ≠ [] := fun y => by
            rw [y, eq_nil_to] at c
            cases c
          walk_at "rd"
          refine r_ixT (g1.get ha1) rfl ?_
          walk_at "rd"
          refine r_ixT (g1.get hah) rfl ?_
          walk_at "rd"
          refine if_2 (fun c2 => ?_) (fun c2 => ?_)
          · have eL7 := g1.get eL6
            walk_at "rd"
            refine ⟨us, eL7, ?_, us ++ [.ref a1], gs ++ [r], upd_same, ?_, ?_, (k6.trans g1).own nL6, ?_, ?_⟩
            · have := hus.len
              rw [List.length_map] at this
              exact Nat.lt_of_le_of_lt (show _ ≤ 5000 by omega) (by decide)
            · rw [List.map_append]
              exact Dts.mono (fun p xs z => by rw [upd_ne (ne_of z eL7 (fun q => by cases q))]; exact z) ((hus.mono u1).snoc (hdy0.mono u1))
            · rw [List.length_append]
              exact Nat.succ_le_succ lgs
            · intro r' hr''
              rcases List.mem_append.mp hr'' with hr'' | hr''
              · exact all r' hr''
              · rw [List.mem_singleton.mp hr'']
                exact ⟨hrs r mr, .inr ⟨hm, by rw [epr, V.str.inj (of_decide_eq_true c2)]⟩⟩
            · intro r' hr'' es'
              rw [take_one hr'] at hr''
              rcases List.mem_append.mp hr'' with hr'' | hr''
              · exact List.mem_append_left _ (inn r' hr'' es')
              · rw [List.mem_singleton.mp hr'']
                exact List.mem_append_right _ List.mem_cons_self
          · refine ⟨us, gs, g1.get eL6, hus.mono u1, Nat.le_succ_of_le lgs, k6.trans g1, all, fun r' hr'' es' => ?_⟩
            rw [take_one hr'] at hr''
            rcases List.mem_append.mp hr'' with hr'' | hr''
            · exact inn r' hr'' es'
            · rw [List.mem_singleton.mp hr''] at es'
              exact absurd es' es
      · rintro H6 ⟨us, gs, eL6, hus, lgs, k6, all, inn⟩
        have lv := hys.len
        rw [List.length_map] at lv
        rw [lv] at lgs inn
        rw [List.take_length] at inn
        have neL6 : L6 ≠ c := fun q => by
          rw [q, hc3] at nL6
          cases nL6
        walk_at "rd"
        refine ⟨L6, us, gs, _, rfl, k6, neL6, eL6, hus, by omega, fun y => ?_, fun r hr => (all r hr).1, fun _ r hr => (all r hr).2⟩
        have := inn r0 hr0 as0
        rw [y] at this
        cases this
    · walk_at "rd"
      refine ⟨L, ys, rs, _, rfl, Kp.refl _ _, neL, eL, hys, lrs, fun y => ?_, hrs, fun y => ?_⟩
      · rw [y] at hr0
        cases hr0
      · have y2 := of_decide_eq_false c1
        omega
  rintro _ H4 ⟨L', ys', rs', v11, rfl, k4, neL', eL', hys', lrs', nrs', hrs', zero⟩
  have lv := hys'.len
  rw [List.length_map] at lv
  have pos : 0 < rs'.length := List.length_pos_iff.mpr nrs'
  have cs4 := cs3.keep k4
  walk_at "rd"
  refine ⟨L', ys', rfl, .inl (SqL.of eL'), ?_⟩
  walk_at "rd"
  refine ⟨c, a, ys'.length, rfl, cs4, by omega, by omega, fun j H5 lo5 hi5 k5 cs5 => ?_⟩
  have k05 : Kp [c] H H5 := (k03.trans k4.of0).trans k5
  have t05 : KeepT H H5 := cs.t k05
  have t35 : KeepT H3 H5 := k4.t0.trans (cs4.t k5)
  walk_at "rd"
  obtain ⟨vr, hvr, _, hj⟩ := at_mem (xs := ys') lo5 hi5
  refine r_ixL (k5 L' _ (by simpa using neL') eL') hvr ?_
  walk_at "rd"
  obtain ⟨dr, hdr, hdy⟩ := (hys'.mono (cs4.t k5)).at hj
  rw [List.getElem?_map] at hdr
  obtain ⟨⟨hd, ty⟩, hr', rfl⟩ := Option.map_eq_some_iff.mp hdr
  have mr := List.mem_of_getElem? hr'
  have okr := hrs' _ mr
  have tr : TyG ty := hdB_all (fun r hr => (good.kinds r hr).wd) wh wown okr.hd
  obtain ⟨a1, x1, rfl, ha1, w1, r1, rfl, hw1, w2, r2, rfl, hw2, rfl⟩ := hdy
  replace hw2 : Dt H5 ty.d w2 := hw2
  rw [Ty.d_eq] at hw2
  obtain ⟨a2, x2, rfl, ha2, w3, r3, rfl, hw3, w4, r4, rfl, hw4, rfl⟩ := hw2
  obtain ⟨a9, x9, rfl, ha9, hs9⟩ := hw3
  have l9 : x9.length = ty.as.length := by rw [hs9.len, tyds_len]
  refine r_gtup ha1 rfl ?_
  walk_at "rd"
  have gt := TyG.as tr
  obtain ⟨hx, hm, epr⟩ := okr.pr
  replace epr : hd = .tup [.str hx, hm] := epr
  have hw1' : Dt H5 (.tup [.str hx, hm]) w1 := by
    rw [← epr]
    exact hw1
  obtain ⟨ah, xh, rfl, hah, vh, r7, rfl, hvh, vm, r8, rfl, hvm, rfl⟩ := hw1'
  cases hvh.str
  have gHd := hdG_of (hdB_G okr.hd)
  refine r_ixT hah rfl ?_
  walk_at "rd"
  refine if_2 (fun ch => ?_) (fun ch => ?_)
  · have exh := V.str.inj (of_decide_eq_true ch)
    subst exh
    obtain ⟨kk, ehd, hkk⟩ : ∃ kk : Nat, hd = hd2 "h" kk ∧ hs[kk]? = some ty := by
      rcases gHd with ⟨s, i, e, _⟩ | ⟨x, e⟩
      · replace e : hd = hd2 s i := e
        rw [epr] at e
        injection e with e
        injection e with e1 e2
        injection e1 with e1
        injection e2 with e2
        have z : hdB sg hs (own ++ as) (hd2 "h" i) = some ty := by
          have := okr.hd
          rw [show hd = hd2 "h" i by rw [epr, e2]] at this
          exact this
        obtain ⟨kk, rfl, hk2⟩ := hdB_h_inv z
        exact ⟨kk, by rw [epr, e2], hk2⟩
      · replace e : hd = _ := e
        rw [epr] at e
        injection e with e
        injection e with e1 e2
        injection e1 with e1
        exact absurd e1 (by decide)
    have wty := whs ty (List.mem_of_getElem? hkk)
    have wtas : ∀ t ∈ ty.as, TyG t ∧ t.d.dp ≤ 8 ∧ t.d.sz ≤ 256 := fun t ht => by
      have m1 := ty_dp_mem ht
      have m2 := ty_sz_mem ht
      exact ⟨gt.1 t ht, by omega, by omega⟩
    walk_at "rd"
    refine r_ixT ha2 rfl ?_
    walk_at "rd"
    refine ⟨c, a, vb, .ref a9, own ++ as, ty.as, rfl, cs5, hb.mono (k3.t0.trans t35), Dt.tupI ha9 hs9, by rw [List.length_append]; omega, wown, fun t ht => ⟨(wtas t ht).1, by have := (wtas t ht).2.1; omega⟩, by have := gt.2.1; omega, fun H6 k6 cs6 => ?_, fun L8 ns H6 k6 cs6 nL8 eL8 chn => ?_⟩
    · walk_at "rd"
      refine ⟨rfl, ?_⟩
      walk_at "rd"
      have k06 := k05.trans k6
      refine ⟨sv, .ref ak, sg, .mk as srt, rfl, hsg.mono1 k06 hc, good, hkd0.mono (cs.t k06), wk, fun v H7 x k7 mx dv => ?_⟩
      walk_at "rd"
      refine q v _ H7 (k06.trans k7.of0) (cs6.keep k7) dv ?_ ?_ ?_
      · refine tmB_mk (k := .mk as srt) (t := .mk [] srt) (hdB_c good.ok.nd mx) rfl rfl ?_
        rw [tmsB]
        rfl
      · rw [Pt]
        exact .inr ⟨.inr ⟨x, rfl⟩, by rw [Pts]; trivial⟩
      · exact dr_ok ⟨by show 2 ≤ 3; decide, (by decide +kernel : Tx "c"), (good.ok.ok _ mx).1, trivial⟩ rfl rfl (by decide) (fun _ => rfl) (fun d hd => nomatch hd)
    · have k06 := k05.trans k6
      have t06 : KeepT H H6 := cs.t k06
      have t56 := cs5.t k6
      have lns : (natsV ns).length = ns.length := by
        unfold natsV
        rw [List.length_map]
      have lnt := chn.len
      walk_at "rd"
      refine ⟨rfl, ?_⟩
      walk_at "rd"
      refine r_ixT (t06 _ _ hak) rfl ?_
      walk_at "rd"
      refine ⟨a3, x3, rfl, .inr (SqT.of (t06 _ _ ha3)), ?_⟩
      walk_at "rd"
      rw [l3]
      refine ⟨L8, _, rfl, .inl (SqL.of eL8), ?_⟩
      rw [lns]
      refine ⟨_, rfl, by have := gt.2.1; omega, by have := gt.2.1; omega, fun L7 nL7 => lc_it walk_range (fun j H' => ∃ us, H' L7 = some (.lst us) ∧ Dts H' ((lgPs (intsOf ns) ty.as).take j) us ∧ Kp [] H6 H')
        ⟨[], upd_same, rfl, (Kp.refl _ _).up nL7⟩ (fun _ _ _ _ => trivial) ?_ ?_⟩
      · rintro j y H0 H7 hj ⟨us, eL7, hus, k7⟩ ⟨rfl, rfl⟩
        have hj' : j < ns.length := by simpa using hj
        have hjt : j < ty.as.length := by omega
        walk_at "rd"
        refine ⟨rfl, ?_⟩
        walk_at "rd"
        have hat : (natsV ns)[j]? = some (V.int (ns[j] : Nat)) := by
          unfold natsV
          rw [List.getElem?_map, List.getElem?_eq_getElem hj']
          rfl
        refine r_ixL (k7.get eL8) (by simpa using atI_nat hat) ?_
        walk_at "rd"
        refine r_tupN (ds := [.str "b", .int (ns[j] : Nat)]) (by walk_at "dt") (by simp) fun p1 H8 k8 t8 n8 e8 d8 => ?_
        walk_at "rd"
        have k78 := k7.trans k8
        refine r_ixT (k78.get (t56 _ _ ha2)) rfl ?_
        walk_at "rd"
        obtain ⟨w9, hw9, hdw9⟩ := (hs9.mono (t56.trans k78.t0)).of (tyds_at (List.getElem?_eq_getElem hjt))
        refine r_ixT (k78.get (t56 _ _ ha9)) (by simpa using atI_nat hw9) ?_
        walk_at "rd"
        have wt := wtas _ (List.getElem_mem hjt)
        refine ⟨.ref p1, w9, "b", (ns[j] : Nat), ty.as[j], rfl, d8, hdw9, wt.1.ok.wide (by decide), by omega, fun v H9 k9 hv9 => ?_⟩
        have eL9 := (k8.trans k9).get eL7
        have eat : (lgPs (intsOf ns) ty.as)[j]? = some (longD "b" (ns[j] : Nat) ty.as[j]) := lgPs_at (by unfold intsOf; rw [List.getElem?_map, List.getElem?_eq_getElem hj']; rfl) (List.getElem?_eq_getElem hjt)
        refine ⟨us, eL9, ?_, us ++ [v], upd_same, ?_, (k78.trans k9).own nL7⟩
        · have := hus.len
          rw [List.length_take] at this
          exact Nat.lt_of_le_of_lt (show _ ≤ 1000 by have := gt.2.1; omega) (by decide)
        · rw [take_one eat]
          exact Dts.mono (fun p xs z => by rw [upd_ne (ne_of z eL9 (fun q => by cases q))]; exact z) ((hus.mono (k8.trans k9).t0).snoc hv9)
      · rintro H7 ⟨us, eL7, hus, k7⟩
        have lis : (intsOf ns).length = ty.as.length := by
          unfold intsOf
          rw [List.length_map]
          exact lnt
        rw [List.take_of_length_le (by rw [lgPs_len lis]; omega)] at hus
        walk_at "rd"
        refine ⟨L7, us, rfl, .inl ⟨SqL.of eL7, fun l nl => ?_⟩⟩
        obtain ⟨k8, t8, d8⟩ := new_tup nl hus
        walk_at "rd"
        refine r_tupN (ds := [.int (as.length : Nat), hd, .tup (lgPs (intsOf ns) ty.as)]) (Dts.cons dt_int (Dts.cons (hw1.mono ((t56.trans k7.t0).trans t8)) (Dts.cons d8 Dts.nil))) (by simp) fun p2 H9 k9 t9 n9 e9 d9 => ?_
        walk_at "rd"
        obtain ⟨bw, bdp, bsz⟩ := lgPs_bd (is := intsOf ns) wtas
        have ll := lgPs_len lis
        refine q _ _ H9 (k06.trans ((k7.trans k8).trans k9).of0) (cs6.keep ((k7.trans k8).trans k9)) d9 ?_ ?_ ?_
        · exact tmB_mk (k := .mk as srt) (t := ty) okr.hd okr.s ll.symm (chosen_tm lnt chn.at_)
        · rw [Pt]
          exact .inl ⟨kk, ty, ns, ehd, hkk, lnt, chn.nd, rfl⟩
        · have e1 : (D.tup [.int (as.length : Nat), hd, .tup (lgPs (intsOf ns) ty.as)]).dp = 1 + max 1 (max hd.dp (max (1 + dps (lgPs (intsOf ns) ty.as)) 0)) := rfl
          have e2 : (D.tup [.int (as.length : Nat), hd, .tup (lgPs (intsOf ns) ty.as)]).sz = 1 + (1 + (hd.sz + ((1 + szs (lgPs (intsOf ns) ty.as)) + 0))) := rfl
          have hd2' : hd.dp = 2 := okr.dp
          have hd3' : hd.sz = 3 := okr.sz
          have p4 : 1 ≤ 3 ^ depth := Nat.pow_pos (by decide)
          have b3 : szs (lgPs (intsOf ns) ty.as) ≤ 3 * (2 * 256) := Nat.le_trans bsz (Nat.mul_le_mul_right _ gt.2.1)
          refine ⟨⟨by show 3 ≤ 3; decide, trivial, okr.tx, ⟨by rw [ll]; exact gt.2.1, bw⟩, trivial⟩, ?_, ?_⟩
          · rw [e1]
            omega
          · rw [e2]
            omega
  have noth : NotH hd := by
    rcases gHd with ⟨s, i, e, hs' | hs'⟩ | ⟨x, e⟩
    · exact .inl ⟨i, by rw [show hd = hd2 s i from e, hs']⟩
    · exfalso
      replace e : hd = hd2 s i := e
      rw [epr, hs'] at e
      injection e with e
      injection e with e1 e2
      injection e1 with e1
      rw [e1] at ch
      simp at ch
    · exact .inr ⟨x, e⟩
  walk_at "rd"
  refine r_ixT ha2 rfl ?_
  walk_at "rd"
  refine ⟨a9, rfl, ⟨_, SqT.of ha9⟩, fun L7 nL7 => lc_it (walk_tup (K := K) (a := a9) (xs := x9)) (fun i H' => ∃ us ds, H' L7 = some (.lst us) ∧ Dts H' ds us ∧ ds.length = i ∧ Kp [c] H5 H' ∧ CS a H' c ∧ frsB sg hs (kids (own ++ as) (ty.as.take i) ds) = true ∧ (∀ d ∈ ds, DrOk (depth - 1) d) ∧ ∀ d ∈ ds, Pt hs d)
    ⟨[], [], upd_same, rfl, rfl, (Kp.refl _ _).up nL7, cs5.own (cs5.ne nL7), rfl, (fun d hd => nomatch hd), fun d hd => nomatch hd⟩ (fun i H' _ ⟨_, _, _, _, _, k, _⟩ => SqT.of (cs5.t k _ _ ha9)) ?_ ?_⟩
  · rintro i y H0 H6 hi6 ⟨us, ds, eL7, hds, lds, k6, cs6, fr, all, allp⟩ ⟨rfl, hy⟩
    obtain ⟨dt, hdt, hdy⟩ := (hs9.mono (cs5.t k6)).at hy
    have hi : i < ty.as.length := by omega
    have edt : dt = (ty.as[i]).d := by
      rw [tyds_at (List.getElem?_eq_getElem hi)] at hdt
      exact (Option.some.inj hdt).symm
    subst edt
    have dpos : depth ≠ 0 := fun y => by
      rcases zero y _ mr with this | ⟨m, this⟩
      · have l0 : ty.as.length = 0 := by
          show ty.as.length = 0
          rw [show ty.as = [] from this]
          rfl
        omega
      · replace this : hd = _ := this
        rw [epr] at this
        injection this with this
        injection this with e1 e2
        injection e1 with e1
        rw [e1] at ch
        simp at ch
    have k06 : Kp [c] H H6 := k05.trans k6
    have t06 : KeepT H H6 := cs.t k06
    have neL7 : L7 ≠ c := (cs5.ne nL7).1
    walk_at "rd"
    refine ⟨rfl, ?_⟩
    walk_at "rd"
    have ed : ((depth : Int) - 1) = ((depth - 1 : Nat) : Int) := by omega
    refine ⟨c, a, sv, hv, vb, y, depth - 1, sg, hs, own ++ as, ty.as[i], (by rw [ed]; rfl), cs6, hsg.mono1 k06 hc, good, hh.mono t06, whs, hb.mono ((k3.t0.trans t35).trans (cs5.t k6)), wown, hdy, gt.1 _ (List.getElem_mem hi), ?_, lhs, by omega, fun v d H7 k7 cs7 hdv tm ptd okd => ?_⟩
    · rw [List.length_append]
      omega
    · have eL8 := k7 L7 _ (by simpa using neL7) eL7
      refine ⟨us, eL8, ?_, us ++ [v], ds ++ [d], upd_same, ?_, ?_, (k6.trans k7).own nL7, cs7.own (cs5.ne nL7), ?_, ?_, ?_⟩
      · have := hds.len
        exact Nat.lt_of_le_of_lt (show _ ≤ 1000 by omega) (by decide)
      · exact Dts.mono (fun p xs z => by rw [upd_ne (ne_of z eL8 (fun q => by cases q))]; exact z) ((hds.mono (cs6.t k7)).snoc hdv)
      · rw [List.length_append, lds]
        rfl
      · rw [take_one (List.getElem?_eq_getElem hi), kids_snoc (by rw [List.length_take, lds]; omega), frsB_app, fr]
        show (true && (frB sg hs (own ++ as, ty.as[i], d) && true)) = true
        rw [Bool.and_true, Bool.true_and]
        exact tm
      · intro d' hd'
        rcases List.mem_append.mp hd' with hd' | hd'
        · exact all d' hd'
        · rw [List.mem_singleton.mp hd']
          exact okd
      · intro d' hd'
        rcases List.mem_append.mp hd' with hd' | hd'
        · exact allp d' hd'
        · rw [List.mem_singleton.mp hd']
          exact ptd
  · rintro H6 ⟨us, ds, eL7, hds, lds, k6, cs6, fr, all, allp⟩
    have k06 : Kp [c] H H6 := k05.trans k6
    have t06 : KeepT H H6 := cs.t k06
    walk_at "rd"
    refine ⟨L7, us, rfl, .inl ⟨SqL.of eL7, fun l nl => ?_⟩⟩
    obtain ⟨k7, t7, d7⟩ := new_tup nl hds
    walk_at "rd"
    refine r_ixT (k7.get (t06 _ _ hak)) rfl ?_
    walk_at "rd"
    refine ⟨a3, x3, rfl, .inr (SqT.of (k7.get (t06 _ _ ha3))), ?_⟩
    walk_at "rd"
    rw [l3]
    refine r_tupN (ds := [.int (as.length : Nat), hd, .tup ds]) (Dts.cons dt_int (Dts.cons (hw1.mono ((cs5.t k6).trans t7)) (Dts.cons d7 Dts.nil))) (by simp) fun p2 H8 k8 t8 n8 e8 d8 => ?_
    walk_at "rd"
    refine q _ _ H8 (k06.trans (k7.trans k8).of0) (cs6.keep (k7.trans k8)) d8 ?_ ?_ ?_
    · have e := tmB_eq (sg := sg) (hs := hs) (own := own) (k := .mk as srt) (x := hd) (ps := ds)
      have e2 : tmB sg hs own (.mk as srt) (.tup [.int (as.length : Nat), hd, .tup ds]) = match hdB sg hs (own ++ as) hd with
        | none => false
        | some t => decide (t.s = srt) && decide (t.as.length = ds.length) && tmsB sg hs (own ++ as) t.as ds := e
      have ehd : hdB sg hs (own ++ as) hd = some ty := okr.hd
      have els : ty.s = srt := okr.s
      have ell : ty.as.length = ds.length := by omega
      rw [e2, ehd]
      rw [List.take_of_length_le (by omega), kids_B ell] at fr
      simp [els, ell, fr]
    · rw [Pt]
      exact .inr ⟨noth, Pts.mem.mpr allp⟩
    · refine dr_ok okr.tx okr.dp okr.sz (by have := gt.2.1; omega) (fun y => ?_) all
      rcases zero y _ mr with z1 | ⟨m, this⟩
      · have l0 : ty.as.length = 0 := by
          rw [show ty.as = [] from z1]
          rfl
        exact List.eq_nil_of_length_eq_zero (by omega)
      · exfalso
        replace this : hd = _ := this
        rw [epr] at this
        injection this with this
        injection this with e1 e2
        injection e1 with e1
        rw [e1] at ch
        simp at ch
end
end K02
end

section
/-! The law. -/
namespace K02
open PySem L2 PyProof.Rows PySem.Spec Lc
variable [Lc.Tbs]
local macro_rules | `(tactic| walk_at "rd") => `(tactic| repeat (first
  | with_reducible refine r_seq ?_ | with_reducible refine r_mknx ?_ | with_reducible refine r_mkrt ?_ | with_reducible refine r_asg ?_ | with_reducible refine r_name ?_ | with_reducible refine r_next ?_
  | with_reducible refine r_drop ?_ | with_reducible refine r_ret ?_ | with_reducible refine r_if ?_
  | ((with_reducible refine' r_var ?e ?_); (case e => rfl)) | with_reducible refine r_c ?_ | with_reducible refine r_op ?_ | with_reducible refine r_un ?_ | with_reducible refine r_test ?_ | with_reducible refine r_tb ?_
  | with_reducible refine r_and ?_ | with_reducible refine r_or ?_ | with_reducible refine r_not ?_ | with_reducible refine r_andV ?_ | with_reducible refine r_orV ?_ | with_reducible refine r_notV ?_ | with_reducible refine r_bl ?_
  | with_reducible refine r_cb ?_ | with_reducible refine r_cons ?_ | with_reducible refine r_nil ?_ | with_reducible refine r_tup ?_ | with_reducible refine r_lst ?_ | with_reducible refine r_call ?_
  | with_reducible refine r_i0 ?_ | with_reducible refine r_par ?_ | with_reducible refine r_two ?_ | with_reducible refine r_lc ?_ | with_reducible refine r_iL ?_ | with_reducible refine r_iT ?_ | with_reducible refine r_iS ?_ | with_reducible refine r_i1 ?_ | with_reducible refine r_yes ?_ | with_reducible refine r_chain ?_ | with_reducible refine if_t rfl ?_ | with_reducible refine if_f rfl ?_ | with_reducible refine r_nt ?_ | ((with_reducible refine r_eq ?e ?_); (case e => rfl)) | ((with_reducible refine r_ne ?e ?_); (case e => rfl))
  | with_reducible refine r_sub ?_ | with_reducible refine r_sl ?_ | with_reducible refine r_nopart ?_ | with_reducible refine r_part ?_ | with_reducible refine r_int ?_ | with_reducible refine r_bm ?_ | with_reducible refine r_bm0 ?_ | with_reducible refine r_gcons ?_ | with_reducible refine r_gnil ?_ | with_reducible refine r_dget1 ?_ | with_reducible refine r_dget2 ?_ | with_reducible refine r_dgetR ?_ | with_reducible refine r_dset ?_ | with_reducible refine r_dc ?_ | with_reducible refine r_keys ?_ | with_reducible refine r_ckw ?_ | with_reducible refine r_dput ?_ | with_reducible refine r_dnotin ?_))


local macro_rules | `(tactic| walk_at "dt") => `(tactic| repeat' (first | (show Dt _ _ _; assumption) | exact dt_str | exact dt_int | exact dt_bl | exact dt_non | exact Dts.nil | refine' Dts.cons ?_ ?_ | (refine' Dt.mono ?kk ?_; (case kk => assumption)) | fail))
local macro_rules | `(tactic| walk_at "at") => `(tactic| repeat (first | assumption | (refine' Kp.ge ?kk ?nn ?_; (case kk => assumption); (case nn => intro _ z; cases z)) | fail))
local macro_rules | `(tactic| walk_at "kp") => `(tactic| repeat (first | assumption | exact Kp.refl _ _ | (refine' Kp.trans ?_ ?kk; (case kk => assumption)) | fail))
local macro_rules | `(tactic| walk_at "tup") => `(tactic| (refine' r_tupN ?h ?f ?k; (case h => walk_at "dt"); (case f => simp); skip))
def spLaw (K : PySem.W.Frag) : Sp := fun vs H Q _ => ∃ (a : Addr) (ns : List Int), vs = [.ref a] ∧ SqL K H a (ns.map V.int) ∧ ns.length ≤ 63 ∧ NdefX.TabsN Tbs.T H ∧ ∀ H', Q (.bl true) H'
theorem tysOk_of {ts : List Lc.Ty} (h : ∀ t ∈ ts, TyG t) : TysOk 3 ts := Wds.mem.mpr fun d hd => by
  rw [tyds_map] at hd
  obtain ⟨t, ht, rfl⟩ := List.mem_map.mp hd
  exact (h t ht).ok
theorem CS.lst2 {a : Addr} {H : Hp} {c : Addr} (h : CS a H c) : ∃ xs, H c = some (.lst xs) := by
  obtain ⟨ns, i, d, k, z, h1, _⟩ := h
  exact ⟨_, h1⟩
/-- what stays through the rounds -/
structure Bs (a c : Addr) (sg : Sg) (vsg : V) (pre : List Lc.Ty) (vp : V) (hs : List Lc.Ty) (vh : V) (tk : Lc.Ty) (vk : V) (ML : Addr) (ms : List V) (H : Hp) : Prop where
  cs : CS a H c
  sgv : SgV H sg vsg
  p : Dt H (.tup (tyds pre)) vp
  h : Dt H (.tup (tyds hs)) vh
  k : Dt H tk.d vk
  m : H ML = some (.lst ms)
  ne : ML ≠ c
  it : ∀ x ∈ ms, Itm H 3 x
theorem Bs.step {a c : Addr} {sg : Sg} {vsg : V} {pre : List Lc.Ty} {vp : V} {hs : List Lc.Ty} {vh : V} {tk : Lc.Ty} {vk : V} {ML : Addr} {ms : List V} {H H' : Hp} (e : Bs a c sg vsg pre vp hs vh tk vk ML ms H) (k : Kp [c] H H') (cs' : CS a H' c) : Bs a c sg vsg pre vp hs vh tk vk ML ms H' := by
  obtain ⟨xs, hx⟩ := e.cs.lst2
  have t := e.cs.t k
  exact ⟨cs', e.sgv.mono1 k hx, e.p.mono t, e.h.mono t, e.k.mono t, k ML _ (by simpa using e.ne) e.m, e.ne, fun x hx => (e.it x hx).mono t⟩
theorem Bs.keep {a c : Addr} {sg : Sg} {vsg : V} {pre : List Lc.Ty} {vp : V} {hs : List Lc.Ty} {vh : V} {tk : Lc.Ty} {vk : V} {ML : Addr} {ms : List V} {H H' : Hp} (e : Bs a c sg vsg pre vp hs vh tk vk ML ms H) (k : Kp [] H H') : Bs a c sg vsg pre vp hs vh tk vk ML ms H' := e.step k.of0 (e.cs.keep k)
theorem Itm.wide {H : Hp} {W W' : Nat} {y : V} (l : W ≤ W') (h : Itm H W y) : Itm H W' y := by
  obtain ⟨e, h1, h2⟩ := h
  exact ⟨e, h1, h2.wide l⟩
abbrev s_law : Stmt := top 37
abbrev N_law : List Str := ["script", "c", "signature", "holes", "prefix", "kind", "depth", "term", "menu", "k", "one", "told"]
theorem sc_law : FnScope N_law ["script"] (defScope s_law) := ⟨rfl, rfl, rfl, by decide +kernel, rfl, by decide +kernel, by decide +kernel⟩
section
variable {P : Program} {w : World} {K : PySem.W.Frag} {mg : Str → Option Value} {base : Heap}
theorem ok_law {fa : Addr} {fd : FuncData} (F : Fun K "law" "law" s_law fa fd) (T : Txt mg) (C_law_start : Cal P w K mg base "_law_start" ["script"] 129 (spStart K)) (C_law_signature : Cal P w K mg base "_law_signature" ["c"] 129 spSigDraw)
    (C_law_kind : Cal P w K mg base "_law_kind" ["c", "high"] 129 (spKind 4)) (C_law_take : Cal P w K mg base "_law_take" ["c", "many"] 129 spTake) (C_law_prefix : Cal P w K mg base "_law_prefix" ["c"] 129 spPrefix) (C_law_drawn : Cal P w K mg base "_law_drawn" ["c", "signature", "holes", "prefix", "kind", "depth"] 129 (spDrawn 7))
    (C_law_term : Cal P w K mg base "_law_term" ["c", "signature", "holes", "prefix", "kind", "depth"] 129 (spTerm 7)) (C_size : Cal P w K mg base "size" ["term"] 129 spSize) (C_law_size : Cal P w K mg base "_law_size" ["term"] 129 (spLSize 60)) (C_is_term : Cal P w K mg base "is_term" ["signature", "holes", "prefix", "kind", "value"] 129 spIsTerm)
    (C_law_is_term : Cal P w K mg base "_law_is_term" ["signature", "holes", "prefix", "kind", "value"] 129 (spIsTermL 91)) (C_is_pattern : Cal P w K mg base "is_pattern" ["signature", "holes", "prefix", "kind", "term"] 129 (spIsPat 91)) (C_law_is_pattern : Cal P w K mg base "_law_is_pattern" ["signature", "holes", "prefix", "kind", "term"] 129 (spPatL 91))
    (C_law_spoilt : Cal P w K mg base "_law_spoilt" ["c", "value", "menu"] 129 spSpoilt) : FnOk P w K mg base CX0 130 fa fd ["script"] (spLaw K) := by
  refine F.ok sc_law (fun vs H Q E h => ?_) (fun cdv A outer s H vs Q E hr h => ?_)
  · obtain ⟨a, ns, rfl, _⟩ := h
    rfl
  obtain ⟨sa, ns, rfl, hS, hl, tb0, q⟩ := h
  refine ⟨_, (pss_cons (ps_set (i := 1) sc_law.nd rfl (Or.inr rfl) (pe_cal C_law_start hr rfl (pa_cons (pv 0) pa_nil)))
      (pss_cons (ps_set (i := 2) sc_law.nd rfl (Or.inl rfl) (pe_cal C_law_signature hr rfl (pa_cons (pv 1) pa_nil)))
      (pss_cons (ps_set (i := 3) sc_law.nd rfl (Or.inl rfl) (pe_callTy call_tuple_of (by rfl) T.z_tuple (by decide +kernel) (pa_cons (pe_lc (own := [("k", 9)]) (g := gName 9) rfl sc_law.nd (pi_range1 rfl T.z_range (pa_cons (pe_cal C_law_take hr rfl (pa_cons (pv 1) (pa_cons pe_int pa_nil))) pa_nil)) (blkOk_by (N := N_law) (sc := defScope s_law) (by decide +kernel)) (fun _ _ _ _ _ => (pg_name (i := 9) sc_law.nd rfl (Or.inl rfl))) (fun _ _ _ _ _ => pts_nil) (fun _ _ _ _ _ => (pe_cal C_law_kind hr rfl (pa_cons (pv 1) (pa_cons pe_int pa_nil))))) pa_nil)))
      (pss_cons (ps_set (i := 4) sc_law.nd rfl (Or.inl rfl) (pe_cal C_law_prefix hr rfl (pa_cons (pv 1) pa_nil)))
      (pss_cons (ps_set (i := 5) sc_law.nd rfl (Or.inl rfl) (pe_cal C_law_kind hr rfl (pa_cons (pv 1) (pa_cons pe_int pa_nil))))
      (pss_cons (ps_asg (pe_op op_add pe_int (pe_cal C_law_take hr rfl (pa_cons (pv 1) (pa_cons pe_int pa_nil)))) (pg_sub (pv 1) pe_int set_list))
      (pss_cons (ps_set (i := 6) sc_law.nd rfl (Or.inl rfl) (pe_cal C_law_take hr rfl (pa_cons (pv 1) (pa_cons pe_int pa_nil))))
      (pss_cons (ps_set (i := 7) sc_law.nd rfl (Or.inl rfl) (pe_cal C_law_drawn hr rfl (pa_cons (pv 1) (pa_cons (pv 2) (pa_cons (pv 3) (pa_cons (pv 4) (pa_cons (pv 5) (pa_cons (pv 6) pa_nil))))))))
      (Evl.pss_cut (ps_if (pt_cmpR op_eq (pe_cal C_law_take hr rfl (pa_cons (pv 1) (pa_cons pe_int pa_nil))) pe_int (nomark _)) (pss_one (ps_set (i := 7) sc_law.nd rfl (Or.inl rfl) (pe_cal C_law_term hr rfl (pa_cons (pv 1) (pa_cons (pv 2) (pa_cons (pv 3) (pa_cons (pv 4) (pa_cons (pv 5) (pa_cons (pv 6) pa_nil))))))))) pss_nil)
      (pss_cons (ps_if (PW.pt (pw_or (pt_cmpR op_ne (pe_cal C_size hr rfl (pa_cons (pv 7) pa_nil)) (pe_cal C_law_size hr rfl (pa_cons (pv 7) pa_nil)) (nomark _)) (pw_or1 (pt_not (pt_val (pe_cal C_law_is_term hr rfl (pa_cons (pv 2) (pa_cons (pv 3) (pa_cons (pv 4) (pa_cons (pv 5) (pa_cons (pv 7) pa_nil))))))))))) (pss_one (ps_ret pe_bl)) pss_nil)
      (pss_cons (ps_set (i := 8) sc_law.nd rfl (Or.inl rfl) (pe_lst (pa_cons (pe_tup (pa_cons pe_str (pa_cons pe_int pa_nil))) (pa_cons (pe_tup (pa_cons pe_str (pa_cons pe_int pa_nil))) (pa_cons (pe_tup (pa_cons pe_str (pa_cons pe_int pa_nil))) (pa_cons (pe_tup (pa_cons pe_str (pa_cons pe_str pa_nil))) (pa_cons (pe_tup (pa_cons pe_str (pa_cons pe_str pa_nil))) (pa_cons (pe_tup (pa_cons pe_str (pa_cons pe_int pa_nil))) (pa_cons (pe_tup (pa_cons pe_str (pa_cons pe_int pa_nil))) (pa_cons (pe_tup (pa_cons pe_str (pa_cons pe_str pa_nil))) (pa_cons (pe_tup (pa_cons pe_int (pa_cons (pe_tup (pa_cons pe_str (pa_cons pe_str pa_nil))) (pa_cons (pe_tup pa_nil) pa_nil)))) (pa_cons (pe_tup (pa_cons pe_int (pa_cons (pe_tup (pa_cons pe_str (pa_cons pe_int pa_nil))) (pa_cons (pe_tup pa_nil) pa_nil)))) pa_nil))))))))))))
      (pss_cons (ps_for PassesOwn.never rfl (pi_range1 rfl T.z_range (pa_cons pe_int pa_nil)) (pg_name (i := 9) sc_law.nd rfl (.inl rfl)) (pss_cons (ps_for PassesOwn.never rfl (pi_list (pe_lst (pa_cons (pv 5) (pa_cons (pe_cal C_law_kind hr rfl (pa_cons (pv 1) (pa_cons pe_int pa_nil))) pa_nil)))) (pg_name (i := 10) sc_law.nd rfl (.inl rfl)) (pss_cons (ps_set (i := 11) sc_law.nd rfl (Or.inl rfl) (pe_cal C_is_term hr rfl (pa_cons (pv 2) (pa_cons (pv 3) (pa_cons (pv 4) (pa_cons (pv 10) (pa_cons (pv 7) pa_nil)))))))
      (pss_one (ps_if (PW.pt (pw_or (pt_not (pt_val (pe_callB call_isi (by rfl) T.z_isinstance (by decide +kernel) (pa_cons (pv 11) (pa_cons (pe_bty (T := "bool") (by rfl) T.z_bool (by decide +kernel)) pa_nil))))) (pw_or1 (pt_cmpR op_ne (pv 11) (pe_cal C_law_is_term hr rfl (pa_cons (pv 2) (pa_cons (pv 3) (pa_cons (pv 4) (pa_cons (pv 10) (pa_cons (pv 7) pa_nil)))))) (nomark _))))) (pss_one (ps_ret pe_bl)) pss_nil))))
      (Evl.pss_cut (ps_if (pt_val (pe_cal C_law_is_term hr rfl (pa_cons (pv 2) (pa_cons (pv 3) (pa_cons (pv 4) (pa_cons (pv 5) (pa_cons (pv 7) pa_nil))))))) (pss_cons (ps_set (i := 11) sc_law.nd rfl (Or.inl rfl) (pe_cal C_is_pattern hr rfl (pa_cons (pv 2) (pa_cons (pv 3) (pa_cons (pv 4) (pa_cons (pv 5) (pa_cons (pv 7) pa_nil)))))))
      (pss_one (ps_if (PW.pt (pw_or (pt_not (pt_val (pe_callB call_isi (by rfl) T.z_isinstance (by decide +kernel) (pa_cons (pv 11) (pa_cons (pe_bty (T := "bool") (by rfl) T.z_bool (by decide +kernel)) pa_nil))))) (pw_or1 (pt_cmpR op_ne (pv 11) (pe_cal C_law_is_pattern hr rfl (pa_cons (pv 2) (pa_cons (pv 3) (pa_cons (pv 4) (pa_cons (pv 5) (pa_cons (pv 7) pa_nil)))))) (nomark _))))) (pss_one (ps_ret pe_bl)) pss_nil))) pss_nil)
      (pss_one (ps_set (i := 7) sc_law.nd rfl (Or.inl rfl) (pe_cal C_law_spoilt hr rfl (pa_cons (pv 1) (pa_cons (pv 7) (pa_cons (pv 8) pa_nil)))))))))
      (pss_one (ps_ret pe_bl)))))))))))))), ?_⟩
  walk_at "rd"
  refine ⟨sa, ns, rfl, hS, hl, fun c a H1 k1 nc cs1 => ?_⟩
  walk_at "rd"
  refine ⟨c, a, rfl, cs1, fun vsg sg H2 k2 cs2 hsg2 good => ?_⟩
  walk_at "rd"
  refine ⟨c, a, 4, rfl, cs2, by decide, by decide, fun n1 H3 lo3 hi3 k3 cs3 => ?_⟩
  walk_at "rd"
  obtain ⟨x2, hx2⟩ := cs2.lst2
  have hsg3 := hsg2.mono1 k3 hx2
  refine ⟨_, rfl, by omega, by omega, fun L nL => lc_it walk_range (fun i H' => ∃ ys ts, H' L = some (.lst ys) ∧ Dts H' (tyds ts) ys ∧ ts.length = i ∧ Kp [c] H3 H' ∧ CS a H' c ∧ ∀ t ∈ ts, KindOk 2 t.d)
    ⟨[], [], upd_same, rfl, rfl, (Kp.refl _ _).up nL, cs3.keep ((Kp.refl _ _).up nL), fun d hd => nomatch hd⟩ (fun _ _ _ _ => trivial) ?_ ?_⟩
  · rintro i y H0 Ha hia ⟨ys, ts, eL, hds, ldn, ka, csa, all⟩ ⟨rfl, rfl⟩
    have neL : L ≠ c := (cs3.ne nL).1
    walk_at "rd"
    refine ⟨rfl, ?_⟩
    walk_at "rd"
    refine ⟨c, a, 2, rfl, by decide, csa, fun v8 d8 Hb kb csb hd8 ok8 => ?_⟩
    obtain ⟨t8', rfl⟩ := ok8.ty
    have eL8 : Hb L = some (.lst ys) := kb L _ (by simpa using neL) eL
    refine ⟨ys, eL8, ?_, ys ++ [v8], ts ++ [t8'], upd_same, ?_, ?_, (ka.trans kb).own nL, csb.own (cs3.ne nL), ?_⟩
    · have := hds.len
      rw [tyds_len] at this
      exact Nat.lt_of_le_of_lt (show _ ≤ 1000 by omega) (by decide)
    · rw [tyds_app]
      exact Dts.mono (fun p xs z => by rw [upd_ne (ne_of z eL8 (fun q => by cases q))]; exact z) ((hds.mono (csa.t kb)).snoc hd8)
    · rw [List.length_append, ldn]
      rfl
    · intro d hd
      rcases List.mem_append.mp hd with hd | hd
      · exact all d hd
      · rw [List.mem_singleton.mp hd]
        exact ok8
  rintro Ha ⟨ys, hs, eL, hds, lhs, ka, csa, allh⟩
  walk_at "rd"
  refine ⟨L, ys, rfl, .inl ⟨SqL.of eL, fun l nl => ?_⟩⟩
  obtain ⟨kb, tb, dh⟩ := new_tup nl hds
  obtain ⟨x3, hx3⟩ := cs3.lst2
  have cs4 := csa.keep kb
  have hsg4 := (hsg3.mono1 ka hx3).mono0 kb
  generalize upd Ha l (.tup ys) = H4 at dh cs4 hsg4
  clear kb tb eL ka csa hds
  have lhs4 : hs.length ≤ 4 := by omega
  have ghs : ∀ t ∈ hs, TyG t ∧ t.d.dp ≤ 8 ∧ t.d.sz ≤ 256 := fun t ht => by
    have z := (allh t ht).up (show 2 ≤ 3 by decide)
    exact ⟨z.wd, z.dp, z.sz⟩
  walk_at "rd"
  refine ⟨c, a, rfl, cs4, fun vp pre H5 k5 cs5 hp5 lp okp => ?_⟩
  obtain ⟨x4, hx4⟩ := cs4.lst2
  have hsg5 := hsg4.mono1 k5 hx4
  have dh5 := dh.mono (cs4.t k5)
  have gpre : ∀ t ∈ pre, TyG t ∧ t.d.dp ≤ 8 := fun t ht => by
    have z := (okp t ht).up (show 2 ≤ 3 by decide)
    exact ⟨z.wd, z.dp⟩
  walk_at "rd"
  refine ⟨c, a, 2, rfl, by decide, cs5, fun vk dk H6 k6 cs6 hk6 okk => ?_⟩
  obtain ⟨tk, rfl⟩ := okk.ty
  obtain ⟨x5, hx5⟩ := cs5.lst2
  have hsg6 := hsg5.mono1 k6 hx5
  have dh6 := dh5.mono (cs5.t k6)
  have hp6 := hp5.mono (cs5.t k6)
  have gk : TyG tk := okk.wd
  have gkd : tk.d.dp ≤ 8 := Nat.le_trans okk.dp (by decide)
  walk_at "rd"
  refine ⟨c, a, 30, rfl, cs6, by decide, by decide, fun n2 H7 lo7 hi7 k7 cs7 => ?_⟩
  obtain ⟨x6, hx6⟩ := cs6.lst2
  have t67 := cs6.t k7
  walk_at "rd"
  have cs7' := cs7
  obtain ⟨ns9, i9, dg9, cnt9, z9, hc9, ha9, h09, hne9⟩ := cs7'
  refine r_set hc9 rfl ?_
  rw [show ([V.ref a, .int i9, .int dg9, .int cnt9, .int z9].set (Int.toNat 4) (.int (6 + n2))) = [.ref a, .int i9, .int dg9, .int cnt9, .int (6 + n2)] from rfl]
  have kA : Kp [c] H7 (upd H7 c (.lst [.ref a, .int i9, .int dg9, .int cnt9, .int (6 + n2)])) := (Kp.refl _ _).at (by simp) ⟨_, hc9, rfl⟩
  have csA : CS a (upd H7 c (.lst [.ref a, .int i9, .int dg9, .int cnt9, .int (6 + n2)])) c := ⟨ns9, i9, dg9, cnt9, 6 + n2, upd_same, by rw [upd_ne hne9]; exact ha9, h09, hne9⟩
  generalize (upd H7 c (.lst [.ref a, .int i9, .int dg9, .int cnt9, .int (6 + n2)])) = H8 at kA csA
  have k68 := k7.trans kA
  have t68 := cs6.t k68
  have hsg8 := hsg6.mono1 k68 hx6
  have dh8 := dh6.mono t68
  have hp8 := hp6.mono t68
  have hk8 := hk6.mono t68
  clear kA k7 k68 t67 hc9 ha9 cs7 hsg2 hsg3 hsg4 hsg5 hsg6 dh dh5 dh6 hp5 hp6 hk6
  walk_at "rd"
  refine ⟨c, a, 6, rfl, csA, by decide, by decide, fun n3 H9 lo9 hi9 k9 cs9 => ?_⟩
  obtain ⟨x8, hx8⟩ := csA.lst2
  have t89 := csA.t k9
  have hsg9 := hsg8.mono1 k9 hx8
  obtain ⟨dep, rfl⟩ : ∃ z : Nat, n3 = z := ⟨n3.toNat, by omega⟩
  walk_at "rd"
  refine ⟨c, a, vsg, .ref l, vp, vk, dep, sg, hs, pre, tk, rfl, cs9, hsg9, good, dh8.mono t89, ghs, hp8.mono t89, fun t ht => (gpre t ht).1, hk8.mono t89, gk, by omega, by omega, by omega, fun vt dt HA kA csB hdt tmt _ okt => ?_⟩
  obtain ⟨x9, hx9⟩ := cs9.lst2
  have hsgA := hsg9.mono1 kA hx9
  have t8A := t89.trans (cs9.t kA)
  have dhA := dh8.mono t8A
  have hpA := hp8.mono t8A
  have hkA := hk8.mono t8A
  have gdt : Gd 3 dt := ⟨okt.wd, by have := okt.dp; omega, by
    have z := okt.sz
    have p5 : 3 ^ dep ≤ 3 ^ 5 := Nat.pow_le_pow_right (by decide) (by omega)
    have e5 : (3 : Nat) ^ 5 = 243 := rfl
    omega⟩
  have dpt : dt.dp ≤ 30 := by have := okt.dp; omega
  clear t8A t89 hsg8 hsg9 dh8 hp8 hk8 okt
  walk_at "rd"
  refine r_cut (fun σ H' => ∃ (vt : V) (dt : D), σ = [some (.ref sa), some (.ref c), some vsg, some (.ref l), some vp, some vk, some (.int dep), some vt, none, none, none, none] ∧ CS a H' c ∧ SgV H' sg vsg ∧ Dt H' (.tup (tyds hs)) (.ref l) ∧ Dt H' (.tup (tyds pre)) vp ∧ Dt H' tk.d vk ∧
    Dt H' dt vt ∧ tmB sg hs pre tk dt = true ∧ Gd 3 dt ∧ dt.dp ≤ 30) ?_ ?_
  · walk_at "rd"
    refine ⟨c, a, 2, rfl, csB, by decide, by decide, fun n4 HB loB hiB kB csC => ?_⟩
    obtain ⟨xA, hxA⟩ := csB.lst2
    have tAB := csB.t kB
    have hsgB := hsgA.mono1 kB hxA
    walk_at "rd"
    refine if_2 (fun c1 => ?_) (fun c1 => ?_)
    · walk_at "rd"
      refine ⟨c, a, vsg, .ref l, vp, vk, dep, sg, hs, pre, tk, rfl, csC, hsgB, good, dhA.mono tAB, fun t ht => (ghs t ht).1, hpA.mono tAB, fun t ht => (gpre t ht).1, hkA.mono tAB, gk, by omega, by omega, by omega, fun v2 d2 HC kC csD hd2 tm2 ok2 => ?_⟩
      obtain ⟨xB, hxB⟩ := csC.lst2
      have tAC := tAB.trans (csC.t kC)
      walk_at "rd"
      refine ⟨v2, d2, rfl, csD, hsgB.mono1 kC hxB, dhA.mono tAC, hpA.mono tAC, hkA.mono tAC, hd2, tm2, ⟨ok2.wd, by have := ok2.dp; omega, ?_⟩, by have := ok2.dp; omega⟩
      have z := ok2.sz
      have p5 : 4 ^ dep ≤ 4 ^ 5 := Nat.pow_le_pow_right (by decide) (by omega)
      have e5 : (4 : Nat) ^ 5 = 1024 := rfl
      omega
    · walk_at "rd"
      exact ⟨vt, dt, rfl, csC, hsgB, dhA.mono tAB, hpA.mono tAB, hkA.mono tAB, hdt.mono tAB, tmt, gdt, dpt⟩
  clear hsgA dhA hpA hkA hdt tmt gdt dpt csB cs9 csA
  rintro _ H1 ⟨vt, dt, rfl, cs1, hsg1, dh1, hp1, hk1, hdt1, tmt, gdt, dpt⟩
  have okpre := tysOk_of fun t ht => (gpre t ht).1
  have okhs := tysOk_of fun t ht => (ghs t ht).1
  have fdt := tmG_F _ (tmB_G _ _ _ tmt)
  have zdt := gdt.sz
  walk_at "rd"
  refine ⟨vt, dt, rfl, hdt1, fdt, by omega, fun H2 k2 => ?_⟩
  walk_at "rd"
  refine ⟨vt, dt, rfl, hdt1.mono k2.t0, fdt, by omega, by omega, fun H3 k3 => ?_⟩
  have k13 := k2.trans k3
  walk_at "rd"
  refine if_2 (fun c1 => ?_) (fun c1 => ?_)
  · rw [decide_eq_true rfl] at c1
    cases c1
  have hsg3 := hsg1.mono0 k13
  have dh3 := dh1.mono k13.t0
  have hp3 := hp1.mono k13.t0
  have hk3 := hk1.mono k13.t0
  have hdt3 := hdt1.mono k13.t0
  have cs3 := cs1.keep k13
  walk_at "rd"
  refine ⟨vsg, .ref l, vp, vk, vt, sg, hs, pre, tk, dt, 3, rfl, hsg3, good.ok, Nat.le_trans good.few (by decide), dh3, okhs, hp3, okpre, hk3, gk.ok, hdt3, Wd.mono (fun _ z => z) (by decide) gdt.wd, by omega, by decide, by omega, by omega, fun H4 k4 => ?_⟩
  rw [tmt]
  have hsg4 := hsg3.mono0 k4
  have dh4 := dh3.mono k4.t0
  have hp4 := hp3.mono k4.t0
  have hk4 := hk3.mono k4.t0
  have hdt4 := hdt3.mono k4.t0
  have cs4 := cs3.keep k4
  clear hsg1 dh1 hp1 hk1 hdt1 cs1 hsg3 dh3 hp3 hk3 hdt3 cs3 k2 k3 k13 k4
  walk_at "rd"
  refine r_tupN (ds := [.str "b", .int 0]) (by walk_at "dt") (by simp) fun p1 M1 k1 t1 n1 e1 d1 => ?_
  walk_at "rd"
  refine r_tupN (ds := [.str "b", .int 1]) (by walk_at "dt") (by simp) fun p2 M2 k2 t2 n2 e2 d2 => ?_
  walk_at "rd"
  refine r_tupN (ds := [.str "b", .int 2]) (by walk_at "dt") (by simp) fun p3 M3 k3 t3 n3 e3 d3 => ?_
  walk_at "rd"
  refine r_tupN (ds := [.str "c", .str "c"]) (by walk_at "dt") (by simp) fun p4 M4 k4 t4 n4 e4 d4 => ?_
  walk_at "rd"
  refine r_tupN (ds := [.str "c", .str "f"]) (by walk_at "dt") (by simp) fun p5 M5 k5 t5 n5 e5 d5 => ?_
  walk_at "rd"
  refine r_tupN (ds := [.str "h", .int 0]) (by walk_at "dt") (by simp) fun p6 M6 k6 t6 n6 e6 d6 => ?_
  walk_at "rd"
  refine r_tupN (ds := [.str "h", .int 1]) (by walk_at "dt") (by simp) fun p7 M7 k7 t7 n7 e7 d7 => ?_
  walk_at "rd"
  refine r_tupN (ds := [.str "c", .str "nobody"]) (by walk_at "dt") (by simp) fun p8 M8 k8 t8 n8 e8 d8 => ?_
  walk_at "rd"
  refine r_tupN (ds := [.str "c", .str "c"]) (by walk_at "dt") (by simp) fun p9 M9 k9 t9 n9 e9 d9 => ?_
  walk_at "rd"
  refine r_tupN (ds := []) (by walk_at "dt") (by simp) fun p10 M10 k10 t10 n10 e10 d10 => ?_
  walk_at "rd"
  refine r_tupN (ds := [.int 0, .tup [.str "c", .str "c"], .tup []]) (by walk_at "dt") (by simp) fun p11 M11 k11 t11 n11 e11 d11 => ?_
  walk_at "rd"
  refine r_tupN (ds := [.str "b", .int 0]) (by walk_at "dt") (by simp) fun p12 M12 k12 t12 n12 e12 d12 => ?_
  walk_at "rd"
  refine r_tupN (ds := []) (by walk_at "dt") (by simp) fun p13 M13 k13 t13 n13 e13 d13 => ?_
  walk_at "rd"
  refine r_tupN (ds := [.int 0, .tup [.str "b", .int 0], .tup []]) (by walk_at "dt") (by simp) fun p14 M14 k14 t14 n14 e14 d14 => ?_
  walk_at "rd"
  have kM : Kp [] H4 M14 := (((((((((((((k1).trans k2).trans k3).trans k4).trans k5).trans k6).trans k7).trans k8).trans k9).trans k10).trans k11).trans k12).trans k13).trans k14
  refine r_lstN (show 10 ≤ 10000 by decide) fun ML H5 k5 t5 n5 e5 => ?_
  have k45 := kM.trans k5
  have f1 : Dt H5 (.tup [.str "b", .int 0]) (.ref p1) := by walk_at "dt"
  have f2 : Dt H5 (.tup [.str "b", .int 1]) (.ref p2) := by walk_at "dt"
  have f3 : Dt H5 (.tup [.str "b", .int 2]) (.ref p3) := by walk_at "dt"
  have f4 : Dt H5 (.tup [.str "c", .str "c"]) (.ref p4) := by walk_at "dt"
  have f5 : Dt H5 (.tup [.str "c", .str "f"]) (.ref p5) := by walk_at "dt"
  have f6 : Dt H5 (.tup [.str "h", .int 0]) (.ref p6) := by walk_at "dt"
  have f7 : Dt H5 (.tup [.str "h", .int 1]) (.ref p7) := by walk_at "dt"
  have f8 : Dt H5 (.tup [.str "c", .str "nobody"]) (.ref p8) := by walk_at "dt"
  have f11 : Dt H5 (.tup [.int 0, .tup [.str "c", .str "c"], .tup []]) (.ref p11) := by walk_at "dt"
  have f14 : Dt H5 (.tup [.int 0, .tup [.str "b", .int 0], .tup []]) (.ref p14) := by walk_at "dt"
  have put : ∀ (d : D) (x : V), Wd Tx 3 d → d.dp ≤ 90 → d.sz ≤ 500000 → Dt H5 d x → Itm H5 3 x := fun d x z1 z2 z3 hx => ⟨d, hx, z1, z2, z3⟩
  have prI : ∀ (s : Str) (i : Int), Tx s → Wd Tx 3 (.tup [.str s, .int i]) := fun s i h => ⟨by show 2 ≤ 3; decide, h, trivial, trivial⟩
  have prS : ∀ (s u : Str), Tx s → Tx u → Wd Tx 3 (.tup [.str s, .str u]) := fun s u h1 h2 => ⟨by show 2 ≤ 3; decide, h1, h2, trivial⟩
  have xb : Tx "b" := by decide +kernel
  have xc : Tx "c" := by decide +kernel
  have xf : Tx "f" := by decide +kernel
  have xh : Tx "h" := by decide +kernel
  have xn : Tx "nobody" := by decide +kernel
  have w0 : Wd Tx 3 (.tup []) := ⟨by show 0 ≤ 3; decide, trivial⟩
  have its : ∀ x ∈ [V.ref p1, .ref p2, .ref p3, .ref p4, .ref p5, .ref p6, .ref p7, .ref p8, .ref p11, .ref p14], Itm H5 3 x := fun x hx => by
    simp only [List.mem_cons, List.not_mem_nil, or_false] at hx
    rcases hx with rfl | rfl | rfl | rfl | rfl | rfl | rfl | rfl | rfl | rfl
    · exact put _ _ (prI _ _ xb) (by decide +kernel) (by decide +kernel) f1
    · exact put _ _ (prI _ _ xb) (by decide +kernel) (by decide +kernel) f2
    · exact put _ _ (prI _ _ xb) (by decide +kernel) (by decide +kernel) f3
    · exact put _ _ (prS _ _ xc xc) (by decide +kernel) (by decide +kernel) f4
    · exact put _ _ (prS _ _ xc xf) (by decide +kernel) (by decide +kernel) f5
    · exact put _ _ (prI _ _ xh) (by decide +kernel) (by decide +kernel) f6
    · exact put _ _ (prI _ _ xh) (by decide +kernel) (by decide +kernel) f7
    · exact put _ _ (prS _ _ xc xn) (by decide +kernel) (by decide +kernel) f8
    · exact put (.tup [.int 0, .tup [.str "c", .str "c"], .tup []]) _ ⟨by show 3 ≤ 3; decide, trivial, prS _ _ xc xc, w0, trivial⟩ (by decide +kernel) (by decide +kernel) f11
    · exact put (.tup [.int 0, .tup [.str "b", .int 0], .tup []]) _ ⟨by show 3 ≤ 3; decide, trivial, prI _ _ xb, w0, trivial⟩ (by decide +kernel) (by decide +kernel) f14
  have bs : Bs a c sg vsg pre vp hs (.ref l) tk vk ML [V.ref p1, .ref p2, .ref p3, .ref p4, .ref p5, .ref p6, .ref p7, .ref p8, .ref p11, .ref p14] H5 := ⟨cs4.keep k45, hsg4.mono0 k45, hp4.mono k45.t0, dh4.mono k45.t0, hk4.mono k45.t0, e5, ((cs4.keep kM).ne n5).1, its⟩
  have hdt5 := hdt4.mono k45.t0
  have lms : [V.ref p1, .ref p2, .ref p3, .ref p4, .ref p5, .ref p6, .ref p7, .ref p8, .ref p11, .ref p14].length ≤ 100 := (show 10 ≤ 100 by decide)
  generalize [V.ref p1, .ref p2, .ref p3, .ref p4, .ref p5, .ref p6, .ref p7, .ref p8, .ref p11, .ref p14] = ms at bs e5 its lms
  clear its e5 f1 f2 f3 f4 f5 f6 f7 f8 f11 f14 put kM k45 k5 t5 n5 hsg4 dh4 hp4 hk4 hdt4 cs4
  clear d1 d2 d3 d4 d5 d6 d7 d8 d9 d10 d11 d12 d13 d14
  walk_at "rd"
  refine r_for ?_
  walk_at "rd"
  refine ⟨_, rfl, by omega, by omega, for_range (fun i σ H' => ∃ (vt : V) (dt : D) (v9 v10 v11 : Option V), σ = [some (.ref sa), some (.ref c), some vsg, some (.ref l), some vp, some vk, some (.int dep), some vt, some (.ref ML), v9, v10, v11] ∧ Bs a c sg vsg pre vp hs (.ref l) tk vk ML ms H' ∧ Dt H' dt vt ∧ Gd (3 + i) dt)
    ⟨vt, dt, _, _, _, rfl, bs, hdt5, gdt⟩ ?_ ?_⟩
  · rintro i σ H6 hi ⟨vt, dt, v9, v10, v11, rfl, bs6, hdt6, g6⟩
    have hi' : i < 6 := by simpa using hi
    have z6 := g6.sz
    have d6 := g6.dp
    have w6 : Wd Tx 1000000 dt := Wd.mono (fun _ z => z) (by omega) g6.wd
    walk_at "rd"
    refine r_for ?_
    walk_at "rd"
    refine ⟨c, a, 2, rfl, by decide, bs6.cs, fun v8 d8 H7 k7 cs7 hd8 ok8 => ?_⟩
    obtain ⟨t8, rfl⟩ := ok8.ty
    have bs7 := bs6.step k7 cs7
    have t67 := bs6.cs.t k7
    walk_at "rd"
    refine r_lstN (show 2 ≤ 10000 by decide) fun OL H8 k8 t78 n8 e8 => ?_
    have bs8 := bs7.keep k8
    have hdt8 := (hdt6.mono t67).mono t78
    have two8 : Dts H8 [tk.d, t8.d] [vk, v8] := Dts.cons bs8.k (Dts.cons (hd8.mono t78) Dts.nil)
    have oks : ∀ d ∈ [tk.d, t8.d], ∃ u : Lc.Ty, d = u.d ∧ u.Ok 3 := fun d hd => by
      simp only [List.mem_cons, List.not_mem_nil, or_false] at hd
      rcases hd with rfl | rfl
      · exact ⟨tk, rfl, gk.ok⟩
      · exact ⟨t8, rfl, TyG.ok (show TyG t8 from ok8.wd)⟩
    refine ⟨OL, rfl, ⟨_, SqL.of e8⟩, for_it (walk_list (K := K) (a := OL) (xs := [vk, v8])) (fun j σ H' => ∃ (v10 v11 : Option V), σ = [some (.ref sa), some (.ref c), some vsg, some (.ref l), some vp, some vk, some (.int dep), some vt, some (.ref ML), some (.int (0 + (i : Int))), v10, v11] ∧ Kp [] H8 H')
      ⟨_, _, rfl, Kp.refl _ _⟩ (fun i σ H' _ ⟨_, _, _, k⟩ => SqL.of (k.get e8)) ?_ ?_⟩
    · rintro j y σ H0 H9 hj ⟨v10, v11, rfl, k9⟩ ⟨rfl, hy⟩
      have bs9 := bs8.keep k9
      obtain ⟨du, hdu, hyu⟩ := (two8.mono k9.t0).at hy
      obtain ⟨u, rfl, oku⟩ := oks du (List.mem_of_getElem? hdu)
      walk_at "rd"
      refine ⟨vsg, .ref l, vp, y, vt, sg, hs, pre, u, dt, 3, rfl, bs9.sgv, good.ok, Nat.le_trans good.few (by decide), bs9.h, okhs, bs9.p, okpre, hyu, oku, hdt8.mono k9.t0, w6, by omega, by decide, by omega, fun HA kA => ?_⟩
      have bsA := bs9.keep kA
      walk_at "rd"
      refine r_isB (d := .bl _) rfl ?_
      walk_at "rd"
      refine ⟨vsg, .ref l, vp, y, vt, sg, hs, pre, u, dt, 3, rfl, bsA.sgv, good.ok, Nat.le_trans good.few (by decide), bsA.h, okhs, bsA.p, okpre, hyu.mono kA.t0, oku, hdt8.mono (k9.trans kA).t0, w6, by omega, by decide, by omega, by omega, fun HB kB => ?_⟩
      walk_at "rd"
      refine if_2 (fun c1 => ?_) (fun c1 => ?_)
      · rw [decide_eq_true rfl] at c1
        cases c1
      walk_at "rd"
      exact ⟨_, _, rfl, k9.trans (kA.trans kB)⟩
    · rintro σ H9 ⟨v10, v11, rfl, k9⟩
      have bs9 := bs8.keep k9
      have hdt9 := hdt8.mono k9.t0
      walk_at "rd"
      refine r_cut (fun σ H' => ∃ (v11 : Option V), σ = [some (.ref sa), some (.ref c), some vsg, some (.ref l), some vp, some vk, some (.int dep), some vt, some (.ref ML), some (.int (0 + (i : Int))), v10, v11] ∧ Kp [] H9 H') ?_ ?_
      · walk_at "rd"
        refine ⟨vsg, .ref l, vp, vk, vt, sg, hs, pre, tk, dt, 3, rfl, bs9.sgv, good.ok, Nat.le_trans good.few (by decide), bs9.h, okhs, bs9.p, okpre, bs9.k, gk.ok, hdt9, w6, by omega, by decide, by omega, by omega, fun HA kA => ?_⟩
        have bsA := bs9.keep kA
        walk_at "rd"
        cases et : tmB sg hs pre tk dt with
        | false =>
          walk_at "rd"
          exact ⟨_, rfl, kA⟩
        | true =>
          have wd3 := typed_wd good (fun t ht => (ghs t ht).1) _ pre tk dt (Nat.le_refl _) (fun t ht => (gpre t ht).1) gk et
          walk_at "rd"
          refine ⟨vsg, .ref l, vp, vk, vt, dt, rfl, hdt9.mono kA.t0, tmB_G _ _ _ et, wd3, by omega, by omega, fun HB kB => ?_⟩
          have bsB := bsA.keep kB
          walk_at "rd"
          refine r_isB (d := .bl _) rfl ?_
          walk_at "rd"
          refine ⟨vsg, .ref l, vp, vk, vt, sg, hs, pre, tk, dt, rfl, bsB.sgv, good, bsB.h, fun t ht => ⟨(ghs t ht).1, by have := (ghs t ht).2.1; omega⟩, bsB.p, fun t ht => ⟨(gpre t ht).1, by have := (gpre t ht).2; omega⟩, bsB.k, ⟨gk, by omega⟩, hdt9.mono (kA.trans kB).t0, et, wd3, by omega, by omega, by omega, by omega, fun HC kC => ?_⟩
          walk_at "rd"
          refine if_2 (fun c1 => ?_) (fun c1 => ?_)
          · rw [decide_eq_true rfl] at c1
            cases c1
          walk_at "rd"
          exact ⟨_, rfl, (kA.trans kB).trans kC⟩
      rintro _ HA ⟨v11, rfl, kA⟩
      have bsA := bs9.keep kA
      walk_at "rd"
      refine ⟨c, a, ML, vt, dt, 3 + i, ms, rfl, bsA.cs, hdt9.mono kA.t0, g6, by omega, by omega, bsA.m, bsA.ne, lms, fun x hx => (bsA.it x hx).wide (by omega), fun v' d' HB kB csB hd' g' => ?_⟩
      walk_at "rd"
      exact ⟨v', d', _, _, _, rfl, bsA.step kB csB, hd', g'⟩
  · rintro σ H6 ⟨vt, dt, v9, v10, v11, rfl, bs6, hdt6, g6⟩
    walk_at "rd"
    exact q _
end
end K02
end

/-! The head. -/
namespace K02
open PySem L2 PyProof.Rows PySem.Spec Lc
def tabL : TabL := []
local instance : Tbs := tbsOf tabL
theorem tab_nd : (tabL.map (·.2.1)).Nodup := by decide +kernel
theorem all_mk {l : PySem.W.OpenLaw} {w : World} {K : PySem.W.Frag} {h : Heap} {mg : Str → Option Value} {fa : Addr} (X : K.In h) (G : h.Ns mainGlobals mg) (hfa : mg "law" = some (.ref fa))
    {f1 f2 f3 f4 f5 f6 f7 f8 f9 f10 f11 f12 f13 f14 f15 f16 f17 f18 f19 f20 f21 f22 f23 f24 f25 f26 f27 f28 f29 f30 f31 f32 f33 f34 f35 f36 : Addr} {od1 an1 od2 an2 od3 an3 od4 an4 od5 an5 od6 an6 od7 an7 od8 an8 od9 an9 od10 an10 od11 an11 od12 an12 od13 an13 od14 an14 od15 an15 od16 an16 od17 an17 od18 an18 od19 an19 od20 an20 od21 an21 od22 an22 od23 an23 od24 an24 od25 an25 od26 an26 od27 an27 od28 an28 od29 an29 od30 an30 od31 an31 od32 an32 od33 an33 od34 an34 od35 an35 od36 an36 : Option Addr} {sl1 sl2 sl3 sl4 sl5 sl6 sl7 sl8 sl9 sl10 sl11 sl12 sl13 sl14 sl15 sl16 sl17 sl18 sl19 sl20 sl21 sl22 sl23 sl24 sl25 sl26 sl27 sl28 sl29 sl30 sl31 sl32 sl33 sl34 sl35 sl36 : Array (Option Value)} {oc1 kV1 dc1 pm1 ct1 oc2 kV2 dc2 pm2 ct2 oc3 kV3 dc3 pm3 ct3 oc4 kV4 dc4 pm4 ct4 oc5 kV5 dc5 pm5 ct5 oc6 kV6 dc6 pm6 ct6 oc7 kV7 dc7 pm7 ct7 oc8 kV8 dc8 pm8 ct8 oc9 kV9 dc9 pm9 ct9 oc10 kV10 dc10 pm10 ct10 oc11 kV11 dc11 pm11 ct11 oc12 kV12 dc12 pm12 ct12 oc13 kV13 dc13 pm13 ct13 oc14 kV14 dc14 pm14 ct14 oc15 kV15 dc15 pm15 ct15 oc16 kV16 dc16 pm16 ct16 oc17 kV17 dc17 pm17 ct17 oc18 kV18 dc18 pm18 ct18 oc19 kV19 dc19 pm19 ct19 oc20 kV20 dc20 pm20 ct20 oc21 kV21 dc21 pm21 ct21 oc22 kV22 dc22 pm22 ct22 oc23 kV23 dc23 pm23 ct23 oc24 kV24 dc24 pm24 ct24 oc25 kV25 dc25 pm25 ct25 oc26 kV26 dc26 pm26 ct26 oc27 kV27 dc27 pm27 ct27 oc28 kV28 dc28 pm28 ct28 oc29 kV29 dc29 pm29 ct29 oc30 kV30 dc30 pm30 ct30 oc31 kV31 dc31 pm31 ct31 oc32 kV32 dc32 pm32 ct32 oc33 kV33 dc33 pm33 ct33 oc34 kV34 dc34 pm34 ct34 oc35 kV35 dc35 pm35 ct35 oc36 kV36 dc36 pm36 ct36 : Value} {cd1 cd2 cd3 cd4 cd5 cd6 cd7 cd8 cd9 cd10 cd11 cd12 cd13 cd14 cd15 cd16 cd17 cd18 cd19 cd20 cd21 cd22 cd23 cd24 cd25 cd26 cd27 cd28 cd29 cd30 cd31 cd32 cd33 cd34 cd35 cd36 : Value}
    (a1 : PySem.W.nsIn K mainGlobals "is_pair" = some (some (.ref f1))) (l1 : K.lookup f1 = some ⟨oc1, od1, .func (PySem.W.fnOf "is_pair" "is_pair" (defArgs s_is_pair) (defBody s_is_pair) (defScope s_is_pair) .none kV1 dc1 pm1 an1 cd1 ct1), sl1⟩) (c1 : PySem.W.codeIn K cd1 "is_pair" = true) (k1 : PySem.W.keepIn K (.ref f1) = true)
    (a2 : PySem.W.nsIn K mainGlobals "is_index" = some (some (.ref f2))) (l2 : K.lookup f2 = some ⟨oc2, od2, .func (PySem.W.fnOf "is_index" "is_index" (defArgs s_is_index) (defBody s_is_index) (defScope s_is_index) .none kV2 dc2 pm2 an2 cd2 ct2), sl2⟩) (c2 : PySem.W.codeIn K cd2 "is_index" = true) (k2 : PySem.W.keepIn K (.ref f2) = true)
    (a3 : PySem.W.nsIn K mainGlobals "head_kind" = some (some (.ref f3))) (l3 : K.lookup f3 = some ⟨oc3, od3, .func (PySem.W.fnOf "head_kind" "head_kind" (defArgs s_head_kind) (defBody s_head_kind) (defScope s_head_kind) .none kV3 dc3 pm3 an3 cd3 ct3), sl3⟩) (c3 : PySem.W.codeIn K cd3 "head_kind" = true) (k3 : PySem.W.keepIn K (.ref f3) = true)
    (a4 : PySem.W.nsIn K mainGlobals "has_term_form" = some (some (.ref f4))) (l4 : K.lookup f4 = some ⟨oc4, od4, .func (PySem.W.fnOf "has_term_form" "has_term_form" (defArgs s_has_term_form) (defBody s_has_term_form) (defScope s_has_term_form) .none kV4 dc4 pm4 an4 cd4 ct4), sl4⟩) (c4 : PySem.W.codeIn K cd4 "has_term_form" = true) (k4 : PySem.W.keepIn K (.ref f4) = true)
    (a5 : PySem.W.nsIn K mainGlobals "is_term" = some (some (.ref f5))) (l5 : K.lookup f5 = some ⟨oc5, od5, .func (PySem.W.fnOf "is_term" "is_term" (defArgs s_is_term) (defBody s_is_term) (defScope s_is_term) .none kV5 dc5 pm5 an5 cd5 ct5), sl5⟩) (c5 : PySem.W.codeIn K cd5 "is_term" = true) (k5 : PySem.W.keepIn K (.ref f5) = true)
    (a6 : PySem.W.nsIn K mainGlobals "places" = some (some (.ref f6))) (l6 : K.lookup f6 = some ⟨oc6, od6, .func (PySem.W.fnOf "places" "places" (defArgs s_places) (defBody s_places) (defScope s_places) .none kV6 dc6 pm6 an6 cd6 ct6), sl6⟩) (c6 : PySem.W.codeIn K cd6 "places" = true) (k6 : PySem.W.keepIn K (.ref f6) = true)
    (a7 : PySem.W.nsIn K mainGlobals "size" = some (some (.ref f7))) (l7 : K.lookup f7 = some ⟨oc7, od7, .func (PySem.W.fnOf "size" "size" (defArgs s_size) (defBody s_size) (defScope s_size) .none kV7 dc7 pm7 an7 cd7 ct7), sl7⟩) (c7 : PySem.W.codeIn K cd7 "size" = true) (k7 : PySem.W.keepIn K (.ref f7) = true)
    (a8 : PySem.W.nsIn K mainGlobals "raised_head" = some (some (.ref f8))) (l8 : K.lookup f8 = some ⟨oc8, od8, .func (PySem.W.fnOf "raised_head" "raised_head" (defArgs s_raised_head) (defBody s_raised_head) (defScope s_raised_head) .none kV8 dc8 pm8 an8 cd8 ct8), sl8⟩) (c8 : PySem.W.codeIn K cd8 "raised_head" = true) (k8 : PySem.W.keepIn K (.ref f8) = true)
    (a9 : PySem.W.nsIn K mainGlobals "is_long" = some (some (.ref f9))) (l9 : K.lookup f9 = some ⟨oc9, od9, .func (PySem.W.fnOf "is_long" "is_long" (defArgs s_is_long) (defBody s_is_long) (defScope s_is_long) .none kV9 dc9 pm9 an9 cd9 ct9), sl9⟩) (c9 : PySem.W.codeIn K cd9 "is_long" = true) (k9 : PySem.W.keepIn K (.ref f9) = true)
    (a10 : PySem.W.nsIn K mainGlobals "long_head" = some (some (.ref f10))) (l10 : K.lookup f10 = some ⟨oc10, od10, .func (PySem.W.fnOf "long_head" "long_head" (defArgs s_long_head) (defBody s_long_head) (defScope s_long_head) .none kV10 dc10 pm10 an10 cd10 ct10), sl10⟩) (c10 : PySem.W.codeIn K cd10 "long_head" = true) (k10 : PySem.W.keepIn K (.ref f10) = true)
    (a11 : PySem.W.nsIn K mainGlobals "is_binder_row" = some (some (.ref f11))) (l11 : K.lookup f11 = some ⟨oc11, od11, .func (PySem.W.fnOf "is_binder_row" "is_binder_row" (defArgs s_is_binder_row) (defBody s_is_binder_row) (defScope s_is_binder_row) .none kV11 dc11 pm11 an11 cd11 ct11), sl11⟩) (c11 : PySem.W.codeIn K cd11 "is_binder_row" = true) (k11 : PySem.W.keepIn K (.ref f11) = true)
    (a12 : PySem.W.nsIn K mainGlobals "has_pattern_form" = some (some (.ref f12))) (l12 : K.lookup f12 = some ⟨oc12, od12, .func (PySem.W.fnOf "has_pattern_form" "has_pattern_form" (defArgs s_has_pattern_form) (defBody s_has_pattern_form) (defScope s_has_pattern_form) .none kV12 dc12 pm12 an12 cd12 ct12), sl12⟩) (c12 : PySem.W.codeIn K cd12 "has_pattern_form" = true) (k12 : PySem.W.keepIn K (.ref f12) = true)
    (a13 : PySem.W.nsIn K mainGlobals "is_pattern" = some (some (.ref f13))) (l13 : K.lookup f13 = some ⟨oc13, od13, .func (PySem.W.fnOf "is_pattern" "is_pattern" (defArgs s_is_pattern) (defBody s_is_pattern) (defScope s_is_pattern) .none kV13 dc13 pm13 an13 cd13 ct13), sl13⟩) (c13 : PySem.W.codeIn K cd13 "is_pattern" = true) (k13 : PySem.W.keepIn K (.ref f13) = true)
    (a14 : PySem.W.nsIn K mainGlobals "_law_start" = some (some (.ref f14))) (l14 : K.lookup f14 = some ⟨oc14, od14, .func (PySem.W.fnOf "_law_start" "_law_start" (defArgs s_law_start) (defBody s_law_start) (defScope s_law_start) .none kV14 dc14 pm14 an14 cd14 ct14), sl14⟩) (c14 : PySem.W.codeIn K cd14 "_law_start" = true) (k14 : PySem.W.keepIn K (.ref f14) = true)
    (a15 : PySem.W.nsIn K mainGlobals "_law_fill" = some (some (.ref f15))) (l15 : K.lookup f15 = some ⟨oc15, od15, .func (PySem.W.fnOf "_law_fill" "_law_fill" (defArgs s_law_fill) (defBody s_law_fill) (defScope s_law_fill) .none kV15 dc15 pm15 an15 cd15 ct15), sl15⟩) (c15 : PySem.W.codeIn K cd15 "_law_fill" = true) (k15 : PySem.W.keepIn K (.ref f15) = true)
    (a16 : PySem.W.nsIn K mainGlobals "_law_take" = some (some (.ref f16))) (l16 : K.lookup f16 = some ⟨oc16, od16, .func (PySem.W.fnOf "_law_take" "_law_take" (defArgs s_law_take) (defBody s_law_take) (defScope s_law_take) .none kV16 dc16 pm16 an16 cd16 ct16), sl16⟩) (c16 : PySem.W.codeIn K cd16 "_law_take" = true) (k16 : PySem.W.keepIn K (.ref f16) = true)
    (a17 : PySem.W.nsIn K mainGlobals "_law_signature" = some (some (.ref f17))) (l17 : K.lookup f17 = some ⟨oc17, od17, .func (PySem.W.fnOf "_law_signature" "_law_signature" (defArgs s_law_signature) (defBody s_law_signature) (defScope s_law_signature) .none kV17 dc17 pm17 an17 cd17 ct17), sl17⟩) (c17 : PySem.W.codeIn K cd17 "_law_signature" = true) (k17 : PySem.W.keepIn K (.ref f17) = true)
    (a18 : PySem.W.nsIn K mainGlobals "_law_kind" = some (some (.ref f18))) (l18 : K.lookup f18 = some ⟨oc18, od18, .func (PySem.W.fnOf "_law_kind" "_law_kind" (defArgs s_law_kind) (defBody s_law_kind) (defScope s_law_kind) .none kV18 dc18 pm18 an18 cd18 ct18), sl18⟩) (c18 : PySem.W.codeIn K cd18 "_law_kind" = true) (k18 : PySem.W.keepIn K (.ref f18) = true)
    (a19 : PySem.W.nsIn K mainGlobals "_law_long" = some (some (.ref f19))) (l19 : K.lookup f19 = some ⟨oc19, od19, .func (PySem.W.fnOf "_law_long" "_law_long" (defArgs s_law_long) (defBody s_law_long) (defScope s_law_long) .none kV19 dc19 pm19 an19 cd19 ct19), sl19⟩) (c19 : PySem.W.codeIn K cd19 "_law_long" = true) (k19 : PySem.W.keepIn K (.ref f19) = true)
    (a20 : PySem.W.nsIn K mainGlobals "_law_size" = some (some (.ref f20))) (l20 : K.lookup f20 = some ⟨oc20, od20, .func (PySem.W.fnOf "_law_size" "_law_size" (defArgs s_law_size) (defBody s_law_size) (defScope s_law_size) .none kV20 dc20 pm20 an20 cd20 ct20), sl20⟩) (c20 : PySem.W.codeIn K cd20 "_law_size" = true) (k20 : PySem.W.keepIn K (.ref f20) = true)
    (a21 : PySem.W.nsIn K mainGlobals "_law_is_int" = some (some (.ref f21))) (l21 : K.lookup f21 = some ⟨oc21, od21, .func (PySem.W.fnOf "_law_is_int" "_law_is_int" (defArgs s_law_is_int) (defBody s_law_is_int) (defScope s_law_is_int) .none kV21 dc21 pm21 an21 cd21 ct21), sl21⟩) (c21 : PySem.W.codeIn K cd21 "_law_is_int" = true) (k21 : PySem.W.keepIn K (.ref f21) = true)
    (a22 : PySem.W.nsIn K mainGlobals "_law_needed" = some (some (.ref f22))) (l22 : K.lookup f22 = some ⟨oc22, od22, .func (PySem.W.fnOf "_law_needed" "_law_needed" (defArgs s_law_needed) (defBody s_law_needed) (defScope s_law_needed) .none kV22 dc22 pm22 an22 cd22 ct22), sl22⟩) (c22 : PySem.W.codeIn K cd22 "_law_needed" = true) (k22 : PySem.W.keepIn K (.ref f22) = true)
    (a23 : PySem.W.nsIn K mainGlobals "_law_is_term" = some (some (.ref f23))) (l23 : K.lookup f23 = some ⟨oc23, od23, .func (PySem.W.fnOf "_law_is_term" "_law_is_term" (defArgs s_law_is_term) (defBody s_law_is_term) (defScope s_law_is_term) .none kV23 dc23 pm23 an23 cd23 ct23), sl23⟩) (c23 : PySem.W.codeIn K cd23 "_law_is_term" = true) (k23 : PySem.W.keepIn K (.ref f23) = true)
    (a24 : PySem.W.nsIn K mainGlobals "_law_heads" = some (some (.ref f24))) (l24 : K.lookup f24 = some ⟨oc24, od24, .func (PySem.W.fnOf "_law_heads" "_law_heads" (defArgs s_law_heads) (defBody s_law_heads) (defScope s_law_heads) .none kV24 dc24 pm24 an24 cd24 ct24), sl24⟩) (c24 : PySem.W.codeIn K cd24 "_law_heads" = true) (k24 : PySem.W.keepIn K (.ref f24) = true)
    (a25 : PySem.W.nsIn K mainGlobals "_law_least" = some (some (.ref f25))) (l25 : K.lookup f25 = some ⟨oc25, od25, .func (PySem.W.fnOf "_law_least" "_law_least" (defArgs s_law_least) (defBody s_law_least) (defScope s_law_least) .none kV25 dc25 pm25 an25 cd25 ct25), sl25⟩) (c25 : PySem.W.codeIn K cd25 "_law_least" = true) (k25 : PySem.W.keepIn K (.ref f25) = true)
    (a26 : PySem.W.nsIn K mainGlobals "_law_term" = some (some (.ref f26))) (l26 : K.lookup f26 = some ⟨oc26, od26, .func (PySem.W.fnOf "_law_term" "_law_term" (defArgs s_law_term) (defBody s_law_term) (defScope s_law_term) .none kV26 dc26 pm26 an26 cd26 ct26), sl26⟩) (c26 : PySem.W.codeIn K cd26 "_law_term" = true) (k26 : PySem.W.keepIn K (.ref f26) = true)
    (a27 : PySem.W.nsIn K mainGlobals "_law_number" = some (some (.ref f27))) (l27 : K.lookup f27 = some ⟨oc27, od27, .func (PySem.W.fnOf "_law_number" "_law_number" (defArgs s_law_number) (defBody s_law_number) (defScope s_law_number) .none kV27 dc27 pm27 an27 cd27 ct27), sl27⟩) (c27 : PySem.W.codeIn K cd27 "_law_number" = true) (k27 : PySem.W.keepIn K (.ref f27) = true)
    (a28 : PySem.W.nsIn K mainGlobals "_law_nodes_of" = some (some (.ref f28))) (l28 : K.lookup f28 = some ⟨oc28, od28, .func (PySem.W.fnOf "_law_nodes_of" "_law_nodes_of" (defArgs s_law_nodes_of) (defBody s_law_nodes_of) (defScope s_law_nodes_of) .none kV28 dc28 pm28 an28 cd28 ct28), sl28⟩) (c28 : PySem.W.codeIn K cd28 "_law_nodes_of" = true) (k28 : PySem.W.keepIn K (.ref f28) = true)
    (a29 : PySem.W.nsIn K mainGlobals "_law_changed" = some (some (.ref f29))) (l29 : K.lookup f29 = some ⟨oc29, od29, .func (PySem.W.fnOf "_law_changed" "_law_changed" (defArgs s_law_changed) (defBody s_law_changed) (defScope s_law_changed) .none kV29 dc29 pm29 an29 cd29 ct29), sl29⟩) (c29 : PySem.W.codeIn K cd29 "_law_changed" = true) (k29 : PySem.W.keepIn K (.ref f29) = true)
    (a30 : PySem.W.nsIn K mainGlobals "_law_high" = some (some (.ref f30))) (l30 : K.lookup f30 = some ⟨oc30, od30, .func (PySem.W.fnOf "_law_high" "_law_high" (defArgs s_law_high) (defBody s_law_high) (defScope s_law_high) .none kV30 dc30 pm30 an30 cd30 ct30), sl30⟩) (c30 : PySem.W.codeIn K cd30 "_law_high" = true) (k30 : PySem.W.keepIn K (.ref f30) = true)
    (a31 : PySem.W.nsIn K mainGlobals "_law_spoilt" = some (some (.ref f31))) (l31 : K.lookup f31 = some ⟨oc31, od31, .func (PySem.W.fnOf "_law_spoilt" "_law_spoilt" (defArgs s_law_spoilt) (defBody s_law_spoilt) (defScope s_law_spoilt) .none kV31 dc31 pm31 an31 cd31 ct31), sl31⟩) (c31 : PySem.W.codeIn K cd31 "_law_spoilt" = true) (k31 : PySem.W.keepIn K (.ref f31) = true)
    (a32 : PySem.W.nsIn K mainGlobals "_law_prefix" = some (some (.ref f32))) (l32 : K.lookup f32 = some ⟨oc32, od32, .func (PySem.W.fnOf "_law_prefix" "_law_prefix" (defArgs s_law_prefix) (defBody s_law_prefix) (defScope s_law_prefix) .none kV32 dc32 pm32 an32 cd32 ct32), sl32⟩) (c32 : PySem.W.codeIn K cd32 "_law_prefix" = true) (k32 : PySem.W.keepIn K (.ref f32) = true)
    (a33 : PySem.W.nsIn K mainGlobals "_law_choice" = some (some (.ref f33))) (l33 : K.lookup f33 = some ⟨oc33, od33, .func (PySem.W.fnOf "_law_choice" "_law_choice" (defArgs s_law_choice) (defBody s_law_choice) (defScope s_law_choice) .none kV33 dc33 pm33 an33 cd33 ct33), sl33⟩) (c33 : PySem.W.codeIn K cd33 "_law_choice" = true) (k33 : PySem.W.keepIn K (.ref f33) = true)
    (a34 : PySem.W.nsIn K mainGlobals "_law_drawn" = some (some (.ref f34))) (l34 : K.lookup f34 = some ⟨oc34, od34, .func (PySem.W.fnOf "_law_drawn" "_law_drawn" (defArgs s_law_drawn) (defBody s_law_drawn) (defScope s_law_drawn) .none kV34 dc34 pm34 an34 cd34 ct34), sl34⟩) (c34 : PySem.W.codeIn K cd34 "_law_drawn" = true) (k34 : PySem.W.keepIn K (.ref f34) = true)
    (a35 : PySem.W.nsIn K mainGlobals "_law_is_pattern" = some (some (.ref f35))) (l35 : K.lookup f35 = some ⟨oc35, od35, .func (PySem.W.fnOf "_law_is_pattern" "_law_is_pattern" (defArgs s_law_is_pattern) (defBody s_law_is_pattern) (defScope s_law_is_pattern) .none kV35 dc35 pm35 an35 cd35 ct35), sl35⟩) (c35 : PySem.W.codeIn K cd35 "_law_is_pattern" = true) (k35 : PySem.W.keepIn K (.ref f35) = true)
    (a36 : PySem.W.nsIn K mainGlobals "law" = some (some (.ref f36))) (l36 : K.lookup f36 = some ⟨oc36, od36, .func (PySem.W.fnOf "law" "law" (defArgs s_law) (defBody s_law) (defScope s_law) .none kV36 dc36 pm36 an36 cd36 ct36), sl36⟩) (c36 : PySem.W.codeIn K cd36 "law" = true) (k36 : PySem.W.keepIn K (.ref f36) = true)
    
    (z_type : PySem.W.nsIn K mainGlobals "type" = some none) (z_str : PySem.W.nsIn K mainGlobals "str" = some none) (z_len : PySem.W.nsIn K mainGlobals "len" = some none) (z_all : PySem.W.nsIn K mainGlobals "all" = some none) (z_tuple : PySem.W.nsIn K mainGlobals "tuple" = some none) (z_list : PySem.W.nsIn K mainGlobals "list" = some none) (z_dict : PySem.W.nsIn K mainGlobals "dict" = some none) (z_set : PySem.W.nsIn K mainGlobals "set" = some none) (z_int : PySem.W.nsIn K mainGlobals "int" = some none) (z_max : PySem.W.nsIn K mainGlobals "max" = some none) (z_sum : PySem.W.nsIn K mainGlobals "sum" = some none) (z_range : PySem.W.nsIn K mainGlobals "range" = some none) (z_reversed : PySem.W.nsIn K mainGlobals "reversed" = some none) (z_isinstance : PySem.W.nsIn K mainGlobals "isinstance" = some none) (z_bool : PySem.W.nsIn K mainGlobals "bool" = some none) (z_sorted : PySem.W.nsIn K mainGlobals "sorted" = some none) (z_enumerate : PySem.W.nsIn K mainGlobals "enumerate" = some none) :
    ∃ fd : FuncData, (∀ (s : Shared) (u : Value), BindsTo s fd ⟨[u], []⟩ [("script", u)]) ∧ ∀ base : Heap, K.In base → base.Ns mainGlobals mg → (∀ p ∈ csOf tabL, LamX.TabB base mg p.1 p.2) → FnOk l.prog w K mg base CX0 130 fa fd ["script"] (spLaw K) := by
  have e := hfa.symm.trans (PySem.W.mg_of X G a36)
  cases e
  have D_is_pair := df_mk (st := s_is_pair) (ps := ["value"]) X G a1 l1 c1 k1 fun _ _ _ _ _ _ us hl => match us, hl with | [_], _ => rfl
  have D_is_index := df_mk (st := s_is_index) (ps := ["value"]) X G a2 l2 c2 k2 fun _ _ _ _ _ _ us hl => match us, hl with | [_], _ => rfl
  have D_head_kind := df_mk (st := s_head_kind) (ps := ["constants", "holes", "binders", "head"]) X G a3 l3 c3 k3 fun _ _ _ _ _ _ us hl => match us, hl with | [_, _, _, _], _ => rfl
  have D_has_term_form := df_mk (st := s_has_term_form) (ps := ["value", "n"]) X G a4 l4 c4 k4 fun _ _ _ _ _ _ us hl => match us, hl with | [_, _], _ => rfl
  have D_is_term := df_mk (st := s_is_term) (ps := ["signature", "holes", "prefix", "kind", "value"]) X G a5 l5 c5 k5 fun _ _ _ _ _ _ us hl => match us, hl with | [_, _, _, _, _], _ => rfl
  have D_places := df_mk (st := s_places) (ps := ["term"]) X G a6 l6 c6 k6 fun _ _ _ _ _ _ us hl => match us, hl with | [_], _ => rfl
  have D_size := df_mk (st := s_size) (ps := ["term"]) X G a7 l7 c7 k7 fun _ _ _ _ _ _ us hl => match us, hl with | [_], _ => rfl
  have D_raised_head := df_mk (st := s_raised_head) (ps := ["head", "k"]) X G a8 l8 c8 k8 fun _ _ _ _ _ _ us hl => match us, hl with | [_, _], _ => rfl
  have D_is_long := df_mk (st := s_is_long) (ps := ["term", "head"]) X G a9 l9 c9 k9 fun _ _ _ _ _ _ us hl => match us, hl with | [_, _], _ => rfl
  have D_long_head := df_mk (st := s_long_head) (ps := ["term"]) X G a10 l10 c10 k10 fun _ _ _ _ _ _ us hl => match us, hl with | [_], _ => rfl
  have D_is_binder_row := df_mk (st := s_is_binder_row) (ps := ["parts"]) X G a11 l11 c11 k11 fun _ _ _ _ _ _ us hl => match us, hl with | [_], _ => rfl
  have D_has_pattern_form := df_mk (st := s_has_pattern_form) (ps := ["term"]) X G a12 l12 c12 k12 fun _ _ _ _ _ _ us hl => match us, hl with | [_], _ => rfl
  have D_is_pattern := df_mk (st := s_is_pattern) (ps := ["signature", "holes", "prefix", "kind", "term"]) X G a13 l13 c13 k13 fun _ _ _ _ _ _ us hl => match us, hl with | [_, _, _, _, _], _ => rfl
  have D_law_start := df_mk (st := s_law_start) (ps := ["script"]) X G a14 l14 c14 k14 fun _ _ _ _ _ _ us hl => match us, hl with | [_], _ => rfl
  have D_law_fill := df_mk (st := s_law_fill) (ps := ["c"]) X G a15 l15 c15 k15 fun _ _ _ _ _ _ us hl => match us, hl with | [_], _ => rfl
  have D_law_take := df_mk (st := s_law_take) (ps := ["c", "many"]) X G a16 l16 c16 k16 fun _ _ _ _ _ _ us hl => match us, hl with | [_, _], _ => rfl
  have D_law_signature := df_mk (st := s_law_signature) (ps := ["c"]) X G a17 l17 c17 k17 fun _ _ _ _ _ _ us hl => match us, hl with | [_], _ => rfl
  have D_law_kind := df_mk (st := s_law_kind) (ps := ["c", "high"]) X G a18 l18 c18 k18 fun _ _ _ _ _ _ us hl => match us, hl with | [_, _], _ => rfl
  have D_law_long := df_mk (st := s_law_long) (ps := ["head", "kind"]) X G a19 l19 c19 k19 fun _ _ _ _ _ _ us hl => match us, hl with | [_, _], _ => rfl
  have D_law_size := df_mk (st := s_law_size) (ps := ["term"]) X G a20 l20 c20 k20 fun _ _ _ _ _ _ us hl => match us, hl with | [_], _ => rfl
  have D_law_is_int := df_mk (st := s_law_is_int) (ps := ["value"]) X G a21 l21 c21 k21 fun _ _ _ _ _ _ us hl => match us, hl with | [_], _ => rfl
  have D_law_needed := df_mk (st := s_law_needed) (ps := ["signature", "holes", "own", "head"]) X G a22 l22 c22 k22 fun _ _ _ _ _ _ us hl => match us, hl with | [_, _, _, _], _ => rfl
  have D_law_is_term := df_mk (st := s_law_is_term) (ps := ["signature", "holes", "prefix", "kind", "value"]) X G a23 l23 c23 k23 fun _ _ _ _ _ _ us hl => match us, hl with | [_, _, _, _, _], _ => rfl
  have D_law_heads := df_mk (st := s_law_heads) (ps := ["signature", "holes", "own", "sort"]) X G a24 l24 c24 k24 fun _ _ _ _ _ _ us hl => match us, hl with | [_, _, _, _], _ => rfl
  have D_law_least := df_mk (st := s_law_least) (ps := ["signature", "kind"]) X G a25 l25 c25 k25 fun _ _ _ _ _ _ us hl => match us, hl with | [_, _], _ => rfl
  have D_law_term := df_mk (st := s_law_term) (ps := ["c", "signature", "holes", "prefix", "kind", "depth"]) X G a26 l26 c26 k26 fun _ _ _ _ _ _ us hl => match us, hl with | [_, _, _, _, _, _], _ => rfl
  have D_law_number := df_mk (st := s_law_number) (ps := ["part"]) X G a27 l27 c27 k27 fun _ _ _ _ _ _ us hl => match us, hl with | [_], _ => rfl
  have D_law_nodes_of := df_mk (st := s_law_nodes_of) (ps := ["value", "found"]) X G a28 l28 c28 k28 fun _ _ _ _ _ _ us hl => match us, hl with | [_, _], _ => rfl
  have D_law_changed := df_mk (st := s_law_changed) (ps := ["value", "box", "other"]) X G a29 l29 c29 k29 fun _ _ _ _ _ _ us hl => match us, hl with | [_, _, _], _ => rfl
  have D_law_high := df_mk (st := s_law_high) (ps := ["value"]) X G a30 l30 c30 k30 fun _ _ _ _ _ _ us hl => match us, hl with | [_], _ => rfl
  have D_law_spoilt := df_mk (st := s_law_spoilt) (ps := ["c", "value", "menu"]) X G a31 l31 c31 k31 fun _ _ _ _ _ _ us hl => match us, hl with | [_, _, _], _ => rfl
  have D_law_prefix := df_mk (st := s_law_prefix) (ps := ["c"]) X G a32 l32 c32 k32 fun _ _ _ _ _ _ us hl => match us, hl with | [_], _ => rfl
  have D_law_choice := df_mk (st := s_law_choice) (ps := ["c", "own", "kinds"]) X G a33 l33 c33 k33 fun _ _ _ _ _ _ us hl => match us, hl with | [_, _, _], _ => rfl
  have D_law_drawn := df_mk (st := s_law_drawn) (ps := ["c", "signature", "holes", "prefix", "kind", "depth"]) X G a34 l34 c34 k34 fun _ _ _ _ _ _ us hl => match us, hl with | [_, _, _, _, _, _], _ => rfl
  have D_law_is_pattern := df_mk (st := s_law_is_pattern) (ps := ["signature", "holes", "prefix", "kind", "term"]) X G a35 l35 c35 k35 fun _ _ _ _ _ _ us hl => match us, hl with | [_, _, _, _, _], _ => rfl
  have T : Txt mg := {
    z_type := PySem.W.mg_none_of X G z_type
    z_str := PySem.W.mg_none_of X G z_str
    z_len := PySem.W.mg_none_of X G z_len
    z_all := PySem.W.mg_none_of X G z_all
    z_tuple := PySem.W.mg_none_of X G z_tuple
    z_list := PySem.W.mg_none_of X G z_list
    z_dict := PySem.W.mg_none_of X G z_dict
    z_set := PySem.W.mg_none_of X G z_set
    z_int := PySem.W.mg_none_of X G z_int
    z_max := PySem.W.mg_none_of X G z_max
    z_sum := PySem.W.mg_none_of X G z_sum
    z_range := PySem.W.mg_none_of X G z_range
    z_reversed := PySem.W.mg_none_of X G z_reversed
    z_isinstance := PySem.W.mg_none_of X G z_isinstance
    z_bool := PySem.W.mg_none_of X G z_bool
    z_sorted := PySem.W.mg_none_of X G z_sorted
    z_enumerate := PySem.W.mg_none_of X G z_enumerate }
  refine ⟨PySem.W.fnOf "law" "law" (defArgs s_law) (defBody s_law) (defScope s_law) .none kV36 dc36 pm36 an36 cd36 ct36, fun s v => .of_eq rfl, fun base _ _ TB => ?_⟩
  have c_pair := ok_is_pair (P := l.prog) (w := w) (base := base) D_is_pair T
  have c_index := ok_is_index (P := l.prog) (w := w) (base := base) D_is_index T
  have c_hk := ok_head_kind D_head_kind T c_pair c_index
  have c_form := ok_form D_has_term_form T c_index
  have c_it := ok_is_term D_is_term T c_form c_hk
  have c_fill := ok_fill (P := l.prog) (w := w) (base := base) D_law_fill T
  have c_take := ok_take D_law_take T c_fill
  have c_start := ok_start (P := l.prog) (w := w) (base := base) D_law_start T
  have c_kind : ∀ n, Cal l.prog w K mg base "_law_kind" ["c", "high"] (2 + n) (spKind n) := by
    intro n
    induction n with
    | zero =>
      refine Df.no D_law_kind fun vs H Q E q => ?_
      obtain ⟨_, _, _, _, hn, _⟩ := q
      exact absurd hn (Nat.not_lt_zero _)
    | succ n ih => exact ok_kind0 D_law_kind T (Nat.le_add_right 2 n) c_take ih
  have c_lint := ok_law_is_int (P := l.prog) (w := w) (base := base) D_law_is_int T
  have c_needed := ok_needed D_law_needed T c_lint
  have c_lit : ∀ n, Cal l.prog w K mg base "_law_is_term" ["signature", "holes", "prefix", "kind", "value"] (2 + n) (spIsTermL n) := by
    intro n
    induction n with
    | zero =>
      refine Df.no D_law_is_term fun vs H Q E q => ?_
      unfold spIsTermL at q
      obtain ⟨sv, hv, pv, kv, v, sg, hs, own, k, d, W, q⟩ := q
      simp only [Nat.not_lt_zero, false_and, and_false] at q
    | succ n ih => exact ok_law_is_term0 D_law_is_term T (Nat.le_add_right 2 n) c_lint c_needed ih
  have c_sig := ok_signature D_law_signature T c_take
  have c_prefix := ok_prefix D_law_prefix T (c_take.mono (by decide)) ((c_kind 4).mono (by decide))
  have c_heads := ok_heads (P := l.prog) (w := w) (base := base) D_law_heads T
  have c_term : ∀ n, Cal l.prog w K mg base "_law_term" ["c", "signature", "holes", "prefix", "kind", "depth"] (2 + n) (spTerm n) := by
    intro n
    induction n with
    | zero =>
      refine Df.no D_law_term fun vs H Q E q => ?_
      unfold spTerm at q
      obtain ⟨c, a, sv, hv, pv, kv, depth, sg, hs, own, k, q⟩ := q
      simp only [Nat.not_lt_zero, false_and, and_false] at q
    | succ n ih => exact ok_law_term0 D_law_term T (Nat.le_add_right 2 n) c_take c_heads ih
  have c_long : ∀ n, Cal l.prog w K mg base "_law_long" ["head", "kind"] n (spLong n) := by
    intro n
    induction n with
    | zero =>
      refine Df.no D_law_long fun vs H Q E q => ?_
      obtain ⟨_, _, _, _, _, _, _, _, _, hn, _⟩ := q
      exact absurd hn (Nat.not_lt_zero _)
    | succ n ih => exact ok_law_long0 D_law_long T ih
  have c_places := ok_places (P := l.prog) (w := w) (base := base) D_places T
  have c_raised := ok_raised (P := l.prog) (w := w) (base := base) D_raised_head T
  have c_islg : ∀ n, Cal l.prog w K mg base "is_long" ["term", "head"] (1 + n) (spIsLg n) := by
    intro n
    induction n with
    | zero =>
      refine Df.no D_is_long fun vs H Q E q => ?_
      unfold spIsLg at q
      obtain ⟨v, hv, d, h, q⟩ := q
      simp only [Nat.not_lt_zero, false_and, and_false] at q
    | succ n ih => exact ok_is_lg0 D_is_long T (Nat.le_add_right 1 n) c_raised ih
  have c_lhB := ok_lhB (k := 92) D_long_head T (by decide) c_raised (c_islg 91)
  have c_row := ok_row D_is_binder_row T c_lhB
  have c_size := ok_size D_size T c_places
  have c_pform := ok_pat_form D_has_pattern_form T (by decide) c_places c_row
  have c_ispat := ok_is_pattern D_is_pattern T c_pform
  have c_lsize : ∀ n, Cal l.prog w K mg base "_law_size" ["term"] n (spLSize n) := by
    intro n
    induction n with
    | zero =>
      refine Df.no D_law_size fun vs H Q E q => ?_
      obtain ⟨_, _, _, _, _, hn, _⟩ := q
      exact absurd hn (Nat.not_lt_zero _)
    | succ n ih => exact ok_lsize0 D_law_size T ih
  have c_numG := ok_numG (P := l.prog) (w := w) (base := base) D_law_number T
  have c_least := ok_least (P := l.prog) (w := w) (base := base) D_law_least T
  have c_choice := ok_choice D_law_choice T c_take
  have c_drawn : ∀ n, Cal l.prog w K mg base "_law_drawn" ["c", "signature", "holes", "prefix", "kind", "depth"] (20 + n) (spDrawn n) := by
    intro n
    induction n with
    | zero =>
      refine Df.no D_law_drawn fun vs H Q E q => ?_
      unfold spDrawn at q
      obtain ⟨c, a, sv, hv, pv, kv, depth, sg, hs, own, k, q⟩ := q
      simp only [Nat.not_lt_zero, false_and, and_false] at q
    | succ n ih => exact ok_law_drawn0 D_law_drawn T (Nat.le_trans (by decide : 2 ≤ 20) (Nat.le_add_right 20 n)) c_take c_heads (Nat.le_add_right 20 n) c_choice c_least (c_long 20) ih
  have c_lpat : ∀ n, Cal l.prog w K mg base "_law_is_pattern" ["signature", "holes", "prefix", "kind", "term"] (20 + n) (spPatL n) := by
    intro n
    induction n with
    | zero =>
      refine Df.no D_law_is_pattern fun vs H Q E q => ?_
      unfold spPatL at q
      obtain ⟨sv, hv, pv, kv, v, sg, hs, own, k, d, q⟩ := q
      simp only [Nat.not_lt_zero, false_and, and_false] at q
    | succ n ih => exact ok_lpat0 D_law_is_pattern T (c_needed.mono (Nat.le_trans (by decide : 2 ≤ 20) (Nat.le_add_right 20 n))) (c_numG.mono (Nat.le_trans (by decide : 1 ≤ 20) (Nat.le_add_right 20 n))) ((c_long 20).mono (Nat.le_add_right 20 n)) ih
  have dp1 : ∀ d : D, 1 ≤ d.dp := fun d => by cases d <;> first | exact Nat.le_refl 1 | (rw [D.dp]; omega)
  have c_nodes : ∀ n, Cal l.prog w K mg base "_law_nodes_of" ["value", "found"] n (spNodes n) := by
    intro n
    induction n with
    | zero =>
      refine Df.no D_law_nodes_of fun vs H Q E q => ?_
      obtain ⟨v, d, f, xs, W, _, _, _, hn, _⟩ := q
      have := dp1 d
      omega
    | succ n ih => exact ok_nodes D_law_nodes_of T ih
  have c_changed : ∀ n, Cal l.prog w K mg base "_law_changed" ["value", "box", "other"] n (spChanged n) := by
    intro n
    induction n with
    | zero =>
      refine Df.no D_law_changed fun vs H Q E q => ?_
      obtain ⟨v, d, b, k, o, e, W, _, _, _, hn, _⟩ := q
      have := dp1 d
      omega
    | succ n ih => exact ok_changed D_law_changed T ih
  have c_high := ok_high (P := l.prog) (w := w) (base := base) D_law_high T
  have c_spoilt := ok_spoilt D_law_spoilt T ((c_nodes 91).mono (by decide)) (c_take.mono (by decide)) (c_lint.mono (by decide)) ((c_changed 91).mono (by decide)) (c_high.mono (by decide))
  exact ok_law (fun_mk (st := s_law) l36 c36 k36) T (c_start.mono (by decide)) (c_sig.mono (by decide)) ((c_kind 4).mono (by decide)) (c_take.mono (by decide)) (c_prefix.mono (by decide)) ((c_drawn 7).mono (by decide)) ((c_term 7).mono (by decide)) (c_size.mono (by decide)) ((c_lsize 60).mono (by decide)) (c_it.mono (by decide)) ((c_lit 91).mono (by decide)) (c_ispat.mono (by decide)) ((c_lpat 91).mono (by decide)) (c_spoilt.mono (by decide))
end K02
open PySem PySem.W PyProof.Rows
set_option maxRecDepth 100000 in
set_option maxHeartbeats 0 in
theorem PySem.Challenge.cw_lacuna_k02_what_is_a_term_holds : PySem.Challenge.rw_lacuna_k02_what_is_a_term.Holds := by
  w_on; o_law; k_head; (case hw => w_witness2)
  k_fill
  refine LamX.walk_ofTs (n := 63) (k := 130) (x := "script") (CX := fun _ => L2.CX0) rfl (by decide) rfl ⟨rfl, by decide, by decide⟩ (fun w h Y => PySem.W.kIn_of Y) ?F (fun _ _ _ _ _ z => z)
  case F =>
    intro w mg fa h Y KX G hmg
    refine Lc.at_head (L := K02.tabL) (sp := @K02.spLaw (Lc.tbsOf K02.tabL) _) ?hT ?nT ?C (fun H a ns hl tb hS => ⟨a, ns, rfl, hS, hl, tb, fun _ => rfl⟩) ?G
    case hT => exact fun _ z => nomatch z
    case nT => exact fun _ z => nomatch z
    case C => exact fun _ z => nomatch z
    refine' K02.all_mk KX G hmg ?a1 ?l1 ?c1 ?k1 ?a2 ?l2 ?c2 ?k2 ?a3 ?l3 ?c3 ?k3 ?a4 ?l4 ?c4 ?k4 ?a5 ?l5 ?c5 ?k5 ?a6 ?l6 ?c6 ?k6 ?a7 ?l7 ?c7 ?k7 ?a8 ?l8 ?c8 ?k8 ?a9 ?l9 ?c9 ?k9 ?a10 ?l10 ?c10 ?k10 ?a11 ?l11 ?c11 ?k11 ?a12 ?l12 ?c12 ?k12 ?a13 ?l13 ?c13 ?k13 ?a14 ?l14 ?c14 ?k14 ?a15 ?l15 ?c15 ?k15 ?a16 ?l16 ?c16 ?k16 ?a17 ?l17 ?c17 ?k17 ?a18 ?l18 ?c18 ?k18 ?a19 ?l19 ?c19 ?k19 ?a20 ?l20 ?c20 ?k20 ?a21 ?l21 ?c21 ?k21 ?a22 ?l22 ?c22 ?k22 ?a23 ?l23 ?c23 ?k23 ?a24 ?l24 ?c24 ?k24 ?a25 ?l25 ?c25 ?k25 ?a26 ?l26 ?c26 ?k26 ?a27 ?l27 ?c27 ?k27 ?a28 ?l28 ?c28 ?k28 ?a29 ?l29 ?c29 ?k29 ?a30 ?l30 ?c30 ?k30 ?a31 ?l31 ?c31 ?k31 ?a32 ?l32 ?c32 ?k32 ?a33 ?l33 ?c33 ?k33 ?a34 ?l34 ?c34 ?k34 ?a35 ?l35 ?c35 ?k35 ?a36 ?l36 ?c36 ?k36   ?z_type ?z_str ?z_len ?z_all ?z_tuple ?z_list ?z_dict ?z_set ?z_int ?z_max ?z_sum ?z_range ?z_reversed ?z_isinstance ?z_bool ?z_sorted ?z_enumerate
    (case a1 => k_is)
    (case l1 => k_is)
    (case c1 => k_is)
    (case k1 => k_is)
    (case a2 => k_is)
    (case l2 => k_is)
    (case c2 => k_is)
    (case k2 => k_is)
    (case a3 => k_is)
    (case l3 => k_is)
    (case c3 => k_is)
    (case k3 => k_is)
    (case a4 => k_is)
    (case l4 => k_is)
    (case c4 => k_is)
    (case k4 => k_is)
    (case a5 => k_is)
    (case l5 => k_is)
    (case c5 => k_is)
    (case k5 => k_is)
    (case a6 => k_is)
    (case l6 => k_is)
    (case c6 => k_is)
    (case k6 => k_is)
    (case a7 => k_is)
    (case l7 => k_is)
    (case c7 => k_is)
    (case k7 => k_is)
    (case a8 => k_is)
    (case l8 => k_is)
    (case c8 => k_is)
    (case k8 => k_is)
    (case a9 => k_is)
    (case l9 => k_is)
    (case c9 => k_is)
    (case k9 => k_is)
    (case a10 => k_is)
    (case l10 => k_is)
    (case c10 => k_is)
    (case k10 => k_is)
    (case a11 => k_is)
    (case l11 => k_is)
    (case c11 => k_is)
    (case k11 => k_is)
    (case a12 => k_is)
    (case l12 => k_is)
    (case c12 => k_is)
    (case k12 => k_is)
    (case a13 => k_is)
    (case l13 => k_is)
    (case c13 => k_is)
    (case k13 => k_is)
    (case a14 => k_is)
    (case l14 => k_is)
    (case c14 => k_is)
    (case k14 => k_is)
    (case a15 => k_is)
    (case l15 => k_is)
    (case c15 => k_is)
    (case k15 => k_is)
    (case a16 => k_is)
    (case l16 => k_is)
    (case c16 => k_is)
    (case k16 => k_is)
    (case a17 => k_is)
    (case l17 => k_is)
    (case c17 => k_is)
    (case k17 => k_is)
    (case a18 => k_is)
    (case l18 => k_is)
    (case c18 => k_is)
    (case k18 => k_is)
    (case a19 => k_is)
    (case l19 => k_is)
    (case c19 => k_is)
    (case k19 => k_is)
    (case a20 => k_is)
    (case l20 => k_is)
    (case c20 => k_is)
    (case k20 => k_is)
    (case a21 => k_is)
    (case l21 => k_is)
    (case c21 => k_is)
    (case k21 => k_is)
    (case a22 => k_is)
    (case l22 => k_is)
    (case c22 => k_is)
    (case k22 => k_is)
    (case a23 => k_is)
    (case l23 => k_is)
    (case c23 => k_is)
    (case k23 => k_is)
    (case a24 => k_is)
    (case l24 => k_is)
    (case c24 => k_is)
    (case k24 => k_is)
    (case a25 => k_is)
    (case l25 => k_is)
    (case c25 => k_is)
    (case k25 => k_is)
    (case a26 => k_is)
    (case l26 => k_is)
    (case c26 => k_is)
    (case k26 => k_is)
    (case a27 => k_is)
    (case l27 => k_is)
    (case c27 => k_is)
    (case k27 => k_is)
    (case a28 => k_is)
    (case l28 => k_is)
    (case c28 => k_is)
    (case k28 => k_is)
    (case a29 => k_is)
    (case l29 => k_is)
    (case c29 => k_is)
    (case k29 => k_is)
    (case a30 => k_is)
    (case l30 => k_is)
    (case c30 => k_is)
    (case k30 => k_is)
    (case a31 => k_is)
    (case l31 => k_is)
    (case c31 => k_is)
    (case k31 => k_is)
    (case a32 => k_is)
    (case l32 => k_is)
    (case c32 => k_is)
    (case k32 => k_is)
    (case a33 => k_is)
    (case l33 => k_is)
    (case c33 => k_is)
    (case k33 => k_is)
    (case a34 => k_is)
    (case l34 => k_is)
    (case c34 => k_is)
    (case k34 => k_is)
    (case a35 => k_is)
    (case l35 => k_is)
    (case c35 => k_is)
    (case k35 => k_is)
    (case a36 => k_is)
    (case l36 => k_is)
    (case c36 => k_is)
    (case k36 => k_is)
    (case z_type => k_is)
    (case z_str => k_is)
    (case z_len => k_is)
    (case z_all => k_is)
    (case z_tuple => k_is)
    (case z_list => k_is)
    (case z_dict => k_is)
    (case z_set => k_is)
    (case z_int => k_is)
    (case z_max => k_is)
    (case z_sum => k_is)
    (case z_range => k_is)
    (case z_reversed => k_is)
    (case z_isinstance => k_is)
    (case z_bool => k_is)
    (case z_sorted => k_is)
    (case z_enumerate => k_is)
