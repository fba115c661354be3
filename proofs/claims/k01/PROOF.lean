import PyProof.Rows.All
import Wide.All
import OpenK.AllK
import Wide.FinOn
import HandS.ForMost
import HandS.IsInst
import HandS.TupAny
import HandS.Style
import HandS.More
import HandS.SetKeys
import HandS.Strs
import HandS.Walk
import HandS.Evl
import KE.KxText
import PySem.Challenge.RW_lacuna_k01_types_and_signatures
set_option Elab.async false
set_option maxRecDepth 100000
set_option linter.all false
set_option maxHeartbeats 4000000
section
/-! Lacuna: what all laws' proofs share. Data (nested tuples), what is kept of a heap, calls, readings. -/
namespace Lc
open PySem L2 PyProof.Rows PySem.Spec

/-! ### data: nested tuples of None, truth values, ints, texts -/
inductive D where
  | non | bl (b : Bool) | int (i : Int) | str (x : Str) | tup (xs : List D)

mutual
/-- the value v bears the datum in the heap H -/
def Dt (H : Hp) : D → V → Prop
  | .non, v => v = .non
  | .bl b, v => v = .bl b
  | .int i, v => v = .int i
  | .str x, v => v = .str x
  | .tup ds, v => ∃ a xs, v = .ref a ∧ H a = some (.tup xs) ∧ Dts H ds xs
def Dts (H : Hp) : List D → List V → Prop
  | [], xs => xs = []
  | d :: ds, xs => ∃ x r, xs = x :: r ∧ Dt H d x ∧ Dts H ds r
end

/-- tuples stay -/
def KeepT (H H' : Hp) : Prop := ∀ a xs, H a = some (.tup xs) → H' a = some (.tup xs)
mutual
theorem Dt.mono {H H' : Hp} (k : KeepT H H') : ∀ {d : D} {v : V}, Dt H d v → Dt H' d v
  | .non, _, h => h
  | .bl _, _, h => h
  | .int _, _, h => h
  | .str _, _, h => h
  | .tup ds, _, h => by
    obtain ⟨a, xs, e, ha, hs⟩ := h
    exact ⟨a, xs, e, k a xs ha, Dts.mono k hs⟩
theorem Dts.mono {H H' : Hp} (k : KeepT H H') : ∀ {ds : List D} {xs : List V}, Dts H ds xs → Dts H' ds xs
  | [], _, h => h
  | _ :: _, _, h => by
    obtain ⟨x, r, e, h1, h2⟩ := h
    exact ⟨x, r, e, Dt.mono k h1, Dts.mono k h2⟩
end
theorem Dts.len {H : Hp} : ∀ {ds : List D} {xs : List V}, Dts H ds xs → xs.length = ds.length
  | [], _, h => by rw [show _ = [] from h]; rfl
  | _ :: _, _, h => by
    obtain ⟨x, r, rfl, _, h2⟩ := h
    rw [List.length_cons, List.length_cons, Dts.len h2]
theorem Dts.at {H : Hp} : ∀ {ds : List D} {xs : List V} {i : Nat} {x : V}, Dts H ds xs → xs[i]? = some x → ∃ d, ds[i]? = some d ∧ Dt H d x
  | [], _, i, x, h, e => by
    rw [show _ = [] from h] at e
    simp at e
  | d :: ds, _, 0, x, h, e => by
    obtain ⟨y, r, rfl, h1, _⟩ := h
    have e' : y = x := by simpa using e
    exact ⟨d, rfl, e' ▸ h1⟩
  | d :: ds, _, i + 1, x, h, e => by
    obtain ⟨y, r, rfl, _, h2⟩ := h
    exact Dts.at (i := i) h2 (by simpa using e)
theorem Dts.of {H : Hp} : ∀ {ds : List D} {xs : List V} {i : Nat} {d : D}, Dts H ds xs → ds[i]? = some d → ∃ x, xs[i]? = some x ∧ Dt H d x
  | [], _, i, x, h, e => by simp at e
  | d :: ds, _, 0, x, h, e => by
    obtain ⟨y, r, rfl, h1, _⟩ := h
    have e' : d = x := by simpa using e
    exact ⟨y, rfl, e' ▸ h1⟩
  | d :: ds, _, i + 1, x, h, e => by
    obtain ⟨y, r, rfl, _, h2⟩ := h
    obtain ⟨z, hz, q⟩ := Dts.of (i := i) (d := x) h2 (by simpa using e)
    exact ⟨z, by simpa using hz, q⟩
theorem Dts.nil {H : Hp} : Dts H [] [] := rfl
theorem Dts.cons {H : Hp} {d : D} {ds : List D} {x : V} {xs : List V} (h : Dt H d x) (t : Dts H ds xs) : Dts H (d :: ds) (x :: xs) := ⟨x, xs, rfl, h, t⟩
theorem Dts.app {H : Hp} : ∀ {ds es : List D} {xs ys : List V}, Dts H ds xs → Dts H es ys → Dts H (ds ++ es) (xs ++ ys)
  | [], _, _, _, h, t => by rw [show _ = [] from h]; exact t
  | _ :: _, _, _, _, h, t => by
    obtain ⟨x, r, rfl, h1, h2⟩ := h
    exact ⟨x, r ++ _, rfl, h1, Dts.app h2 t⟩
theorem Dts.snoc {H : Hp} {ds : List D} {xs : List V} {d : D} {x : V} (h : Dts H ds xs) (t : Dt H d x) : Dts H (ds ++ [d]) (xs ++ [x]) := h.app (.cons t .nil)
theorem Dts.drop {H : Hp} : ∀ {ds : List D} {xs : List V} (n : Nat), Dts H ds xs → Dts H (ds.drop n) (xs.drop n)
  | _, _, 0, h => h
  | [], _, _ + 1, h => by rw [show _ = [] from h]; rfl
  | _ :: _, _, n + 1, h => by
    obtain ⟨x, r, rfl, _, h2⟩ := h
    exact Dts.drop n h2
theorem Dts.take {H : Hp} : ∀ {ds : List D} {xs : List V} (n : Nat), Dts H ds xs → Dts H (ds.take n) (xs.take n)
  | _, _, 0, _ => rfl
  | [], _, _ + 1, h => by rw [show _ = [] from h]; rfl
  | _ :: _, _, n + 1, h => by
    obtain ⟨x, r, rfl, h1, h2⟩ := h
    exact ⟨x, r.take n, rfl, h1, Dts.take n h2⟩
theorem Dts.rev {H : Hp} : ∀ {ds : List D} {xs : List V}, Dts H ds xs → Dts H ds.reverse xs.reverse
  | [], _, h => by rw [show _ = [] from h]; rfl
  | _ :: _, _, h => by
    obtain ⟨x, r, rfl, h1, h2⟩ := h
    rw [List.reverse_cons, List.reverse_cons]
    exact (Dts.rev h2).snoc h1
theorem Dts.last {H : Hp} : ∀ {ds : List D} {xs : List V}, Dts H ds xs → xs ≠ [] → ∃ es e ys y, ds = es ++ [e] ∧ xs = ys ++ [y] ∧ Dts H es ys ∧ Dt H e y
  | [], _, h, n => absurd (show _ = [] from h) n
  | [d], _, h, _ => by
    obtain ⟨x, r, rfl, h1, h2⟩ := h
    cases (show r = [] from h2)
    exact ⟨[], d, [], x, rfl, rfl, rfl, h1⟩
  | d :: d2 :: ds, _, h, _ => by
    obtain ⟨x, r, rfl, h1, h2⟩ := h
    obtain ⟨es, e, ys, y, e1, rfl, h3, h4⟩ := Dts.last h2 (fun z => by rw [z] at h2; obtain ⟨_, _, q, _⟩ := h2; cases q)
    exact ⟨d :: es, e, x :: ys, y, by rw [e1]; rfl, rfl, .cons h1 h3, h4⟩
theorem Dts.mem {H : Hp} {ds : List D} {xs : List V} {x : V} (h : Dts H ds xs) (m : x ∈ xs) : ∃ d, d ∈ ds ∧ Dt H d x := by
  obtain ⟨i, hi⟩ := List.getElem?_of_mem m
  obtain ⟨d, e, q⟩ := h.at hi
  exact ⟨d, List.mem_of_getElem? e, q⟩
theorem Dt.tupI {H : Hp} {a : Addr} {xs : List V} {ds : List D} (h : H a = some (.tup xs)) (t : Dts H ds xs) : Dt H (.tup ds) (.ref a) := ⟨a, xs, rfl, h, t⟩

/-! ### kinds of data -/
def D.ty : D → String
  | .non => "NoneType" | .bl _ => "bool" | .int _ => "int" | .str _ => "str" | .tup _ => "tuple"
def D.isT : D → Bool
  | .tup _ => true | _ => false
def D.isS : D → Bool
  | .str _ => true | _ => false
def D.isB : D → Bool
  | .bl _ => true | _ => false
def D.isI : D → Bool
  | .int _ => true | .bl _ => true | _ => false
theorem Dt.tyB {K : PySem.W.Frag} {H : Hp} {d : D} {v : V} (h : Dt H d v) : TyB K H v d.ty := by
  cases d with
  | non => cases (show v = _ from h); exact .non
  | bl b => cases (show v = _ from h); exact .bl b
  | int i => cases (show v = _ from h); exact .int i
  | str x => cases (show v = _ from h); exact .str x
  | tup ds =>
    obtain ⟨a, xs, rfl, ha, _⟩ := h
    exact .tup (SqT.of ha)
theorem Dt.tyX {K : PySem.W.Frag} {H : Hp} {d : D} {v : V} (h : Dt H d v) : TyX K H v (.type d.ty) := by
  cases d with
  | non => cases (show v = _ from h); exact .base .non
  | bl b => cases (show v = _ from h); exact .base (.bl b)
  | int i => cases (show v = _ from h); exact .base (.int i)
  | str x => cases (show v = _ from h); exact .base (.str x)
  | tup ds =>
    obtain ⟨a, xs, rfl, ha, _⟩ := h
    exact .base (.tup ha)
theorem kit_tup (K : PySem.W.Frag) : ∀ d : D, PySem.W.kitOne K (.type d.ty) (.type "tuple") = some d.isT
  | .non => kit_ty (show kitB "NoneType" "tuple" = some false by decide +kernel)
  | .bl _ => kit_ty (show kitB "bool" "tuple" = some false by decide +kernel)
  | .int _ => kit_ty (show kitB "int" "tuple" = some false by decide +kernel)
  | .str _ => kit_ty (show kitB "str" "tuple" = some false by decide +kernel)
  | .tup _ => kit_ty (show kitB "tuple" "tuple" = some true by decide +kernel)
theorem kit_str (K : PySem.W.Frag) : ∀ d : D, PySem.W.kitOne K (.type d.ty) (.type "str") = some d.isS
  | .non => kit_ty (show kitB "NoneType" "str" = some false by decide +kernel)
  | .bl _ => kit_ty (show kitB "bool" "str" = some false by decide +kernel)
  | .int _ => kit_ty (show kitB "int" "str" = some false by decide +kernel)
  | .str _ => kit_ty (show kitB "str" "str" = some true by decide +kernel)
  | .tup _ => kit_ty (show kitB "tuple" "str" = some false by decide +kernel)
theorem kit_bool (K : PySem.W.Frag) : ∀ d : D, PySem.W.kitOne K (.type d.ty) (.type "bool") = some d.isB
  | .non => kit_ty (show kitB "NoneType" "bool" = some false by decide +kernel)
  | .bl _ => kit_ty (show kitB "bool" "bool" = some true by decide +kernel)
  | .int _ => kit_ty (show kitB "int" "bool" = some false by decide +kernel)
  | .str _ => kit_ty (show kitB "str" "bool" = some false by decide +kernel)
  | .tup _ => kit_ty (show kitB "tuple" "bool" = some false by decide +kernel)
theorem kit_int (K : PySem.W.Frag) : ∀ d : D, PySem.W.kitOne K (.type d.ty) (.type "int") = some d.isI
  | .non => kit_ty (show kitB "NoneType" "int" = some false by decide +kernel)
  | .bl _ => kit_ty (show kitB "bool" "int" = some true by decide +kernel)
  | .int _ => kit_ty (show kitB "int" "int" = some true by decide +kernel)
  | .str _ => kit_ty (show kitB "str" "int" = some false by decide +kernel)
  | .tup _ => kit_ty (show kitB "tuple" "int" = some false by decide +kernel)
theorem ty_tup : ∀ d : D, decide (d.ty = "tuple") = d.isT
  | .non => show decide (("NoneType" : String) = "tuple") = false by decide +kernel
  | .bl _ => show decide (("bool" : String) = "tuple") = false by decide +kernel
  | .int _ => show decide (("int" : String) = "tuple") = false by decide +kernel
  | .str _ => show decide (("str" : String) = "tuple") = false by decide +kernel
  | .tup _ => show decide (("tuple" : String) = "tuple") = true by decide +kernel
theorem ty_str : ∀ d : D, decide (d.ty = "str") = d.isS
  | .non => show decide (("NoneType" : String) = "str") = false by decide +kernel
  | .bl _ => show decide (("bool" : String) = "str") = false by decide +kernel
  | .int _ => show decide (("int" : String) = "str") = false by decide +kernel
  | .str _ => show decide (("str" : String) = "str") = true by decide +kernel
  | .tup _ => show decide (("tuple" : String) = "str") = false by decide +kernel
theorem ty_int : ∀ d : D, decide (d.ty = "int") = (d.isI && !d.isB)
  | .non => show decide (("NoneType" : String) = "int") = false by decide +kernel
  | .bl _ => show decide (("bool" : String) = "int") = false by decide +kernel
  | .int _ => show decide (("int" : String) = "int") = true by decide +kernel
  | .str _ => show decide (("str" : String) = "int") = false by decide +kernel
  | .tup _ => show decide (("tuple" : String) = "int") = false by decide +kernel
theorem D.tup_of {d : D} (h : d.isT = true) : ∃ xs, d = .tup xs := by
  cases d <;> first | exact ⟨_, rfl⟩ | cases h
theorem D.str_of {d : D} (h : d.isS = true) : ∃ x, d = .str x := by
  cases d <;> first | exact ⟨_, rfl⟩ | cases h
theorem Dt.tup {H : Hp} {ds : List D} {v : V} (h : Dt H (.tup ds) v) : ∃ a xs, v = .ref a ∧ H a = some (.tup xs) ∧ Dts H ds xs := h
theorem Dt.str {H : Hp} {x : Str} {v : V} (h : Dt H (.str x) v) : v = .str x := h
theorem Dt.int {H : Hp} {x : Int} {v : V} (h : Dt H (.int x) v) : v = .int x := h

/-! ### what is kept: all but the objects at l -/
def Kp (l : List Addr) (H H' : Hp) : Prop := ∀ b o, b ∉ l → H b = some o → H' b = some o
theorem Kp.refl (l : List Addr) (H : Hp) : Kp l H H := fun _ _ _ h => h
theorem Kp.trans {l : List Addr} {H H1 H2 : Hp} (a : Kp l H H1) (b : Kp l H1 H2) : Kp l H H2 := fun c o n h => b c o n (a c o n h)
theorem Kp.wide {l l' : List Addr} {H H' : Hp} (a : Kp l H H') (s : ∀ b ∈ l, b ∈ l') : Kp l' H H' := fun c o n h => a c o (fun z => n (s c z)) h
theorem Kp.of0 {l : List Addr} {H H' : Hp} (a : Kp [] H H') : Kp l H H' := a.wide fun _ z => nomatch z
theorem Kp.up {l : List Addr} {H H1 : Hp} {p : Addr} {o : HO} (a : Kp l H H1) (n : H1 p = none) : Kp l H (upd H1 p o) := fun c u m h => by
  have q := a c u m h
  rw [upd_ne (ne_of_none q n)]
  exact q
theorem Kp.at {l : List Addr} {H H1 : Hp} {p : Addr} {o : HO} (a : Kp l H H1) (m : p ∈ l) : Kp l H (upd H1 p o) := fun c u n h => by
  rw [upd_ne fun z => n (by rw [z]; exact m)]
  exact a c u n h
/-- an object that is younger than H changes -/
theorem Kp.own {l : List Addr} {H H1 : Hp} {p : Addr} {o : HO} (a : Kp l H H1) (n : H p = none) : Kp l H (upd H1 p o) := fun c u m h => by
  rw [upd_ne (ne_of_none h n)]
  exact a c u m h
/-- .. of an object that is younger, with more kept than asked -/
theorem Kp.own1 {c : Addr} {H H1 : Hp} {p : Addr} {o : HO} (a : Kp [c] H H1) (n : H p = Option.none) : Kp [c] H (upd H1 p o) := a.own n
/-- .. or changes within a call -/
theorem Kp.drop {p : Addr} {l : List Addr} {H H1 : Hp} (a : Kp (p :: l) H H1) (n : H p = none) : Kp l H H1 := fun c u m h =>
  a c u (fun z => by
    rcases List.mem_cons.mp z with e | e
    · rw [e, n] at h; cases h
    · exact m e) h
theorem Kp.none {H H1 : Hp} {p : Addr} (a : Kp [] H H1) (n : H1 p = Option.none) : H p = Option.none := by
  cases q : H p with
  | none => rfl
  | some o =>
    rw [a p o (fun z => nomatch z) q] at n
    cases n
theorem Kp.noneL {l : List Addr} {H H1 : Hp} {p : Addr} (a : Kp l H H1) (m : p ∉ l) (n : H1 p = Option.none) : H p = Option.none := by
  cases q : H p with
  | none => rfl
  | some o =>
    rw [a p o m q] at n
    cases n
theorem Kp.get {H H' : Hp} {b : Addr} {o : HO} (a : Kp [] H H') (h : H b = some o) : H' b = some o := a b o (fun z => nomatch z) h
theorem Kp.t0 {H H' : Hp} (a : Kp [] H H') : KeepT H H' := fun b xs h => a b _ (fun z => nomatch z) h
/-- at c there is no tuple -/
def NoT (H : Hp) (c : Addr) : Prop := ∀ xs, H c ≠ some (.tup xs)
theorem NoT.lst {H : Hp} {c : Addr} {xs : List V} (h : H c = some (.lst xs)) : NoT H c := fun ys e => by rw [h] at e; cases e
theorem Kp.t1 {H H' : Hp} {c : Addr} (a : Kp [c] H H') (n : NoT H c) : KeepT H H' := fun b xs h => a b _ (fun z => by
  rw [List.mem_singleton.mp z] at h
  exact n xs h) h
theorem Kp.tl {l : List Addr} {H H' : Hp} (a : Kp l H H') (n : ∀ c ∈ l, NoT H c) : KeepT H H' := fun b xs h => a b _ (fun z => n b z xs h) h
theorem KeepT.trans {H H1 H2 : Hp} (a : KeepT H H1) (b : KeepT H1 H2) : KeepT H H2 := fun c xs h => b c xs (a c xs h)

theorem at_last {α : Type} (xs : List α) (x : α) : (xs ++ [x])[(xs ++ [x]).length - 1]? = some x := by
  rw [List.length_append, List.length_singleton, Nat.add_sub_cancel, List.getElem?_append_right (Nat.le_refl _), Nat.sub_self]
  rfl
theorem drop_last {α : Type} (xs : List α) (x : α) : (xs ++ [x]).dropLast = xs := by simp

/-! ### defs of the text and calls of them -/
/-- the def stands where the text says -/
structure Df (K : PySem.W.Frag) (mg : Str → Option Value) (x : Str) (st : Stmt) (ps : List Str) : Prop where
  ex : ∃ f fd, Fun K x x st f fd ∧ Binds K fd ps [] ∧ mg x = some (.ref f)
/-- the def of this name keeps the promise -/
structure Cal (P : Program) (w : World) (K : PySem.W.Frag) (mg : Str → Option Value) (base : Heap) (x : Str) (ps : List Str) (k : Nat) (sp : Sp) : Prop where
  ex : ∃ f fd, FnOk P w K mg base CX0 k f fd ps sp ∧ Binds K fd ps [] ∧ mg x = some (.ref f) ∧ PySem.W.keepIn K (.ref f) = true
section
variable {P : Program} {w : World} {K : PySem.W.Frag} {mg : Str → Option Value} {base : Heap} {x : Str} {ps N : List Str} {k j : Nat} {sp sp' : Sp} {st : Stmt}
theorem Cal.mono (c : Cal P w K mg base x ps j sp) (h : j ≤ k) : Cal P w K mg base x ps k sp := by
  obtain ⟨f, fd, a, b, c, d⟩ := c.ex
  exact ⟨f, fd, a.mono h, b, c, d⟩
theorem Df.ok (d : Df K mg x st ps) (S : FnScope N ps (defScope st)) (len : ∀ vs H Q E, sp vs H Q E → vs.length = ps.length)
    (hbody : ∀ (f : Addr) (cdv : Value) (A : Around) (outer : List Env) (s : Shared) (H : Hp) (vs : List V) (Q : VK) (E : XK), Room k (A.deeper (envOfC x (defScope st) s.heap.objs.size f cdv)) → sp vs H Q E →
      ∃ t, PSs (cxOf CX0 P w K mg base N x (defScope st) f cdv A outer s H E).nox (defBody st) t ∧ t { nx := fun _ H' => Q .non H', rt := Q } (start N vs) H) : Cal P w K mg base x ps (k + 1) sp := by
  obtain ⟨f, fd, F, b, m⟩ := d.ex
  exact ⟨f, fd, F.ok S len fun cdv A outer s H vs Q E => hbody f cdv A outer s H vs Q E, b, m, F.kp⟩
/-- nothing can be asked of it -/
theorem Df.no (d : Df K mg x st ps) (h : ∀ vs H Q E, ¬ sp vs H Q E) : Cal P w K mg base x ps k sp := by
  obtain ⟨f, fd, F, b, m⟩ := d.ex
  exact ⟨f, fd, ⟨fun vs H Q E q => absurd q (h vs H Q E), fun A outer s H args us vs Q E _ _ _ _ q => absurd q (h vs H Q E)⟩, b, m, F.kp⟩
end
section
variable {X : Cx} {x : Str} {ps : List Str} {k : Nat} {sp : Sp} {p pos : Pos} {e : Expr} {es : List Expr} {t : TA}
theorem pe_cal (c : Cal X.prog X.w X.K X.mg X.base x ps k sp) (hr : Room k X.A) (hg : Gl X x) (ha : PA X (e :: es) t) (hdb : (x == ("__debug__" : Str)) = false := by decide)
    (he : starEach (e :: es) X.env = (false, eval e X.env) :: starEach es X.env := by rfl) (hpl : (backTo pos (starEach es X.env)).any (·.1) = false := by rfl) : PE X (.Call (.Name x p) (e :: es) [] pos) (tCall sp [] E0 t) := by
  obtain ⟨f, fd, a, b, m, d⟩ := c.ex
  exact pe_call a hr hg m d b .nil pass0 ha hdb he hpl
end

/-! ### list.extend with a tuple -/
theorem ext_tup (l b : Addr) (xs ys : Array Value) (n m : Nat) (dd : Option Addr) (sl : Array (Option Value)) (g : ¬ (!xs.isEmpty && Builtin.List.listTooLong (xs.size + ys.size)) = true) (z : xs.size ≤ sizeLine) (z2 : xs.size + ys.size ≤ sizeLine) :
    Meets (Builtin.«list.extend» ⟨[.ref l, .ref b], []⟩) (fun _ R s => (s.heap.get? l = some ⟨.type "list", none, .seq xs n, #[]⟩ ∧ s.heap.get? b = some ⟨.type "tuple", dd, .seq ys m, sl⟩) ∧
      R (.ok (.ret Value.none)) { s with heap := s.heap.update l (Obj.mapSeq fun x => x ++ ys), toks := s.toks }) := by
  refine .of_wp fun prog w A R s h => ?_
  obtain ⟨heap, gens, dr, tk, os⟩ := s
  obtain ⟨⟨e1, e2⟩, h⟩ := h
  have i1 := AutoSeq1.idx_int
  have i2 := AutoSeq1.sub_tuple_tuple
  have i3 := AutoSeq1.sub_list_list
  have i4 := AutoSeq1.sub_tuple_list
  have i5 := AutoSeq1.sub_list_tuple
  have room : (xs ++ ys).size ≤ sizeLine + 1 := by
    rw [Array.size_append]
    omega
  wp_walk using (wpAny_updateSeq e1 rfl (hz := z) (_hz' := room)), AutoSeq1.wpAny_loadPart' e1, AutoSeq1.wpAny_loadPart' e2
  exact ⟨_, rfl, h⟩
section
variable {X : Cx}
def rExtT (K : PySem.W.Frag) : V → List V → Hp → VK → Prop := fun x vs H Q => ∃ l b xs zs, x = .ref l ∧ vs = [.ref b] ∧ H l = some (.lst xs) ∧ SqT K H b zs ∧ xs.length + zs.length ≤ sizeLine ∧ Q .non (upd H l (.lst (xs ++ zs)))
theorem mt_extT : MtM X "list.extend" (rExtT X.K) := fun pins s σ H x vs v us Q I rx rv h => by
  obtain ⟨l, b, xs, zs, rfl, rfl, hH, hB, hz, q⟩ := h
  cases rx
  obtain ⟨u, rfl, ru⟩ := rv.one
  cases ru
  obtain ⟨z, its, n, r, hl, e⟩ := I.lstM hH
  obtain ⟨its2, r2, ⟨⟨oc, od, oo, os⟩, e2, c2, n2, d2⟩, _⟩ := I.tuple hB
  cases (show oc = _ from c2)
  cases (show oo = _ from d2)
  have hl2 : zs.length = its2.length := r2.length
  have few : its.toArray.size + its2.toArray.size ≤ sizeLine := by
    rw [List.size_toArray, List.size_toArray]
    omega
  have g : ¬ (!its.toArray.isEmpty && Builtin.List.listTooLong (its.toArray.size + its2.toArray.size)) = true := by
    rw [notLongL few, Bool.and_false]
    decide
  refine call_meets F.slot_list_extend ⟨_, e, rfl⟩ F.entry_list_extend (F.args_list_extend_2 _ _) (ext_tup l b its.toArray its2.toArray n n2 od os g (by omega) few) ⟨⟨e, e2⟩, ?_⟩
  refine ⟨.non, _, I.lset (its' := its ++ its2) hH e (by simp) (r.append r2) ?_, rfl, q⟩
  rw [List.length_append]
  omega
end
end Lc
end

section
/-! len(set(xs)) of a list of any texts. -/
namespace Lc
open PySem L2 PyProof.Rows PySem.Spec

/-- the different ones among the first i, in the order of meeting -/
def got (xs : List Str) (i : Nat) : List Str := (xs.take i).foldl step_dedup []
/-- how many different ones there are -/
def diff (xs : List Str) : Nat := (got xs xs.length).length
theorem got_next {xs : List Str} {i : Nat} {x : Str} (h : xs[i]? = some x) : got xs (i + 1) = step_dedup (got xs i) x := by
  have e : xs.take (i + 1) = xs.take i ++ [x] := by
    rw [List.take_succ, h]
    rfl
  unfold got
  rw [e, List.foldl_append]
  rfl
theorem got_few (xs : List Str) (i : Nat) : (got xs i).length ≤ i := by
  have a := foldl_step_dedup_nil_length_le (xs.take i)
  have b := List.length_take_le i xs
  unfold got
  omega
theorem diff_le (xs : List Str) : diff xs ≤ xs.length := got_few xs xs.length
theorem dedup_has (l : List Str) (v k : Str) : (step_dedup l v).any (· == k) = (l.any (· == k) || decide (k = v)) := by
  have same : (v == k) = decide (k = v) := by
    by_cases e : k = v
    · rw [e, beq_self_eq_true, decide_eq_true rfl]
    · rw [decide_eq_false e]
      exact beq_eq_false_iff_ne.mpr fun z => e z.symm
  unfold step_dedup
  cases q : l.any (· == v) with
  | true =>
    rw [if_pos rfl]
    by_cases e : k = v
    · rw [e, q]
      rfl
    · rw [decide_eq_false e, Bool.or_false]
  | false =>
    rw [if_neg Bool.false_ne_true, List.any_append, List.any_cons, List.any_nil, Bool.or_false, same]
theorem dedup_len (l : List Str) (v : Str) : (step_dedup l v).length = if l.any (· == v) = true then l.length else l.length + 1 := by
  unfold step_dedup
  split
  · rfl
  · rw [List.length_append]
    rfl

section
variable {prog : Program} {w : World} {A : Around} {R : Result → Shared → Prop} {I : Addr} {fp wr : List Addr} {G : Array GenState → Array GenState → Prop} {n : Nat} {P : Nat → Value → Prop} {St : Nat → Shared → Prop}
abbrev TxtSet (prog : Program) (w : World) (h : Heap) (S : Addr) (l : List Str) : Prop := h.SetOf (PySem.strKind prog w) S (fun k => l.any (· == k)) l.length
theorem TxtSet.keep {h h' : Heap} {S : Addr} {l : List Str} (t : TxtSet prog w h S l) (k : ∀ o, h.get? S = some o → h'.get? S = some o) : TxtSet prog w h' S l := by
  obtain ⟨o, es, ep, tb, ho, r⟩ := t
  exact ⟨o, es, ep, tb, k o ho, r⟩
/-- the texts that are left go into the set -/
theorem fill_texts (W : WalksS prog w A.in1 I fp wr G n P St) {S : Addr} (away : S ∉ fp) {xs : List Str} (few : n + 1 < scanBound) (each : ∀ i v, P i v → ∃ x t, xs[i]? = some x ∧ v = .str x t) :
    ∀ (left i : Nat) (s : Shared), i + left = n → St i s → TxtSet prog w s.heap S (got xs i) →
      (∀ s', Moved (S :: wr) G s s' → TxtSet prog w s'.heap S (got xs n) → R (.ok (.ret .none)) s') → codeAny (model prog w) A (.builtin "set.update.loop" ⟨[.ref S, .ref I], []⟩) R s := by
  have out : S ∉ wr := fun z => away (W.sub _ z)
  have more : ∀ b ∈ wr, b ∈ S :: wr := fun b z => List.mem_cons_of_mem _ z
  intro left
  induction left with
  | zero =>
    intro i s e st have_ fin
    obtain rfl : i = n := e
    refine codeAny_builtin PyProof.Rows.F.entry_set_update_loop ?_
    rw [Around.under_plainId PyProof.Rows.F.plain_set_update_loop _]
    refine wpAny_bind (W.done s _ _ st fun s1 mv => ?_)
    exact wpAny_pure (fin s1 (mv.mono more) (have_.keep fun o => mv.heap S o out))
  | succ left ih =>
    intro i s e st have_ fin
    have lt : i < n := by omega
    refine codeAny_builtin PyProof.Rows.F.entry_set_update_loop ?_
    rw [Around.under_plainId PyProof.Rows.F.plain_set_update_loop _]
    refine wpAny_bind (W.item i s _ _ lt st fun v s1 pv st1 mv => ?_)
    obtain ⟨x, t, hx, rfl⟩ := each i v pv
    have have1 := have_.keep fun o => mv.heap S o out
    show wpAny _ A.in1 (holding [Value.str x t] (setAdd S (.str x t)) >>= _) _ _ s1
    refine wpAny_bind (wpAny_holding ?_)
    unfold setAdd
    refine wpAny_holding (wpAny_bind ((PySem.strKind prog w).pyHash (k := x) (strKind_is _ _ _ _) ?_))
    have room : (got xs i).length + 1 < scanBound := Nat.lt_of_le_of_lt (Nat.succ_le_succ (got_few xs i)) (by omega)
    refine wpAny_setAddHashed_of (knd := PySem.strKind prog w) (s := { s1 with toks := s1.toks + 1 }) (strKind_is _ _ _ _) rfl have1 room fun h2 but have2 => ?_
    have have3 : TxtSet prog w h2 S (got xs (i + 1)) := by
      rw [got_next hx]
      exact SetOf_congr have2 (fun k => (dedup_has _ x k).symm) (dedup_len _ x).symm
    have kept : ∀ b o, b ≠ S → s1.heap.get? b = some o → h2.get? b = some o := fun b o ne q => by
      rw [but.2 b ne]
      exact q
    refine wpAny_pure ⟨plainId_quiet PyProof.Rows.F.plain_set_update_loop _, ih (i + 1) _ (by omega) (W.frame _ s1 _ _ st1 (Nat.le_succ _) fun b m o q => kept b o (fun z => away (z ▸ m)) q) have3 fun s3 mv3 have4 => ?_⟩
    exact fin s3 (Moved.trans W.gtrans ((mv.mono more).then_heap (Nat.le_succ _) fun b o nm q => kept b o (fun z => nm (z ▸ List.mem_cons_self)) q) mv3) have4
end

section
variable {prog : Program} {w : World} {A : Around} {E : Value → Shared → Prop} {s : Shared}
abbrev freshSet (led : Bool) : Obj := { cls := .type "set", dict := none, data := .set #[] 0 (.fresh 0 0 led) }
set_option maxHeartbeats 4000000 in
/-- set(l) of a list of texts -/
theorem set_texts {l : Addr} {its : List Value} {xs : List Str} {Q : Value → Shared → Prop} (calm : A.handled = none) (hl : s.heap.IsList l its.toArray) (each : ∀ (i : Nat) v, its[i]? = some v → ∃ x t, xs[i]? = some x ∧ v = .str x t) (few : its.length + 1 < scanBound)
    (h : ∀ (h2 : Heap) (tk : Nat), TxtSet prog w h2 s.heap.objs.size (got xs its.length) → (∀ b o, b < s.heap.objs.size → s.heap.get? b = some o → h2.get? b = some o) → Q (.ref s.heap.objs.size) { s with heap := h2, toks := tk }) :
    wpAny (model prog w) A (call (.type "set") [.ref l]) Q E s := by
  obtain ⟨c, tl, hmro⟩ := PySem.F.called_set.mro
  have j1 := PySem.F.called_set.made
  have j2 := PySem.F.called_set.sub
  refine wpAny_call (codeAny_of_tree (wpAny_pure (s := s) ⟨Code.quiet_builtin _ (by decide +kernel), codeAny_builtin PySem.F.entry_type_call ?_⟩))
  rw [Around.under_plain (weight_type_call_type "set" [.ref l] []) rfl]
  have j3 := PySem.F.called_set.notType
  have j4 := PySem.F.called_set.canCreate
  have j5 := PySem.F.typeCall_set_1 (.ref l)
  repeat (any_goals (first | assumption | wp_step))
  refine codeAny_mono (code_set_new_1 (.ref l) (E := E) (Q₁ := fun o s1 => ∃ led : Bool, o = .ref s.heap.objs.size ∧ s1 = { s with heap := s.heap.push (freshSet led) }) fun led => ⟨led, rfl, rfl⟩) fun r s1 hr => ?_
  match r, hr with
  | .error e, hr => exact hr
  | .ok .next, hr => exact hr.elim
  | .ok .brk, hr => exact hr.elim
  | .ok .cont, hr => exact hr.elim
  | .ok (.ret o), hr =>
    obtain ⟨led, rfl, rfl⟩ := hr
    have new : (s.heap.push (freshSet led)).get? s.heap.objs.size = some (freshSet led) := Heap.get?_push_size _ rfl
    have isT : Shared.TypeIs { s with heap := s.heap.push (freshSet led) } (.ref s.heap.objs.size) "set" := ⟨_, new, rfl⟩
    have j6 := PySem.F.called_set.init.lookup
    have j7 := PySem.F.called_set.init.bind (.ref s.heap.objs.size)
    repeat (any_goals (first | assumption | wp_step))
    refine codeAny_mono (codeAny_call_builtin (R := wants (fun r s2 => r = .none ∧ ∃ h2 tk, s2 = { s with heap := h2, toks := tk } ∧ TxtSet prog w h2 s.heap.objs.size (got xs its.length) ∧ ∀ b o, b < s.heap.objs.size → s.heap.get? b = some o → h2.get? b = some o) E)
      PySem.F.called_set.init.plain PySem.F.entry_set_init (check_set_init_1 isT ?_)) fun r2 s2 hr2 => ?_
    · obtain ⟨⟨lc, ld, lo, ls⟩, el, c1, nl, d1⟩ := hl
      cases (show lc = _ from c1)
      cases (show lo = _ from d1)
      have el2 : (s.heap.push (freshSet led)).get? l = some ⟨.type "list", ld, .seq its.toArray nl, ls⟩ := Heap.get?_push_of_some _ el
      have j8 := PySem.F.sub_list_set
      have j9 := PySem.F.sub_list_frozenset
      have j10 : (Value.type "list" == Value.type "dict") = false := by decide
      have isL : (s.heap.push (freshSet led)).IsList l its.toArray := ⟨_, el2, rfl, nl, rfl⟩
      unfold Builtin.«set.__init__» noKeywords Builtin.Frozenset.updateFrom
      generalize hit : pyIter = It0
      wp_walk
      subst hit
      refine wpAny_pyIter_list isL (wpAny_bind (wpAny_runValue ?_))
      have lt : l < s.heap.objs.size := Heap.lt_size el
      have sz : (s.heap.push (freshSet led)).objs.size = s.heap.objs.size + 1 := Heap.size_push _ _
      have ne1 : l ≠ (s.heap.push (freshSet led)).objs.size := by
        rw [sz]
        exact Nat.ne_of_lt (Nat.lt_succ_of_lt lt)
      have away : s.heap.objs.size ∉ [(s.heap.push (freshSet led)).objs.size, l] := by
        rw [sz]
        simp only [List.mem_cons, List.not_mem_nil, or_false, not_or]
        exact ⟨Nat.ne_of_lt (Nat.lt_succ_self _), Nat.ne_of_gt lt⟩
      refine fill_texts ((Walks.list (by simp [calm]) _ l ne1 its.toArray).toS) away (by simpa using few) (fun i v q => each i v (by simpa using q)) its.toArray.size 0 _ (Nat.zero_add _) ⟨⟨_, Heap.get?_push_size _ rfl, rfl, rfl⟩, isL.push _⟩ ?_ fun s3 mv t3 => ?_
      · have at0 : ((s.heap.push (freshSet led)).push { cls := .type "list_iterator", data := .fields #[.ref l, .int 0 0] }).get? s.heap.objs.size = some (freshSet led) := Heap.get?_push_of_some _ new
        exact SetOf_congr ((setObjOf_fresh (knd := PySem.strKind prog w) led).setOf at0 (by decide)) (fun _ => rfl) rfl
      · obtain ⟨h3, g3, d3, tk3, os3⟩ := s3
        cases (show g3 = s.gens from mv.gens)
        cases (show d3 = s.drawn from mv.drawn)
        cases (show os3 = s.os from mv.os)
        refine wpAny_pure (wpAny_pure ⟨rfl, h3, tk3, rfl, by simpa using t3, fun b o hb q => ?_⟩)
        refine mv.heap b o ?_ (Heap.get?_push_of_some _ (Heap.get?_push_of_some _ q))
        rw [sz]
        simp only [List.mem_cons, List.not_mem_nil, or_false, not_or]
        exact ⟨Nat.ne_of_lt hb, Nat.ne_of_lt (Nat.lt_succ_of_lt hb)⟩
    · match r2, hr2 with
      | .error e, hr2 => exact hr2
      | .ok .next, hr2 => exact hr2.elim
      | .ok .brk, hr2 => exact hr2.elim
      | .ok .cont, hr2 => exact hr2.elim
      | .ok (.ret r), hr2 =>
        obtain ⟨rfl, h2, tk, rfl, t2, k2⟩ := hr2
        repeat (any_goals (first | assumption | wp_step))
        exact h _ _ t2 k2
end

section
variable {X : Cx}
/-- len(set(e)), e a list of texts -/
def tLenSetT (K : PySem.W.Frag) (ta : TE) : TE := fun σ H Q => ta σ H fun x H1 => ∃ l, ∃ xs : List Str, x = .ref l ∧ SqL K H1 l (xs.map V.str) ∧ xs.length < 4000 ∧ Q (.int (diff xs)) H1
theorem strs_each : ∀ {xs : List Str} {us : List Value}, Vals (xs.map V.str) us → ∀ (i : Nat) v, us[i]? = some v → ∃ x t, xs[i]? = some x ∧ v = .str x t
  | [], _, .nil, i, v, h => by simp at h
  | x :: xs, _, .cons r t, 0, v, h => by
    obtain ⟨k, rfl⟩ := r
    exact ⟨x, k, rfl, by simpa using h.symm⟩
  | x :: xs, _, .cons r t, i + 1, v, h => strs_each t i v (by simpa using h)
theorem pe_lenSetT {a : Expr} {ta : TE} {p p2 q pos : Pos} (hc : X.calm = true) (hg : Gl X "len") (hm : X.mg "len" = none) (hg2 : Gl X "set") (hm2 : X.mg "set" = none) (ha : PE X a ta)
    (na : starEach [a] X.env = (false, eval a X.env) :: starEach [] X.env := by rfl) : PE X (.Call (.Name "len" p) [.Call (.Name "set" p2) [a] [] q] [] pos) (tLenSetT X.K ta) := by
  constructor
  intro pins s σ H Q I h
  refine Call_ (ld_blt I hg hm boot_len (callWith_builtin1 (args_cons (Call_ (ld_blt I hg2 hm2 boot_set (callWith_type1 (args_cons (thn (ha.run pins s σ H _ I h) fun v s1 got1 => args_nil ?_) na) na rfl))) rfl) rfl rfl))
  obtain ⟨x, H1, I1, r1, l, xs, rfl, hq, few, q1⟩ := got1
  cases r1
  obtain ⟨its, r, pl, hz⟩ := I1.list hq
  have el : its.length = xs.length := by
    rw [← r.length, List.length_map]
  refine set_texts (I1.ok.hd hc) pl.isList (strs_each r) (by rw [el]; unfold scanBound; omega) fun h2 tk t2 k2 => args_nil ?_
  rw [el] at t2
  have le := diff_le xs
  obtain ⟨o, es, ep, t, ho, hex, hd, _, _, _, hf, hn⟩ := t2
  have I2 : Inv X pins σ H1 { s1 with heap := h2, toks := tk } := I1.kept fun b o e => k2 b o (Heap.lt_size e) e
  have hn2 : es.size = diff xs := hn
  exact call_len_set ho hex hd hf (by rw [hn2]; omega) ⟨.int (diff xs), H1, I2.tok _, ⟨_, by rw [hn2]⟩, q1⟩
end
end Lc
end

section
/-! Readings, one step a lemma. -/
namespace Lc
open PySem L2 PyProof.Rows PySem.Spec
section
variable {K : PySem.W.Frag} {σ : L2.St} {H : Hp} {Q : VK} {v x y : V} {ta tb te : TE} {T U : TT} {t u : TS} {g : TG} {D0 : Ends} {R : Bool → Hp → Prop} {A : TA} {W : List V → Hp → Prop}
theorem r_seq (h : t { D0 with nx := u D0 } σ H) : tSeq t u D0 σ H := h
theorem r_next (h : D0.nx σ H) : tNext D0 σ H := h
theorem r_mknx {a b c d} (h : a σ H) : (Ends.mk a b c d).nx σ H := h
theorem r_mkrt {a b c d} (h : b v H) : (Ends.mk a b c d).rt v H := h
theorem r_asg (h : te σ H fun x H1 => g x σ H1 D0.nx) : tAsg te g D0 σ H := h
theorem r_name {i : Nat} {N : L2.St → Hp → Prop} (h : N (σ.set i (some v)) H) : gName i v σ H N := h
theorem r_drop (h : te σ H fun _ H1 => D0.nx σ H1) : tDrop te D0 σ H := h
theorem r_ret (h : te σ H D0.rt) : tRet te D0 σ H := h
theorem r_if (h : T σ H fun b H1 => if b = true then t D0 σ H1 else u D0 σ H1) : tIfS T t u D0 σ H := h
theorem r_var {i : Nat} (e : σ[i]? = some (some v)) (h : Q v H) : tVar i σ H Q := ⟨v, e, h⟩
theorem r_c (h : Q v H) : tC v σ H Q := h
theorem r_op {r : R2} (h : ta σ H fun x H1 => tb σ H1 fun y H2 => r x y H2 Q) : tOp r ta tb σ H Q := h
theorem r_un {r : V → Hp → VK → Prop} (h : ta σ H fun x H1 => r x H1 Q) : tUn r ta σ H Q := h
theorem r_test (h : te σ H fun x H1 => ∃ k, x = .bl k ∧ R k H1) : tTest te σ H R := h
theorem r_tb (h : te σ H fun x H1 => ∃ k, x = .bl k ∧ R k H1) : tB te σ H R := h
theorem r_and (h : T σ H fun c H1 => if c = true then U σ H1 R else R false H1) : tAnd T U σ H R := h
theorem r_or (h : T σ H fun c H1 => if c = true then R true H1 else U σ H1 R) : tOr T U σ H R := h
theorem r_not (h : T σ H fun c H1 => R (!c) H1) : tNot T σ H R := h
theorem r_andV (h : ta σ H fun x H1 => ∃ c, x = .bl c ∧ if c = true then tb σ H1 Q else Q (.bl false) H1) : tAndV ta tb σ H Q := h
theorem r_orV (h : ta σ H fun x H1 => ∃ c, x = .bl c ∧ if c = true then Q (.bl true) H1 else tb σ H1 Q) : tOrV ta tb σ H Q := h
theorem r_notV (h : ta σ H fun x H1 => ∃ c, x = .bl c ∧ Q (.bl (!c)) H1) : tNotV ta σ H Q := h
theorem r_bl {c : Bool} {S : Bool → Prop} (h : S c) : ∃ k, V.bl c = V.bl k ∧ S k := ⟨c, rfl, h⟩
theorem r_cb {r : List V → Hp → VK → Prop} (h : A σ H fun vs H1 => r vs H1 Q) : tCB r A σ H Q := h
theorem r_cons (h : te σ H fun x H1 => A σ H1 fun xs H2 => W (x :: xs) H2) : tCons te A σ H W := h
theorem r_nil (h : W [] H) : tNil σ H W := h
/-- a tuple, a list of these is laid -/
def NewT (xs : List V) (H : Hp) (Q : VK) : Prop := xs.length ≤ sizeLine ∧ ∀ p, H p = none → Q (.ref p) (upd H p (.tup xs))
def NewL (xs : List V) (H : Hp) (Q : VK) : Prop := xs.length ≤ sizeLine ∧ ∀ p, H p = none → Q (.ref p) (upd H p (.lst xs))
theorem r_tup (h : A σ H fun xs H1 => NewT xs H1 Q) : tTup A σ H Q := h
theorem r_lst (h : A σ H fun xs H1 => NewL xs H1 Q) : tLst A σ H Q := h
theorem r_call {sp : Sp} {dvs : List V} {E : XK} (h : A σ H fun vs H1 => sp (vs ++ dvs) H1 Q E) : tCall sp dvs E A σ H Q := h
theorem r_i0 {k : Int → Int → V} {i j : Int} (h : Q (k i j) H) : rI0 k (.int i) (.int j) H Q := ⟨i, j, rfl, rfl, h⟩
theorem r_i {C : Int → Int → Prop} {k : Int → Int → V} {i j : Int} (c : C i j) (h : Q (k i j) H) : rI C k (.int i) (.int j) H Q := ⟨i, j, rfl, rfl, c, h⟩
theorem r_eq (s : scal x y = true) (h : Q (.bl (decide (x = y))) H) : rEq x y H Q := ⟨s, h⟩
theorem r_ne (s : scal x y = true) (h : Q (.bl (!decide (x = y))) H) : rNe x y H Q := ⟨s, h⟩
theorem r_sub {to ti : TE} {s : TSet} {N : L2.St → Hp → Prop} (h : to σ H fun o H1 => ti σ H1 fun i H2 => s o i v H2 fun H3 => N σ H3) : gSub to ti s v σ H N := h
theorem r_sl {r : V → Option Int → Option Int → Hp → VK → Prop} {tl th : TO} (h : te σ H fun x H1 => tl σ H1 fun l H2 => th σ H2 fun u H3 => r x l u H3 Q) : tSl r te tl th σ H Q := h
theorem r_nopart {O : Option Int → Hp → Prop} (h : O none H) : tNoPart σ H O := h
theorem r_part {O : Option Int → Hp → Prop} (h : te σ H fun x H1 => ∃ i, x = .int i ∧ O (some i) H1) : tPart te σ H O := h
theorem r_int {i : Int} {S : Int → Prop} (h : S i) : ∃ k, V.int i = V.int k ∧ S k := ⟨i, rfl, h⟩
theorem r_bm {T : String} {r : V → List V → Hp → VK → Prop} (h : te σ H fun x H1 => tyV K T x H1 ∧ A σ H1 fun xs H2 => r x xs H2 Q) : tBM K T r te A σ H Q := h
theorem r_bm0 {T : String} {r : V → List V → Hp → VK → Prop} (h : te σ H fun x H1 => tyV K T x H1 ∧ r x [] H1 Q) : tBM0 K T r te σ H Q := h
/-- an item of a tracked list, tuple -/
theorem r_ixL {p : Addr} {xs : List V} {i : Int} (h : H p = some (.lst xs)) (a : atI xs i = some v) (q : Q v H) : rIxL K (.ref p) (.int i) H Q := ⟨p, xs, i, v, rfl, rfl, SqL.of h, a, q⟩
theorem r_ixT {p : Addr} {xs : List V} {i : Int} (h : H p = some (.tup xs)) (a : atI xs i = some v) (q : Q v H) : rIxT K (.ref p) (.int i) H Q := ⟨p, xs, i, v, rfl, rfl, SqT.of h, a, q⟩
theorem r_set {p : Addr} {xs : List V} {i : Int} {j : Nat} {N : Hp → Prop} (h : H p = some (.lst xs)) (a : ixN xs.length i = some j) (q : N (upd H p (.lst (xs.set j v)))) : rSetL (.ref p) (.int i) v H N := ⟨p, xs, i, j, rfl, rfl, h, a, q⟩
theorem r_ty {d : D} (h : Dt H d x) (q : Q (.ty d.ty) H) : rTyp K [x] H Q := ⟨x, d.ty, rfl, h.tyB, q⟩
theorem r_isT {d : D} (h : Dt H d x) (q : Q (.bl d.isT) H) : rIsi K [x, .ty "tuple"] H Q := ⟨x, .ty "tuple", _, _, d.isT, rfl, .ty _, h.tyX, kit_tup K d, q⟩
theorem r_isS {d : D} (h : Dt H d x) (q : Q (.bl d.isS) H) : rIsi K [x, .ty "str"] H Q := ⟨x, .ty "str", _, _, d.isS, rfl, .ty _, h.tyX, kit_str K d, q⟩
theorem r_isI {d : D} (h : Dt H d x) (q : Q (.bl d.isI) H) : rIsi K [x, .ty "int"] H Q := ⟨x, .ty "int", _, _, d.isI, rfl, .ty _, h.tyX, kit_int K d, q⟩
theorem r_isB {d : D} (h : Dt H d x) (q : Q (.bl d.isB) H) : rIsi K [x, .ty "bool"] H Q := ⟨x, .ty "bool", _, _, d.isB, rfl, .ty _, h.tyX, kit_bool K d, q⟩
theorem pe_gref {X : Cx} {n : Str} {a : Addr} {pos : Pos} (hg : Gl X n) (hm : X.mg n = some (.ref a)) (hd : (n == ("__debug__" : Str)) = false := by decide) : PE X (.Name n pos) (tC (.ref a)) := pe_glob (v := .ref a) hg hm rfl hd
theorem pe_gstr {X : Cx} {n z : Str} {tk : Tok} {pos : Pos} (hg : Gl X n) (hm : X.mg n = some (.str z tk)) (hd : (n == ("__debug__" : Str)) = false := by decide) : PE X (.Name n pos) (tC (.str z)) := pe_glob (v := .str z) hg hm ⟨_, rfl⟩ hd
theorem pe_bty {X : Cx} {n : Str} {T : String} {pos : Pos} (hg : Gl X n) (hm : X.mg n = none) (hv : bootBuiltins n = some (.type T)) (hn : n ≠ "__name__" := by decide) (hd : (n == ("__debug__" : Str)) = false := by decide) : PE X (.Name n pos) (tC (.ty T)) := pe_bltn (v := .ty T) hg hm hv rfl hn hd
theorem r_yes (h : R true H) : tYes σ H R := h
theorem r_cut (M : L2.St → Hp → Prop) (h : t { D0 with nx := M } σ H) (k : ∀ σ' H', M σ' H' → u D0 σ' H') : Evl.tCut t u D0 σ H := ⟨M, h, k⟩
theorem r_chain {r r' : R2} {tc : TE} (h : ta σ H fun x H1 => tb σ H1 fun y H2 => r x y H2 fun z H3 => ∃ k, z = .bl k ∧ (if k = true then tc σ H3 fun w' H4 => r' y w' H4 Q else Q (.bl false) H3)) : tChain r r' ta tb tc σ H Q := h
theorem r_nt {a b : String} (h : Q (.bl (!decide (a = b))) H) : rNT (.ty a) (.ty b) H Q := ⟨a, b, rfl, rfl, h⟩
theorem take_one {α : Type} {l : List α} {i : Nat} {x : α} (h : l[i]? = some x) : l.take (i + 1) = l.take i ++ [x] := by
  rw [List.take_succ, h]
  rfl
/-- a tuple of data is laid; the heap behind it is a letter -/
theorem r_tupN {ds : List D} {xs : List V} (h : Dts H ds xs) (few : xs.length ≤ 10000) (k : ∀ p H', Kp [] H H' → KeepT H H' → H p = none → H' p = some (.tup xs) → Dt H' (.tup ds) (.ref p) → Q (.ref p) H') :
    NewT xs H Q := by
  refine ⟨Nat.le_trans few (by decide), fun p np => ?_⟩
  have k1 : Kp [] H (upd H p (.tup xs)) := (Kp.refl _ _).up np
  exact k p _ k1 k1.t0 np upd_same (Dt.tupI upd_same (h.mono k1.t0))
/-- a list is laid -/
theorem r_lstN {xs : List V} (few : xs.length ≤ 10000) (k : ∀ p H', Kp [] H H' → KeepT H H' → H p = none → H' p = some (.lst xs) → Q (.ref p) H') :
    NewL xs H Q := by
  refine ⟨Nat.le_trans few (by decide), fun p np => ?_⟩
  have k1 : Kp [] H (upd H p (.lst xs)) := (Kp.refl _ _).up np
  exact k p _ k1 k1.t0 np upd_same
theorem new_tup {ds : List D} {xs : List V} {p : Addr} (np : H p = none) (h : Dts H ds xs) : Kp [] H (upd H p (.tup xs)) ∧ KeepT H (upd H p (.tup xs)) ∧ Dt (upd H p (.tup xs)) (.tup ds) (.ref p) :=
  have k1 : Kp [] H (upd H p (.tup xs)) := (Kp.refl _ _).up np
  ⟨k1, k1.t0, Dt.tupI upd_same (h.mono k1.t0)⟩
theorem Dt.use {d : D} (h : Dt H d v) : Dt H d v := h
theorem dt_str {x : Str} : Dt H (.str x) (.str x) := rfl
theorem dt_int {x : Int} : Dt H (.int x) (.int x) := rfl
theorem dt_bl {x : Bool} : Dt H (.bl x) (.bl x) := rfl
theorem dt_non : Dt H .non .non := rfl
/-- an item at a drawn place -/
theorem at_mem {xs : List V} {i : Int} (h0 : 0 ≤ i) (h : i < (xs.length : Nat)) : ∃ v, atI xs i = some v ∧ v ∈ xs ∧ xs[i.toNat]? = some v := by
  have hk : i.toNat < xs.length := by omega
  have e : i = ((i.toNat : Nat) : Int) := by omega
  exact ⟨xs[i.toNat], at_of e (List.getElem?_eq_getElem hk), List.getElem_mem hk, List.getElem?_eq_getElem hk⟩
theorem at_any {α : Type} {xs : List α} {i : Int} (h0 : 0 ≤ i) (h : i < (xs.length : Nat)) : ∃ v, atI xs i = some v := by
  have hk : i.toNat < xs.length := by omega
  have e : i = ((i.toNat : Nat) : Int) := by omega
  refine ⟨xs[i.toNat], ?_⟩
  have q := atI_nat (List.getElem?_eq_getElem hk)
  rw [← e] at q
  exact q
theorem cut_map {f : Int → V} (ns : List Int) (lo hi : Option Int) : ∃ ms : List Int, cutV (ns.map f) lo hi = ms.map f ∧ ms.length ≤ ns.length := by
  refine ⟨(ns.drop (HT.sIx (ns.map f).length 0 lo)).take (HT.sIx (ns.map f).length (ns.map f).length hi - HT.sIx (ns.map f).length 0 lo), ?_, ?_⟩
  · unfold cutV
    rw [List.map_take, List.map_drop]
  · rw [List.length_take, List.length_drop]
    omega
theorem cut_mem {xs : List V} {lo hi : Option Int} {x : V} (h : x ∈ cutV xs lo hi) : x ∈ xs := List.mem_of_mem_drop (List.mem_of_mem_take h)
theorem r_par {i j : Nat} (h : A σ H fun vs H1 => ∃ v w, vs = [v, w] ∧ D0.nx ((σ.set i (some v)).set j (some w)) H1) : tPar i j A D0 σ H := h
theorem r_two {S : V → V → Prop} (h : S x y) : ∃ v w, [x, y] = [v, w] ∧ S v w := ⟨x, y, rfl, h⟩
/-- a comprehension's list, from where its iterator has come -/
def LcB (J : It) (g : TG) (tt : TT) (te : TE) (vs : List Nat) (σ : L2.St) (H1 : Hp) (Q : VK) : Prop := ∀ D, H1 D = none → ∃ W : Nat → Nat → Hp → Prop, (∃ m, W 0 m (upd H1 D (.lst []))) ∧ ∀ i m H, W i m H →
  (J.stop i H ∧ Q (.ref D) H) ∨ (J.go i H ∧ ∃ Nx : Hp → Prop, (∀ H', Nx H' → ∃ m', m' < m ∧ W (i + 1) m' H') ∧ ∀ x H', J.yld i H x H' → g x (wipe σ vs) H' fun σ2 H2 => wipe σ2 vs = wipe σ vs ∧ tt σ2 H2 fun b H3 =>
    if b = true then te σ2 H3 fun y H4 => ∃ acc, H4 D = some (.lst acc) ∧ acc.length < sizeLine ∧ Nx (upd H4 D (.lst (acc ++ [y]))) else Nx H3)
theorem r_lc {wi : TI} {vs : List Nat} (h : wi σ H fun J H1 => LcB J g T te vs σ H1 Q) : tLc wi g T te vs σ H Q := h
theorem r_iL {S : It → Hp → Prop} (h : te σ H fun x H1 => ∃ a, x = .ref a ∧ (∃ xs, SqL K H1 a xs) ∧ S (Itl K a) H1) : iList K te σ H S := h
theorem r_iT {S : It → Hp → Prop} (h : te σ H fun x H1 => ∃ a, x = .ref a ∧ (∃ xs, SqT K H1 a xs) ∧ S (Itt K a) H1) : iTup K te σ H S := h
theorem r_iS {S : It → Hp → Prop} (h : te σ H fun v H1 => ∃ x, v = .str x ∧ S (Its x) H1) : iStr te σ H S := h
theorem r_i1 {S : It → Hp → Prop} (h : A σ H fun vs H1 => ∃ j : Int, vs = [.int j] ∧ -(2 ^ 62) ≤ j ∧ j < 2 ^ 62 ∧ S (Itr 0 j.toNat) H1) : iRng1 A σ H S := h
theorem r_catN {l b : Addr} {xs zs : List V} (h1 : H l = some (.lst xs)) (h2 : H b = some (.lst zs)) (few : xs.length + zs.length ≤ 10000) (k : ∀ p H', Kp [] H H' → KeepT H H' → H p = none → H' p = some (.lst (xs ++ zs)) → Q (.ref p) H') :
    rCat (.ref l) (.ref b) H Q := by
  refine ⟨l, b, xs, zs, rfl, rfl, h1, h2, Nat.le_trans few (by decide), fun p np => ?_⟩
  have k1 : Kp [] H (upd H p (.lst (xs ++ zs))) := (Kp.refl _ _).up np
  exact k p _ k1 k1.t0 np upd_same
theorem r_slL {l : Addr} {xs : List V} {lo hi : Option Int} (h1 : H l = some (.lst xs)) (k : ∀ p H', Kp [] H H' → KeepT H H' → H p = none → H' p = some (.lst (cutV xs lo hi)) → Q (.ref p) H') : rSlL K (.ref l) lo hi H Q := by
  refine ⟨l, xs, rfl, SqL.of h1, fun p np => ?_⟩
  have k1 : Kp [] H (upd H p (.lst (cutV xs lo hi))) := (Kp.refl _ _).up np
  exact k p _ k1 k1.t0 np upd_same
theorem if_t {A B : Prop} {c : Bool} (e : c = true) (h : A) : if c = true then A else B := by rw [if_pos e]; exact h
theorem if_f {A B : Prop} {c : Bool} (e : c = false) (h : B) : if c = true then A else B := by rw [if_neg (by rw [e]; decide)]; exact h
theorem if_2 {A B : Prop} {c : Bool} (h1 : c = true → A) (h2 : c = false → B) : if c = true then A else B := by
  cases c with
  | true => exact if_t rfl (h1 rfl)
  | false => exact if_f rfl (h2 rfl)
end
/-- a def that the head tells -/
theorem df_mk {K : PySem.W.Frag} {h : Heap} {mg : Str → Option Value} {x : Str} {st : Stmt} {ps : List Str} {f : Addr} {oc : Value} {od an : Option Addr} {sl : Array (Option Value)} {kV doc pm cd ct : Value} (X : K.In h) (G : h.Ns mainGlobals mg)
    (a : PySem.W.nsIn K mainGlobals x = some (some (.ref f))) (l : K.lookup f = some ⟨oc, od, .func (PySem.W.fnOf x x (defArgs st) (defBody st) (defScope st) .none kV doc pm an cd ct), sl⟩) (c : PySem.W.codeIn K cd x = true) (k : PySem.W.keepIn K (.ref f) = true)
    (hb : ∀ (kV doc pm : Value) (an : Option Addr) (cdv ct : Value) (us : List Value), us.length = ps.length → bindArgs (PySem.W.fnOf x x (defArgs st) (defBody st) (defScope st) .none kV doc pm an cdv ct) ⟨us, []⟩ = pure (ps.zip us)) : Df K mg x st ps :=
  ⟨⟨f, _, fun_mk l c k, (fun_mk l c k).binds hb, PySem.W.mg_of X G a⟩⟩
end Lc
end

section
/-! Sizes, depths and widths of data. -/
namespace Lc
open PySem L2
mutual
def D.sz : D → Nat
  | .tup xs => 1 + szs xs
  | .non => 1
  | .bl _ => 1
  | .int _ => 1
  | .str _ => 1
def szs : List D → Nat
  | [] => 0
  | d :: ds => d.sz + szs ds
end
mutual
def D.dp : D → Nat
  | .tup xs => 1 + dps xs
  | .non => 1
  | .bl _ => 1
  | .int _ => 1
  | .str _ => 1
def dps : List D → Nat
  | [] => 0
  | d :: ds => max d.dp (dps ds)
end
mutual
/-- texts are as S says, tuples have at most W parts -/
def Wd (S : Str → Prop) (W : Nat) : D → Prop
  | .str x => S x
  | .tup xs => xs.length ≤ W ∧ Wds S W xs
  | .non => True
  | .bl _ => True
  | .int _ => True
def Wds (S : Str → Prop) (W : Nat) : List D → Prop
  | [] => True
  | d :: ds => Wd S W d ∧ Wds S W ds
end
theorem D.sz_pos : ∀ d : D, 1 ≤ d.sz
  | .tup xs => by rw [D.sz]; omega
  | .non => Nat.le_refl 1
  | .bl _ => Nat.le_refl 1
  | .int _ => Nat.le_refl 1
  | .str _ => Nat.le_refl 1
theorem szs_len : ∀ ds : List D, ds.length ≤ szs ds
  | [] => Nat.le_refl 0
  | d :: ds => by
    have h1 := D.sz_pos d
    have h2 := szs_len ds
    rw [szs, List.length_cons]
    omega
theorem szs_app : ∀ ds es : List D, szs (ds ++ es) = szs ds + szs es
  | [], es => by rw [List.nil_append, szs, Nat.zero_add]
  | d :: ds, es => by rw [List.cons_append, szs, szs, szs_app ds es, Nat.add_assoc]
theorem dps_app : ∀ ds es : List D, dps (ds ++ es) = max (dps ds) (dps es)
  | [], es => by rw [List.nil_append, dps, Nat.zero_max]
  | d :: ds, es => by rw [List.cons_append, dps, dps, dps_app ds es, Nat.max_assoc]
theorem dps_mem : ∀ {ds : List D} {d : D}, d ∈ ds → d.dp ≤ dps ds
  | e :: ds, d, h => by
    rw [dps]
    rcases List.mem_cons.mp h with rfl | h
    · omega
    · have := dps_mem h
      omega
theorem szs_mem : ∀ {ds : List D} {d : D}, d ∈ ds → d.sz ≤ szs ds
  | e :: ds, d, h => by
    rw [szs]
    rcases List.mem_cons.mp h with rfl | h
    · omega
    · have := szs_mem h
      omega
theorem Wds.mem {S : Str → Prop} {W : Nat} : ∀ {ds : List D}, Wds S W ds ↔ ∀ d ∈ ds, Wd S W d
  | [] => ⟨fun _ _ h => (by cases h), fun _ => trivial⟩
  | e :: ds => by
    rw [Wds, Wds.mem (ds := ds)]
    constructor
    · rintro ⟨h1, h2⟩ d hd
      rcases List.mem_cons.mp hd with rfl | hd
      · exact h1
      · exact h2 d hd
    · intro h
      exact ⟨h e List.mem_cons_self, fun d hd => h d (List.mem_cons_of_mem _ hd)⟩
theorem Wds.app {S : Str → Prop} {W : Nat} {ds es : List D} (h1 : Wds S W ds) (h2 : Wds S W es) : Wds S W (ds ++ es) := Wds.mem.mpr fun d hd => by
  rcases List.mem_append.mp hd with h | h
  · exact Wds.mem.mp h1 d h
  · exact Wds.mem.mp h2 d h
theorem Wds.sub {S : Str → Prop} {W : Nat} {ds es : List D} (h1 : Wds S W ds) (h2 : ∀ d ∈ es, d ∈ ds) : Wds S W es := Wds.mem.mpr fun d hd => Wds.mem.mp h1 d (h2 d hd)
mutual
theorem Wd.mono {S S' : Str → Prop} {W W' : Nat} (s : ∀ x, S x → S' x) (l : W ≤ W') : ∀ {d : D}, Wd S W d → Wd S' W' d
  | .str x, h => s x h
  | .tup xs, h => by
    rw [Wd] at h ⊢
    exact ⟨Nat.le_trans h.1 l, Wds.mono s l h.2⟩
  | .non, _ => trivial
  | .bl _, _ => trivial
  | .int _, _ => trivial
theorem Wds.mono {S S' : Str → Prop} {W W' : Nat} (s : ∀ x, S x → S' x) (l : W ≤ W') : ∀ {ds : List D}, Wds S W ds → Wds S' W' ds
  | [], _ => trivial
  | d :: ds, h => by
    rw [Wds] at h ⊢
    exact ⟨Wd.mono s l h.1, Wds.mono s l h.2⟩
end
theorem Wd.wide {S : Str → Prop} {W W' : Nat} (l : W ≤ W') {d : D} (h : Wd S W d) : Wd S W' d := h.mono (fun _ z => z) l
mutual
/-- the same, reckoned -/
def wdB (S : Str → Bool) (W : Nat) : D → Bool
  | .str x => S x
  | .tup xs => decide (xs.length ≤ W) && wdsB S W xs
  | .non => true
  | .bl _ => true
  | .int _ => true
def wdsB (S : Str → Bool) (W : Nat) : List D → Bool
  | [] => true
  | d :: ds => wdB S W d && wdsB S W ds
end
mutual
theorem wd_of {S : Str → Prop} {B : Str → Bool} {W : Nat} (s : ∀ x, B x = true → S x) : ∀ {d : D}, wdB B W d = true → Wd S W d
  | .str x, h => s x h
  | .tup xs, h => by
    rw [wdB, Bool.and_eq_true] at h
    rw [Wd]
    exact ⟨of_decide_eq_true h.1, wds_of s h.2⟩
  | .non, _ => trivial
  | .bl _, _ => trivial
  | .int _, _ => trivial
theorem wds_of {S : Str → Prop} {B : Str → Bool} {W : Nat} (s : ∀ x, B x = true → S x) : ∀ {ds : List D}, wdsB B W ds = true → Wds S W ds
  | [], _ => trivial
  | d :: ds, h => by
    rw [wdsB, Bool.and_eq_true] at h
    rw [Wds]
    exact ⟨wd_of s h.1, wds_of s h.2⟩
end
theorem szs_max {n : Nat} : ∀ {ds : List D}, (∀ d ∈ ds, d.sz ≤ n) → szs ds ≤ ds.length * n
  | [], _ => Nat.zero_le _
  | d :: ds, h => by
    have h1 := h d List.mem_cons_self
    have h2 := szs_max (ds := ds) fun e he => h e (List.mem_cons_of_mem _ he)
    rw [szs, List.length_cons, Nat.succ_mul]
    omega
theorem dps_max {n : Nat} : ∀ {ds : List D}, (∀ d ∈ ds, d.dp ≤ n) → dps ds ≤ n
  | [], _ => Nat.zero_le _
  | d :: ds, h => by
    have h1 := h d List.mem_cons_self
    have h2 := dps_max (ds := ds) fun e he => h e (List.mem_cons_of_mem _ he)
    rw [dps]
    omega
end Lc
end

section
/-! t[::-1] of a tuple; slices and sums of tuples of data. -/
namespace Lc
open PySem L2 PyProof.Rows PySem.Spec
section
variable {prog : Program} {w : World} {A : Around} {E : Value → Shared → Prop} {s : Shared}
theorem back_adjust (n : Nat) : Builtin.Slice.sliceAdjust none none (-1) (n : Int) = ((n : Int) - 1, -1) := by
  unfold Builtin.Slice.sliceAdjust
  simp
theorem back_places (n : Nat) : Builtin.Slice.slicePlaces ((n : Int) - 1) (-1) (-1) = n := by
  unfold Builtin.Slice.slicePlaces
  rw [if_neg (by decide)]
  by_cases h : n = 0
  · subst h
    rfl
  · rw [if_pos (by omega)]
    have e : ((n : Int) - 1 - -1 - 1) / (- -1) + 1 = (n : Int) := by
      rw [show (- -1 : Int) = 1 by decide, Int.ediv_one]
      omega
    rw [e, Int.toNat_natCast]
theorem back_pick (l : List Value) : ((List.range l.length).filterMap fun (k : Nat) => l.toArray[(((l.length : Nat) : Int) - 1 + (k : Int) * (-1)).toNat]?) = l.reverse := by
  have e : ∀ m, m ≤ l.length → ((List.range m).filterMap fun (k : Nat) => l.toArray[(((l.length : Nat) : Int) - 1 + (k : Int) * (-1)).toNat]?) = l.reverse.take m := by
    intro m
    induction m with
    | zero => intro _; rfl
    | succ m ih =>
      intro hm
      have at_ : (((l.length : Nat) : Int) - 1 + (m : Int) * (-1)).toNat = l.length - 1 - m := by omega
      have here : l.reverse[m]? = l[l.length - 1 - m]? := List.getElem?_reverse (by omega)
      have some_ : l[l.length - 1 - m]? = some l[l.length - 1 - m] := List.getElem?_eq_getElem (by omega)
      rw [List.range_succ, List.filterMap_append, ih (by omega), take_one (here.trans some_)]
      congr 1
      rw [List.filterMap_cons, at_, List.getElem?_toArray, some_]
      rfl
  rw [e _ (Nat.le_refl _), List.take_of_length_le (by rw [List.length_reverse]; exact Nat.le_refl _)]
theorem slice_back {sl : Addr} {vl vu vs : Value} {n : Nat} {Q : Int × Int × Nat → Shared → Prop} (hs : s.heap.IsSliceOf sl vl vu vs) (pl : IsPart vl none) (pu : IsPart vu none) (ps : IsPart vs (some (-1)))
    (h : Q ((n : Int) - 1, -1, n) s) : wpAny (model prog w) A (Builtin.Slice.sliceApplied (.ref sl) (pure (n : Int))) Q E s := by
  obtain ⟨o, ho, _, hd⟩ := id hs
  unfold Builtin.Slice.sliceApplied Builtin.Slice.sliceFields
  refine wpAny_bind (wpAny_bind (wpAny_field ho hd (x := vl) rfl (wpAny_bind (wpAny_field ho hd (x := vu) rfl (wpAny_bind (wpAny_field ho hd (x := vs) rfl (wpAny_pure ?_)))))))
  refine wpAny_bind (HT.slicePart_ ps ?_)
  show wpAny _ _ (if ((-1 : Int) == 0) = true then _ else _) _ _ s
  rw [if_neg (by decide)]
  refine wpAny_bind (HT.slicePart_ pl (wpAny_bind (HT.slicePart_ pu (wpAny_bind (wpAny_pure ?_)))))
  show wpAny _ _ (match Builtin.Slice.sliceAdjust none none (-1) (n : Int) with | (x, y) => pure (x, (-1 : Int), Builtin.Slice.slicePlaces x y (-1))) _ _ s
  rw [back_adjust]
  show wpAny _ _ (pure ((n : Int) - 1, (-1 : Int), Builtin.Slice.slicePlaces ((n : Int) - 1) (-1) (-1))) _ _ s
  rw [back_places]
  exact wpAny_pure h
theorem tuple_back {t sl : Addr} {l : List Value} {vl vu vs : Value} {Q : Value → Shared → Prop} (ht : IsTup s.heap t l.toArray) (hs : s.heap.IsSliceOf sl vl vu vs) (pl : IsPart vl none) (pu : IsPart vu none) (ps : IsPart vs (some (-1)))
    (few : l.length ≤ sizeLine) (h : Q (.ref s.heap.objs.size) { s with heap := s.heap.push { cls := .type "tuple", data := .seq l.reverse.toArray } }) : wpAny (model prog w) A (getItem (.ref t) (.ref sl)) Q E s := by
  obtain ⟨o, ho, hc, _⟩ := id hs
  have isS : s.TypeIs (.ref sl) "slice" := ⟨o, ho, hc⟩
  have room : sizeOk (.seq l.reverse.toArray) := by
    show l.reverse.toArray.size ≤ sizeLine
    rw [List.size_toArray, List.length_reverse]
    exact few
  unfold getItem
  try with_reducible refine wpAny_holding ?_
  first | refine wpAny_bind (wpAny_pure ?_) | skip
  refine wpAny_bind (wpAny_sequenceKey ht.typeIs (by decide) ?_)
  refine wpAny_bind (wpAny_callSpecial?_slot (name := Str.ofString "__getitem__") ht.typeIs slot_tuple_getitem (wpAny_call_entry slot_tuple_getitem ht.typeIs entry_tuple_getitem ?_ (args_tuple_getitem _ _)))
  show wpAny _ _ (Builtin.Tuple.tupleItemsOf (.ref t) >>= _) _ _ s
  refine wpAny_bind (tupleItemsOf_ ht (wpAny_bind (wpAny_typeOf isS ?_)))
  rw [if_pos (by decide)]
  have e : l.toArray.size = l.length := List.size_toArray
  rw [e]
  refine wpAny_bind (slice_back hs pl pu ps ?_)
  have no : ¬ (((l.length : Nat) : Int) - 1 == 0 && (-1 : Int) == 1 && l.length == l.length) = true := by simp
  show wpAny _ _ (if (((l.length : Nat) : Int) - 1 == 0 && (-1 : Int) == 1 && l.length == l.length) = true then _ else _) _ _ s
  rw [if_neg no, back_pick]
  first
    | exact wpAny_bind (m := Builtin.Tuple.tupleExact _) (wpAny_newObj_type (wpAny_pure ⟨_, rfl, wpAny_pure h⟩) room)
    | exact wpAny_bind (m := Builtin.Tuple.tupleExact _) (wpAny_newObj_type (wpAny_bind (wpAny_pure (wpAny_pure ⟨_, rfl, wpAny_pure h⟩))) room)
    | exact wpAny_bind (wpAny_bind (m := Builtin.Tuple.tupleExact _) (wpAny_newObj_type (wpAny_pure (wpAny_pure ⟨_, rfl, wpAny_pure h⟩)) room))
end
section
variable {X : Cx} {K : PySem.W.Frag} {σ : L2.St} {H : Hp} {Q : VK}
def tBackT (K : PySem.W.Frag) (te : TE) : TE := fun σ H Q => te σ H fun x H1 => ∃ a xs, x = .ref a ∧ SqT K H1 a xs ∧ ∀ p, H1 p = none → Q (.ref p) (upd H1 p (.tup xs.reverse))
theorem pe_revT {e : Expr} {te : TE} {k : Nat} {p1 p2 p3 pos : Pos} (he : PE X e te) : PE X (.Subscript e (.Slice none none (some (.UnaryOp .USub (.Constant (.int 1) k p1) p2)) p3) pos) (tBackT X.K te) := by
  constructor
  intro pins s σ H Q I h
  refine Subscript_ (thn (he.run pins s σ H _ I h) fun v s1 ⟨x, H1, I1, r1, a, xs, ex, hx, q⟩ => ?_)
  subst ex
  cases r1
  have hst : PO X (some (.UnaryOp .USub (.Constant (.int 1) k p1) p2)) (tPart (tUn (rU fun i => .int (-i)) (tC (.int 1)))) := po_some (pe_un un_neg pe_int)
  refine wpAny_Slice (thn (po_none.run pins s1 σ H1 (fun o G => o = none ∧ G = H1) I1 ⟨rfl, rfl⟩) fun vl s2 ⟨l, H2, I2, pl, el, g2⟩ => ?_)
  subst el g2
  refine thn (po_none.run pins s2 σ H2 (fun o G => o = none ∧ G = H2) I2 ⟨rfl, rfl⟩) fun vu s3 ⟨u, H3, I3, pu, eu, g3⟩ => ?_
  subst eu g3
  refine thn (hst.run pins s3 σ H3 (fun o G => o = some (-1) ∧ G = H3) I3 ⟨1, rfl, -1, rfl, rfl, rfl⟩) fun vs s4 ⟨o, H4, I4, ps, eo, g4⟩ => ?_
  subst eo g4
  have I5 : Inv X pins σ H4 { s4 with heap := s4.heap.push { cls := .type "slice", data := .fields #[vl, vu, vs] } } := I4.kept (t' := s4.toks) fun b ob z => Heap.get?_push_of_some _ z
  obtain ⟨its, r, ht, hz⟩ := I5.tuple hx
  have hlen := r.length
  show wpAny (model X.prog X.w) X.A (subscriptTail e (.Slice none none (some (.UnaryOp .USub (.Constant (.int 1) k p1) p2)) p3) (.ref a) (.ref s4.heap.objs.size)) (EP X pins σ Q) X.xe { s4 with heap := s4.heap.push { cls := .type "slice", data := .fields #[vl, vu, vs] } }
  refine tail_any (ops := [.ref a, .ref s4.heap.objs.size]) ht.typeIs slot_tuple_getitem.lookup ?_ (by with_unfolding_all rfl)
  refine tuple_back ht (Heap.IsSliceOf.new _ vl vu vs) pl pu ps (by omega) ?_
  refine ⟨.ref _, _, I5.laid (t' := s4.toks) (o := .tup xs.reverse) (fun b ob z => Heap.get?_push_of_some _ z) (Nat.le_refl _) ?_, rfl, q _ (I5.hok.fresh (Nat.le_refl _))⟩
  exact ⟨by rw [List.length_reverse]; exact hz, _, r.reverse, _, Heap.get?_push_size _ rfl, rfl, _, rfl⟩
/-- of a tuple of data -/
theorem r_back {te : TE} (h : te σ H fun x H1 => ∃ a xs, x = .ref a ∧ SqT K H1 a xs ∧ ∀ p, H1 p = none → Q (.ref p) (upd H1 p (.tup xs.reverse))) : tBackT K te σ H Q := h
/-- a slice of a tuple of data is one -/
theorem r_slT {a : Addr} {xs : List V} {ds : List D} {lo hi : Option Int} (h1 : H a = some (.tup xs)) (hd : Dts H ds xs) (k : ∀ v es H', Kp [] H H' → KeepT H H' → Dt H' (.tup es) v → (∀ e ∈ es, e ∈ ds) → es.length = (cutV xs lo hi).length → Q v H') :
    rSlA K (.ref a) lo hi H Q := by
  have cut : Dts H ((ds.drop (HT.sIx xs.length 0 lo)).take (HT.sIx xs.length xs.length hi - HT.sIx xs.length 0 lo)) (cutV xs lo hi) := (hd.drop _).take _
  have sub : ∀ e ∈ (ds.drop (HT.sIx xs.length 0 lo)).take (HT.sIx xs.length xs.length hi - HT.sIx xs.length 0 lo), e ∈ ds := fun e he => List.mem_of_mem_drop (List.mem_of_mem_take he)
  refine ⟨a, xs, rfl, SqT.of h1, fun hw => ?_, fun _ p np => ?_⟩
  · have e : cutV xs lo hi = xs := by
      unfold cutV
      rw [hw.1, hw.2, List.drop_zero, Nat.sub_zero, List.take_length]
    rw [e] at cut
    exact k _ _ H (Kp.refl _ _) (fun _ _ z => z) (Dt.tupI h1 cut) sub (by rw [e]; exact cut.len.symm)
  · obtain ⟨k1, t1, d1⟩ := new_tup np cut
    exact k _ _ _ k1 t1 d1 sub cut.len.symm
/-- the sum of two tuples of data is one -/
theorem r_catT {a b : Addr} {xs ys : List V} {ds es : List D} (h1 : H a = some (.tup xs)) (h2 : H b = some (.tup ys)) (hd : Dts H ds xs) (he : Dts H es ys) (few : xs.length + ys.length ≤ 10000)
    (k : ∀ v H', Kp [] H H' → KeepT H H' → Dt H' (.tup (ds ++ es)) v → Q v H') : rCatA K (.ref a) (.ref b) H Q := by
  refine ⟨a, b, xs, ys, rfl, rfl, SqT.of h1, SqT.of h2, Nat.le_trans few (by decide), fun z => ?_, fun _ z => ?_, fun _ _ p np => ?_⟩
  · subst z
    have e : ds = [] := List.eq_nil_of_length_eq_zero hd.len.symm
    subst e
    exact k _ H (Kp.refl _ _) (fun _ _ z => z) (Dt.tupI h2 he)
  · subst z
    have e : es = [] := List.eq_nil_of_length_eq_zero he.len.symm
    subst e
    rw [List.append_nil] at k
    exact k _ H (Kp.refl _ _) (fun _ _ z => z) (Dt.tupI h1 hd)
  · obtain ⟨k1, t1, d1⟩ := new_tup np (hd.app he)
    exact k _ _ k1 t1 d1
theorem last_cut (xs : List V) : (cutV xs (some (-1)) none).length ≤ 1 := by
  unfold cutV
  rw [List.length_take, List.length_drop]
  have e : HT.sIx xs.length 0 (some (-1)) = xs.length - 1 := by
    show (if (-1 : Int) < 0 then ((-1 : Int) + (xs.length : Int)).toNat else min (-1 : Int).toNat xs.length) = _
    rw [if_pos (by decide)]
    omega
  rw [e]
  omega
end
end Lc
end

section
/-! Law k01: the program's defs. -/
namespace K01
open PySem L2 PyProof.Rows PySem.Spec Lc
def top (i : Nat) : Stmt := PySem.Challenge.pw_lacuna_k01_types_and_signatures.main.body.getD i (.Pass ⟨0, 0, 0, 0⟩)
local macro_rules | `(tactic| walk_at "rd") => `(tactic| repeat (first
  | with_reducible refine r_seq ?_ | with_reducible refine r_mknx ?_ | with_reducible refine r_mkrt ?_ | with_reducible refine r_asg ?_ | with_reducible refine r_name ?_ | with_reducible refine r_next ?_
  | with_reducible refine r_drop ?_ | with_reducible refine r_ret ?_ | with_reducible refine r_if ?_
  | ((with_reducible refine' r_var ?e ?_); (case e => rfl)) | with_reducible refine r_c ?_ | with_reducible refine r_op ?_ | with_reducible refine r_un ?_ | with_reducible refine r_test ?_ | with_reducible refine r_tb ?_
  | with_reducible refine r_and ?_ | with_reducible refine r_or ?_ | with_reducible refine r_not ?_ | with_reducible refine r_andV ?_ | with_reducible refine r_orV ?_ | with_reducible refine r_notV ?_ | with_reducible refine r_bl ?_
  | with_reducible refine r_cb ?_ | with_reducible refine r_cons ?_ | with_reducible refine r_nil ?_ | with_reducible refine r_tup ?_ | with_reducible refine r_lst ?_ | with_reducible refine r_call ?_
  | with_reducible refine r_i0 ?_ | with_reducible refine r_yes ?_ | with_reducible refine r_chain ?_ | with_reducible refine if_t rfl ?_ | with_reducible refine if_f rfl ?_ | with_reducible refine r_nt ?_ | ((with_reducible refine r_eq ?e ?_); (case e => rfl)) | ((with_reducible refine r_ne ?e ?_); (case e => rfl))
  | with_reducible refine r_sub ?_ | with_reducible refine r_sl ?_ | with_reducible refine r_nopart ?_ | with_reducible refine r_part ?_ | with_reducible refine r_int ?_ | with_reducible refine r_bm ?_ | with_reducible refine r_bm0 ?_))

def letters : Str := "abcdefghijklmnopqrstuvwxyz"
def reserved : List Str := ["con", "rule", "ask", "if", "true", "some", "all", "given", "same", "match", "steps", "many", "height"]
/-- what stands at the module's top -/
structure Txt (K : PySem.W.Frag) (mg : Str → Option Value) (aR : Addr) (tL tF : Tok) : Prop where
  RESERVED : mg "RESERVED" = some (.ref aR)
  res : ∀ H, SqT K H aR (reserved.map V.str)
  LETTERS : mg "LETTERS" = some (.str letters tL)
  FORMULAS : mg "FORMULAS" = some (.str "o" tF)
  z_type : mg "type" = none
  z_str : mg "str" = none
  z_len : mg "len" = none
  z_all : mg "all" = none
  z_tuple : mg "tuple" = none
  z_list : mg "list" = none
  z_set : mg "set" = none
  z_int : mg "int" = none
  z_max : mg "max" = none
  z_range : mg "range" = none
  z_isinstance : mg "isinstance" = none
  z_bool : mg "bool" = none

/-! ### names -/
def inside (x : Str) : List Bool := x.cps.toList.map fun c => decide (c ∈ letters.cps.toList)
def nameB (x : Str) : Bool := decide (1 ≤ x.length) && (decide (x.length ≤ 8) && ((!(inV (.str x) (reserved.map V.str))) && (inside x).all id))
def nmD : D → Bool
  | .str x => nameB x
  | _ => false
def short : D → Prop
  | .str x => x.length ≤ 1000
  | _ => True
def spName : Sp := fun vs H Q _ => ∃ v d, vs = [v] ∧ Dt H d v ∧ short d ∧ ∀ H', Kp [] H H' → Q (.bl (nmD d)) H'

/-! ### pairs, types -/
def okS (x : Str) : Prop := x.length ≤ 1000 ∧ x ≠ "o"
def pairD : D → Bool
  | .tup xs => decide (xs.length = 2)
  | _ => false
def formD : D → Bool
  | .tup [.tup _, n] => nmD n
  | _ => false
mutual
def typeD : D → Bool
  | .tup xs => typeP xs
  | _ => false
/-- of the parts -/
def typeP : List D → Bool
  | [a, n] => argsD a && nmD n
  | _ => false
def argsD : D → Bool
  | .tup as => typesD as
  | _ => false
def typesD : List D → Bool
  | [] => true
  | d :: ds => typeD d && typesD ds
end
theorem typesD_app : ∀ ds es : List D, typesD (ds ++ es) = (typesD ds && typesD es)
  | [], es => by rw [List.nil_append, typesD, Bool.true_and]
  | d :: ds, es => by rw [List.cons_append, typesD, typesD, typesD_app ds es, Bool.and_assoc]
theorem form_of : ∀ {d : D}, formD d = true → ∃ as n, d = .tup [.tup as, .str n] ∧ nameB n = true
  | .tup [.tup as, .str n], h => ⟨as, n, rfl, h⟩
  | .tup [.tup as, .non], h => nomatch h
  | .tup [.tup as, .bl _], h => nomatch h
  | .tup [.tup as, .int _], h => nomatch h
  | .tup [.tup as, .tup _], h => nomatch h
theorem type_form : ∀ {d : D}, formD d = false → typeD d = false
  | .non, _ => rfl
  | .bl _, _ => rfl
  | .int _, _ => rfl
  | .str _, _ => rfl
  | .tup [], _ => rfl
  | .tup [_], _ => rfl
  | .tup (_ :: _ :: _ :: _), _ => rfl
  | .tup [.non, _], _ => rfl
  | .tup [.bl _, _], _ => rfl
  | .tup [.int _, _], _ => rfl
  | .tup [.str _, _], _ => rfl
  | .tup [.tup as, n], h => by
    show (_ && nmD n) = false
    rw [show nmD n = false from h, Bool.and_false]
theorem type_of {as : List D} {n : Str} (h : nameB n = true) : typeD (.tup [.tup as, .str n]) = typesD as := by
  show (typesD as && nameB n) = typesD as
  rw [h, Bool.and_true]
def spPair : Sp := fun vs H Q _ => ∃ v d, vs = [v] ∧ Dt H d v ∧ ∀ H', Kp [] H H' → Q (.bl (pairD d)) H'
def spForm : Sp := fun vs H Q _ => ∃ v d W, vs = [v] ∧ Dt H d v ∧ Wd okS W d ∧ ∀ H', Kp [] H H' → Q (.bl (formD d)) H'
def spType : Sp := fun vs H Q _ => ∃ v d W, vs = [v] ∧ Dt H d v ∧ Wd okS W d ∧ d.sz ≤ 1000000 ∧ ∀ H', Kp [] H H' → Q (.bl (typeD d)) H'
/-! ### signatures -/
def rowD : D → Bool
  | .tup xs => rowP xs
  | _ => false
where
  rowP : List D → Bool
    | [n, k] => nmD n && typeD k
    | _ => false
def nmS : D → Str
  | .tup (.str x :: _) => x
  | _ => Str.empty
def sigD : D → Bool
  | .tup rows => rows.all rowD && decide (diff (rows.map nmS) = rows.length)
  | _ => false
theorem nm_of {d : D} (h : nmD d = true) : ∃ x, d = .str x ∧ nameB x = true := by
  cases d with
  | str x => exact ⟨x, rfl, h⟩
  | _ => cases h
theorem pair_of : ∀ {d : D}, pairD d = true → ∃ x y, d = .tup [x, y]
  | .tup [x, y], _ => ⟨x, y, rfl⟩
theorem row_pair : ∀ {d : D}, pairD d = false → rowD d = false
  | .non, _ => rfl
  | .bl _, _ => rfl
  | .int _, _ => rfl
  | .str _, _ => rfl
  | .tup [], _ => rfl
  | .tup [_], _ => rfl
  | .tup (_ :: _ :: _ :: _), _ => rfl
theorem all_take {p : D → Bool} {l : List D} {i : Nat} {d : D} (h : l[i]? = some d) (t : (l.take i).all p = true) (e : p d = true) : (l.take (i + 1)).all p = true := by
  rw [take_one h, List.all_append, t, List.all_cons, e]
  rfl
theorem all_no {p : D → Bool} {l : List D} {i : Nat} {d : D} (h : l[i]? = some d) (e : p d = false) : l.all p = false := by
  cases q : l.all p with
  | false => rfl
  | true =>
    rw [List.all_eq_true.mp q d (List.mem_of_getElem? h)] at e
    cases e
def spSig : Sp := fun vs H Q _ => ∃ v d W, vs = [v] ∧ Dt H d v ∧ Wd okS W d ∧ W ≤ 3000 ∧ d.sz ≤ 1000000 ∧ ∀ H', Kp [] H H' → Q (.bl (sigD d)) H'
theorem Wd.shorts {W : Nat} {d : D} (h : Wd okS W d) : short d := by
  cases d <;> first | exact h.1 | trivial

abbrev s_is_name : Stmt := top 4
abbrev N_is_name : List Str := ["value", "letter"]
theorem sc_is_name : FnScope N_is_name ["value"] (defScope s_is_name) := ⟨rfl, rfl, rfl, by decide +kernel, rfl, by decide +kernel, by decide +kernel⟩
abbrev s_is_pair : Stmt := top 5
abbrev N_is_pair : List Str := ["value"]
theorem sc_is_pair : FnScope N_is_pair ["value"] (defScope s_is_pair) := ⟨rfl, rfl, rfl, by decide +kernel, rfl, by decide +kernel, by decide +kernel⟩
abbrev s_has_type_form : Stmt := top 6
abbrev N_has_type_form : List Str := ["value"]
theorem sc_has_type_form : FnScope N_has_type_form ["value"] (defScope s_has_type_form) := ⟨rfl, rfl, rfl, by decide +kernel, rfl, by decide +kernel, by decide +kernel⟩
abbrev s_is_type : Stmt := top 7
abbrev N_is_type : List Str := ["value", "todo", "argument"]
theorem sc_is_type : FnScope N_is_type ["value"] (defScope s_is_type) := ⟨rfl, rfl, rfl, by decide +kernel, rfl, by decide +kernel, by decide +kernel⟩
abbrev s_is_signature : Stmt := top 8
abbrev N_is_signature : List Str := ["value", "names", "entry"]
theorem sc_is_signature : FnScope N_is_signature ["value"] (defScope s_is_signature) := ⟨rfl, rfl, rfl, by decide +kernel, rfl, by decide +kernel, by decide +kernel⟩
section
variable {P : Program} {w : World} {K : PySem.W.Frag} {mg : Str → Option Value} {base : Heap} {aR : Addr} {tL tF : Tok}
theorem ok_is_name (F : Df K mg "is_name" s_is_name ["value"]) (T : Txt K mg aR tL tF) : Cal P w K mg base "is_name" ["value"] 1 spName := by
  refine F.ok sc_is_name (fun vs H Q E h => ?_) (fun f cdv A outer s H vs Q E hr h => ?_)
  · obtain ⟨v, d, rfl, _⟩ := h
    rfl
  obtain ⟨v, d, rfl, hd, hs, q⟩ := h
  refine ⟨_, (pss_cons (ps_if (PW.pt (pw_or (pt_cmpR op_notTyB (pe_callTy call_type1 (by rfl) T.z_type (by decide +kernel) (pa_cons (pv 0) pa_nil)) (pe_bty (T := "str") (by rfl) T.z_str (by decide +kernel)) (nomark _)) (pw_or1 (pt_not (pt_chain op_le op_le pe_int (pe_callB call_len_str (by rfl) T.z_len (by decide +kernel) (pa_cons (pv 0) pa_nil)) pe_int))))) (pss_one (ps_ret pe_bl)) pss_nil)
      (pss_one (ps_ret (pe_and (pe_cmpR op_notIn_seq (pv 0) (pe_gref rfl T.RESERVED) (by rfl)) (pe_one (pe_callB (cr_all rfl) (by rfl) T.z_all (by decide +kernel) (pa_cons (pe_lc (own := [("letter", 1)]) (g := gName 1) rfl sc_is_name.nd (pi_str (pv 0)) (blkOk_by (N := N_is_name) (sc := defScope s_is_name) (by decide +kernel)) (fun _ _ _ _ _ => (pg_name (i := 1) sc_is_name.nd rfl (Or.inl rfl))) (fun _ _ _ _ _ => pts_nil) (fun _ _ _ _ _ => (pe_cmpR op_in_sign (pv 1) (pe_gstr rfl T.LETTERS) (by rfl)))) pa_nil))))))), ?_⟩
  walk_at "rd"
  refine r_ty hd ?_
  walk_at "rd"
  refine if_2 (fun c => ?_) (fun c => ?_)
  · walk_at "rd"
    have e : nmD d = false := by
      rw [ty_str] at c
      cases d <;> first | rfl | cases c
    exact e ▸ q H (Kp.refl _ _)
  · rw [ty_str] at c
    obtain ⟨x, rfl⟩ := D.str_of (by simpa using c)
    cases hd.str
    have hx : x.length ≤ 1000 := hs
    have hz : x.length ≤ sizeLine := Nat.le_trans hx (by decide)
    walk_at "rd"
    refine ⟨x, rfl, hz, ?_⟩
    walk_at "rd"
    refine if_2 (fun c1 => ?_) (fun c1 => ?_)
    rotate_left
    · walk_at "rd"
      have e : nmD (.str x) = false := by
        have n1 : ¬ 1 ≤ x.length := fun z => by simp at c1; omega
        show (decide _ && _) = false
        rw [decide_eq_false n1]
        rfl
      exact e ▸ q H (Kp.refl _ _)
    walk_at "rd"
    refine if_2 (fun c2 => ?_) (fun c2 => ?_)
    · walk_at "rd"
      have e : nmD (.str x) = false := by
        have n1 : ¬ x.length ≤ 8 := fun z => by simp at c2; omega
        show (decide _ && (decide _ && _)) = false
        rw [decide_eq_false n1, Bool.false_and, Bool.and_false]
      exact e ▸ q H (Kp.refl _ _)
    walk_at "rd"
    have p1 : 1 ≤ x.length := by simp at c1; omega
    have p2 : x.length ≤ 8 := by simp at c2; omega
    have nm : nmD (.str x) = ((!(inV (.str x) (reserved.map V.str))) && (inside x).all id) := by
      show (decide _ && (decide _ && _)) = _
      rw [decide_eq_true p1, decide_eq_true p2]
      rfl
    refine ⟨aR, _, rfl, .inr (T.res H), rfl, by decide +kernel, ?_⟩
    walk_at "rd"
    refine if_2 (fun c3 => ?_) (fun c3 => ?_)
    rotate_left
    · have e : nmD (.str x) = false := by
        rw [nm]
        rw [show (!(inV (.str x) (reserved.map V.str))) = false from c3]
        rfl
      exact e ▸ q H (Kp.refl _ _)
    have c4 : (!(inV (.str x) (reserved.map V.str))) = true := c3
    rw [c4, Bool.true_and] at nm
    refine ⟨_, rfl, x, rfl, fun L nL => lc_it walk_str (fun i H' => Kp [] H H' ∧ H' L = some (.lst (((inside x).take i).map V.bl))) ⟨(Kp.refl _ _).up nL, upd_same⟩ (fun _ _ _ _ => trivial) ?_ ?_⟩
    · rintro i y H1 H2 hi ⟨k1, hL⟩ ⟨rfl, cp, hc, rfl⟩
      walk_at "rd"
      refine ⟨rfl, ?_⟩
      walk_at "rd"
      have hb : (inside x)[i]? = some (decide (cp ∈ letters.cps.toList)) := by
        show (x.cps.toList.map _)[i]? = _
        rw [List.getElem?_map, Array.getElem?_toList, hc]
        rfl
      refine ⟨cp, letters, rfl, rfl, _, hL, ?_, k1.own nL, ?_⟩
      · have n1 : x.cps.size = x.length := rfl
        rw [List.length_map]
        have n2 := List.length_take_le i (inside x)
        exact Nat.lt_of_le_of_lt (show _ ≤ 1000 by omega) (by decide)
      · rw [upd_same, take_one hb, List.map_append]
        rfl
    · rintro H1 ⟨k1, hL⟩
      walk_at "rd"
      rw [List.take_of_length_le (by show (x.cps.toList.map _).length ≤ _; rw [List.length_map, Array.length_toList]; exact Nat.le_refl _)] at hL
      refine ⟨L, inside x, rfl, SqL.of hL, ?_⟩
      exact nm ▸ q H1 k1
theorem ok_is_pair (F : Df K mg "is_pair" s_is_pair ["value"]) (T : Txt K mg aR tL tF) : Cal P w K mg base "is_pair" ["value"] 1 spPair := by
  refine F.ok sc_is_pair (fun vs H Q E h => ?_) (fun f cdv A outer s H vs Q E hr h => ?_)
  · obtain ⟨v, d, rfl, _⟩ := h
    rfl
  obtain ⟨v, d, rfl, hd, q⟩ := h
  refine ⟨_, (pss_one (ps_ret (pe_and (pe_cmpR op_isTyB (pe_callTy call_type1 (by rfl) T.z_type (by decide +kernel) (pa_cons (pv 0) pa_nil)) (pe_bty (T := "tuple") (by rfl) T.z_tuple (by decide +kernel)) (nomark _)) (pe_one (pe_cmpR op_eq (pe_callB call_len_seq (by rfl) T.z_len (by decide +kernel) (pa_cons (pv 0) pa_nil)) pe_int (nomark _)))))), ?_⟩
  walk_at "rd"
  refine r_ty hd ?_
  walk_at "rd"
  refine ⟨_, _, rfl, rfl, ?_⟩
  walk_at "rd"
  rw [ty_tup]
  refine if_2 (fun c => ?_) (fun c => ?_)
  · obtain ⟨ds, rfl⟩ := D.tup_of c
    obtain ⟨a, xs, rfl, ha, hs⟩ := hd.tup
    walk_at "rd"
    refine ⟨a, xs, rfl, .inr (SqT.of ha), ?_⟩
    walk_at "rd"
    have e : pairD (.tup ds) = decide (V.int (xs.length : Int) = V.int 2) := by
      rw [hs.len]
      show decide _ = _
      congr 1
      refine propext ⟨fun z => by rw [z]; rfl, fun z => ?_⟩
      have := V.int.inj z
      omega
    exact e ▸ q H (Kp.refl _ _)
  · walk_at "rd"
    have e : pairD d = false := by cases d <;> first | rfl | cases c
    exact e ▸ q H (Kp.refl _ _)
theorem ok_form (F : Df K mg "has_type_form" s_has_type_form ["value"]) (T : Txt K mg aR tL tF) (C_is_pair : Cal P w K mg base "is_pair" ["value"] 1 spPair) (C_is_name : Cal P w K mg base "is_name" ["value"] 1 spName) :
    Cal P w K mg base "has_type_form" ["value"] 2 spForm := by
  refine F.ok sc_has_type_form (fun vs H Q E h => ?_) (fun f cdv A outer s H vs Q E hr h => ?_)
  · obtain ⟨v, d, W, rfl, _⟩ := h
    rfl
  obtain ⟨v, d, W, rfl, hd, hw, q⟩ := h
  refine ⟨_, (pss_one (ps_ret (pe_and (pe_cal C_is_pair hr rfl (pa_cons (pv 0) pa_nil)) (pe_and (pe_cmpR op_isTyB (pe_callTy call_type1 (by rfl) T.z_type (by decide +kernel) (pa_cons (pe_ix ix_tup (pv 0) pe_int (fun _ _ => rfl)) pa_nil)) (pe_bty (T := "tuple") (by rfl) T.z_tuple (by decide +kernel)) (nomark _)) (pe_one (pe_cal C_is_name hr rfl (pa_cons (pe_ix ix_tup (pv 0) pe_int (fun _ _ => rfl)) pa_nil))))))), ?_⟩
  walk_at "rd"
  refine ⟨v, d, rfl, hd, fun H1 k1 => ?_⟩
  walk_at "rd"
  refine if_2 (fun c => ?_) (fun c => ?_)
  · obtain ⟨x, y, rfl⟩ : ∃ x y, d = .tup [x, y] := by
      match d, c with
      | .tup [x, y], _ => exact ⟨x, y, rfl⟩
    obtain ⟨a, xs, rfl, ha, hs⟩ := (hd.mono k1.t0).tup
    obtain ⟨vx, r1, rfl, hx, vy, r2, rfl, hy, rfl⟩ := hs
    walk_at "rd"
    refine r_ixT ha rfl ?_
    walk_at "rd"
    refine r_ty hx ?_
    walk_at "rd"
    refine ⟨_, _, rfl, rfl, ?_⟩
    walk_at "rd"
    rw [ty_tup]
    refine if_2 (fun c2 => ?_) (fun c2 => ?_)
    · obtain ⟨as, rfl⟩ := D.tup_of c2
      walk_at "rd"
      refine r_ixT ha rfl ?_
      walk_at "rd"
      exact ⟨vy, y, rfl, hy, Wd.shorts hw.2.2.1, fun H2 k2 => q H2 (k1.trans k2)⟩
    · walk_at "rd"
      have e : formD (.tup [x, y]) = false := by cases x <;> first | rfl | cases c2
      exact e ▸ q H1 k1
  · walk_at "rd"
    have e : formD d = false := by
      cases z : formD d with
      | false => rfl
      | true =>
        obtain ⟨as, n, rfl, _⟩ := form_of z
        cases c
    exact e ▸ q H1 k1
theorem ok_is_type (F : Df K mg "is_type" s_is_type ["value"]) (T : Txt K mg aR tL tF) (C_has_type_form : Cal P w K mg base "has_type_form" ["value"] 2 spForm) : Cal P w K mg base "is_type" ["value"] 3 spType := by
  refine F.ok sc_is_type (fun vs H Q E h => ?_) (fun f cdv A outer s H vs Q E hr h => ?_)
  · obtain ⟨v, d, W, rfl, _⟩ := h
    rfl
  obtain ⟨v, d, W, rfl, hd, hw, hz, q⟩ := h
  refine ⟨_, (pss_cons (ps_if (pt_not (pt_val (pe_cal C_has_type_form hr rfl (pa_cons (pv 0) pa_nil)))) (pss_one (ps_ret pe_bl)) pss_nil)
      (pss_cons (ps_set (i := 1) sc_is_type.nd rfl (Or.inl rfl) (pe_callTy call_list_of (by rfl) T.z_list (by decide +kernel) (pa_cons (pe_ix ix_tup (pv 0) pe_int (fun _ _ => rfl)) pa_nil)))
      (pss_cons (ps_while PassesOwn.never (pt_truth (pv 1) (by intro _; rfl)) (pss_cons (ps_set (i := 2) sc_is_type.nd rfl (Or.inl rfl) (pe_bm0 PySem.F.plainAttrs_list PySem.F.slot_list_pop PySem.F.type_list_pop mt_pop (pv 1)))
      (pss_cons (ps_if (PW.pt (pw_or (pt_not (pt_val (pe_cal C_has_type_form hr rfl (pa_cons (pv 2) pa_nil)))) (pw_or1 (pt_cmpR op_eq (pe_ix ix_tup (pv 2) pe_int (fun _ _ => rfl)) (pe_gstr rfl T.FORMULAS) (nomark _))))) (pss_one (ps_ret pe_bl)) pss_nil)
      (pss_one (ps_expr (pe_bm PySem.F.plainAttrs_list PySem.F.slot_list_extend PySem.F.type_list_extend mt_extT (pv 1) (pa_cons (pe_ix ix_tup (pv 2) pe_int (fun _ _ => rfl)) pa_nil)))))))
      (pss_one (ps_ret pe_bl))))), ?_⟩
  walk_at "rd"
  refine ⟨v, d, W, rfl, hd, hw, fun H1 k1 => ?_⟩
  walk_at "rd"
  refine if_2 (fun c => ?_) (fun c => ?_)
  · walk_at "rd"
    exact (type_form (by simpa using c)) ▸ q H1 k1
  obtain ⟨as, n, rfl, hn⟩ := form_of (by simpa using c)
  obtain ⟨a, xs, rfl, ha, hs⟩ := (hd.mono k1.t0).tup
  obtain ⟨vx, r1, rfl, hx, vy, r2, rfl, hy, rfl⟩ := hs
  obtain ⟨b, ys, rfl, hb, hys⟩ := hx.tup
  have was : Wds okS W as := hw.2.1.2
  have zas : szs as ≤ 1000000 := by
    have e : (D.tup [.tup as, .str n]).sz = 1 + ((1 + szs as) + (1 + 0)) := rfl
    omega
  walk_at "rd"
  refine r_ixT ha rfl ?_
  walk_at "rd"
  refine ⟨b, ys, rfl, .inr (SqT.of hb), fun L nL => ?_⟩
  walk_at "rd"
  have hL0 : H L = none := k1.none nL
  refine ⟨fun m σ H' => ∃ ds zs v2, σ = [some (.ref a), some (.ref L), v2] ∧ Kp [] H H' ∧ H' L = some (.lst zs) ∧ Dts H' ds zs ∧ Wds okS W ds ∧ szs ds ≤ 1000000 ∧ typesD as = typesD ds ∧ m = szs ds,
    ⟨_, as, ys, none, rfl, k1.up nL, upd_same, hys.mono (Kp.t0 ((Kp.refl _ _).up nL)), was, zas, rfl, rfl⟩, ?_⟩
  rintro m σ H2 ⟨ds, zs, v2, rfl, k2, hL, hds, wds, zds, ety, rfl⟩
  walk_at "rd"
  refine ⟨_, .inl ⟨zs, SqL.of hL, rfl⟩, if_2 (fun c1 => ?_) (fun c1 => ?_)⟩
  · obtain ⟨es, e, us, y, rfl, rfl, he, hy1⟩ := hds.last (by rintro rfl; cases c1)
    refine ⟨_, fun _ _ z => z, ?_⟩
    walk_at "rd"
    refine ⟨.inl ⟨rfl, _, SqL.of hL⟩, L, _, y, rfl, rfl, hL, at_last us y, ?_⟩
    rw [drop_last]
    have k3 : Kp [] H (upd H2 L (.lst us)) := k2.own hL0
    have t3 : KeepT H2 (upd H2 L (.lst us)) := fun p xs z => by rw [upd_ne (ne_of z hL (fun q => by cases q))]; exact z
    have we : Wd okS W e := Wds.mem.mp wds e (by simp)
    have wes : Wds okS W es := wds.sub (fun d h => by simp [h])
    have tye : typesD as = (typesD es && typeD e) := by
      rw [ety, typesD_app]
      show (typesD es && (typeD e && true)) = _
      rw [Bool.and_true]
    have zs1 : szs es + e.sz ≤ 1000000 := by
      rw [szs_app] at zds
      exact zds
    have zs2 : szs (es ++ [e]) = szs es + e.sz := by
      rw [szs_app]
      rfl
    walk_at "rd"
    refine ⟨y, e, W, rfl, hy1.mono t3, we, fun H4 k4 => ?_⟩
    walk_at "rd"
    refine if_2 (fun c2 => ?_) (fun c2 => ?_)
    · walk_at "rd"
      have : typeD (.tup [.tup as, .str n]) = false := by
        rw [type_of hn, tye, type_form (by simpa using c2), Bool.and_false]
      exact this ▸ q H4 (k3.trans k4)
    obtain ⟨bs, m, rfl, hm⟩ := form_of (by simpa using c2)
    obtain ⟨a1, x1, rfl, ha1, hs1⟩ := ((hy1.mono t3).mono k4.t0).tup
    obtain ⟨u1, r1, rfl, hu1, u2, r2, rfl, hu2, rfl⟩ := hs1
    cases hu2.str
    obtain ⟨b1, w1, rfl, hb1, hw1⟩ := hu1.tup
    walk_at "rd"
    refine r_ixT ha1 rfl ?_
    walk_at "rd"
    have no : decide (V.str m = V.str "o") = false := decide_eq_false fun z => we.2.2.1.2 (V.str.inj z)
    refine if_f no ?_
    walk_at "rd"
    have hL4 : H4 L = some (.lst us) := k4 L _ (fun z => nomatch z) upd_same
    refine ⟨.inl ⟨rfl, _, SqL.of hL4⟩, ?_⟩
    walk_at "rd"
    refine r_ixT ha1 rfl ?_
    walk_at "rd"
    have le1 : us.length = es.length := he.len
    have le2 : w1.length = bs.length := hw1.len
    have lz1 := szs_len es
    have lz2 := szs_len bs
    have ez : (D.tup [.tup bs, .str m]).sz = 1 + ((1 + szs bs) + (1 + 0)) := rfl
    refine ⟨L, b1, us, w1, rfl, rfl, hL4, SqT.of hb1, Nat.le_trans (show _ ≤ 1000000 by omega) (by decide), ?_⟩
    walk_at "rd"
    refine ⟨szs (es ++ bs), by rw [zs2, szs_app]; omega, es ++ bs, us ++ w1, some (.ref a1), rfl, (k3.trans k4).own hL0, upd_same, ?_, wes.app we.2.1.2, by rw [szs_app]; omega, ?_, rfl⟩
    · refine Dts.mono (fun p xs z => by rw [upd_ne (ne_of z hL4 (fun q => by cases q))]; exact z) ((he.mono (t3.trans k4.t0)).app hw1)
    · rw [tye, typesD_app, type_of hm]
  · walk_at "rd"
    have e0 : zs = [] := by
      cases zs with
      | nil => rfl
      | cons _ _ => cases c1
    subst e0
    have e1 : ds = [] := by
      have := hds.len
      exact List.eq_nil_of_length_eq_zero this.symm
    subst e1
    have : typeD (.tup [.tup as, .str n]) = true := by
      rw [type_of hn, ety]
      rfl
    exact this ▸ q H2 k2
theorem ok_is_signature (F : Df K mg "is_signature" s_is_signature ["value"]) (T : Txt K mg aR tL tF) (C_is_pair : Cal P w K mg base "is_pair" ["value"] 3 spPair) (C_is_name : Cal P w K mg base "is_name" ["value"] 3 spName)
    (C_is_type : Cal P w K mg base "is_type" ["value"] 3 spType) : Cal P w K mg base "is_signature" ["value"] 4 spSig := by
  refine F.ok sc_is_signature (fun vs H Q E h => ?_) (fun f cdv A outer s H vs Q E hr h => ?_)
  · obtain ⟨v, d, W, rfl, _⟩ := h
    rfl
  obtain ⟨v, d, W, rfl, hd, hw, hW, hz, q⟩ := h
  refine ⟨_, (pss_cons (ps_if (pt_cmpR op_notTyB (pe_callTy call_type1 (by rfl) T.z_type (by decide +kernel) (pa_cons (pv 0) pa_nil)) (pe_bty (T := "tuple") (by rfl) T.z_tuple (by decide +kernel)) (nomark _)) (pss_one (ps_ret pe_bl)) pss_nil)
      (pss_cons (ps_set (i := 1) sc_is_signature.nd rfl (Or.inl rfl) (pe_lst pa_nil))
      (pss_cons (ps_for PassesOwn.never rfl (pi_tup (pv 0)) (pg_name (i := 2) sc_is_signature.nd rfl (.inl rfl)) (pss_cons (ps_if (PW.pt (pw_or (pt_not (pt_val (pe_cal C_is_pair hr rfl (pa_cons (pv 2) pa_nil)))) (pw_or (pt_not (pt_val (pe_cal C_is_name hr rfl (pa_cons (pe_ix ix_tup (pv 2) pe_int (fun _ _ => rfl)) pa_nil)))) (pw_or1 (pt_not (pt_val (pe_cal C_is_type hr rfl (pa_cons (pe_ix ix_tup (pv 2) pe_int (fun _ _ => rfl)) pa_nil)))))))) (pss_one (ps_ret pe_bl)) pss_nil)
      (pss_one (ps_expr (pe_bm PySem.F.plainAttrs_list PySem.F.slot_list_append PySem.F.type_list_append mt_append (pv 1) (pa_cons (pe_ix ix_tup (pv 2) pe_int (fun _ _ => rfl)) pa_nil))))))
      (pss_one (ps_ret (pe_cmpR op_eq (pe_lenSetT rfl (by rfl) T.z_len (by rfl) T.z_set (pv 1)) (pe_callB call_len_seq (by rfl) T.z_len (by decide +kernel) (pa_cons (pv 1) pa_nil)) (nomark _))))))), ?_⟩
  walk_at "rd"
  refine r_ty hd ?_
  walk_at "rd"
  rw [ty_tup]
  refine if_2 (fun c => ?_) (fun c => ?_)
  · walk_at "rd"
    have e : sigD d = false := by cases d <;> first | rfl | cases c
    exact e ▸ q H (Kp.refl _ _)
  obtain ⟨rows, rfl⟩ := D.tup_of (by simpa using c)
  obtain ⟨a, xs, rfl, ha, hs⟩ := hd.tup
  have wrows : Wds okS W rows := hw.2
  have lrows : rows.length ≤ W := hw.1
  have hz' : szs rows ≤ 1000000 := by
    have e : (D.tup rows).sz = 1 + szs rows := rfl
    omega
  walk_at "rd"
  refine ⟨by show 0 ≤ sizeLine; decide, fun L nL => ?_⟩
  walk_at "rd"
  refine ⟨_, rfl, a, rfl, ⟨_, SqT.of (((Kp.refl [] H).up nL) a _ (fun z => nomatch z) ha)⟩, for_tup (K := K) (a := a) (xs := xs) (fun i σ H' => ∃ v3, σ = [some (.ref a), some (.ref L), v3] ∧ Kp [] H H' ∧ H' L = some (.lst (((rows.take i).map nmS).map V.str)) ∧ (rows.take i).all rowD = true)
    ⟨none, rfl, (Kp.refl _ _).up nL, upd_same, rfl⟩ (fun i σ H' _ ⟨_, _, k, _⟩ => SqT.of (k a _ (fun z => nomatch z) ha)) ?_ ?_⟩
  · rintro i y σ H1 hi ⟨v3, rfl, k1, hL, hall⟩
    obtain ⟨e, he, hy⟩ := hs.at hi
    have me : e ∈ rows := List.mem_of_getElem? he
    have we : Wd okS W e := Wds.mem.mp wrows e me
    have ze : e.sz ≤ 1000000 := Nat.le_trans (szs_mem me) hz'
    walk_at "rd"
    refine ⟨y, e, rfl, hy.mono k1.t0, fun H2 k2 => ?_⟩
    walk_at "rd"
    have bad : rowD e = false → ∀ H', Kp [] H H' → Q (.bl false) H' := fun z H' k => by
      have e0 : sigD (.tup rows) = false := by
        show (rows.all rowD && _) = false
        rw [all_no he z, Bool.false_and]
      exact e0 ▸ q H' k
    refine if_2 (fun c1 => ?_) (fun c1 => ?_)
    · walk_at "rd"
      exact bad (row_pair (by simpa using c1)) _ (k1.trans k2)
    obtain ⟨n, kd, rfl⟩ := pair_of (by simpa using c1)
    obtain ⟨p, ps, rfl, hp, hps⟩ := (hy.mono (k1.trans k2).t0).tup
    obtain ⟨u1, r1, rfl, hu1, u2, r2, rfl, hu2, rfl⟩ := hps
    walk_at "rd"
    refine r_ixT hp rfl ?_
    walk_at "rd"
    refine ⟨u1, n, rfl, hu1, Wd.shorts we.2.1, fun H3 k3 => ?_⟩
    walk_at "rd"
    refine if_2 (fun c2 => ?_) (fun c2 => ?_)
    · walk_at "rd"
      refine bad ?_ _ ((k1.trans k2).trans k3)
      show (nmD n && _) = false
      rw [show nmD n = false by simpa using c2, Bool.false_and]
    walk_at "rd"
    refine r_ixT (k3 p _ (fun z => nomatch z) hp) rfl ?_
    walk_at "rd"
    have zk : kd.sz ≤ 1000000 := by
      have e1 : (D.tup [n, kd]).sz = 1 + (n.sz + (kd.sz + 0)) := rfl
      omega
    refine ⟨u2, kd, W, rfl, hu2.mono k3.t0, we.2.2.1, zk, fun H4 k4 => ?_⟩
    walk_at "rd"
    refine if_2 (fun c3 => ?_) (fun c3 => ?_)
    · walk_at "rd"
      refine bad ?_ _ (((k1.trans k2).trans k3).trans k4)
      show (_ && typeD kd) = false
      rw [show typeD kd = false by simpa using c3, Bool.and_false]
    obtain ⟨x, rfl, hx⟩ := nm_of (d := n) (by simpa using c2)
    cases hu1.str
    walk_at "rd"
    have k34 : Kp [] H2 H4 := k3.trans k4
    have kk : Kp [] H H4 := (k1.trans k2).trans k34
    have hL4 : H4 L = some (.lst (((rows.take i).map nmS).map V.str)) := (k2.trans k34) L _ (fun z => nomatch z) hL
    refine ⟨.inl ⟨rfl, _, SqL.of hL4⟩, ?_⟩
    walk_at "rd"
    refine r_ixT (k34 p _ (fun z => nomatch z) hp) rfl ?_
    walk_at "rd"
    refine ⟨L, _, _, rfl, rfl, hL4, ?_, _, rfl, kk.own nL, ?_, ?_⟩
    · rw [List.length_map, List.length_map]
      have n2 := List.length_take_le i rows
      have n3 : i < xs.length := (List.getElem?_eq_some_iff.mp hi).1
      have n4 := hs.len
      exact Nat.lt_of_le_of_lt (show _ ≤ 3000 by omega) (by decide)
    · rw [upd_same, take_one he, List.map_append, List.map_append]
      rfl
    · refine all_take he hall ?_
      show (nmD (.str x) && typeD kd) = true
      rw [show nmD (.str x) = true from hx, show typeD kd = true by simpa using c3]
      rfl
  · rintro σ H1 ⟨v3, rfl, k1, hL, hall⟩
    rw [hs.len, List.take_length] at hL hall
    walk_at "rd"
    refine ⟨_, rfl, L, rows.map nmS, rfl, SqL.of hL, by rw [List.length_map]; omega, ?_⟩
    walk_at "rd"
    refine ⟨L, _, rfl, .inl (SqL.of hL), ?_⟩
    walk_at "rd"
    have e : sigD (.tup rows) = decide (V.int (diff (rows.map nmS) : Nat) = V.int (((rows.map nmS).map V.str).length : Nat)) := by
      show (rows.all rowD && _) = _
      rw [hall, Bool.true_and, List.length_map, List.length_map]
      congr 1
      refine propext ⟨fun z => by rw [z], fun z => ?_⟩
      have := V.int.inj z
      omega
    exact e ▸ q H1 k1
end
end K01
end

section
/-! Law k01: what is drawn. -/
namespace K01
open PySem L2 PyProof.Rows PySem.Spec Lc
local macro_rules | `(tactic| walk_at "rd") => `(tactic| repeat (first
  | with_reducible refine r_seq ?_ | with_reducible refine r_mknx ?_ | with_reducible refine r_mkrt ?_ | with_reducible refine r_asg ?_ | with_reducible refine r_name ?_ | with_reducible refine r_next ?_
  | with_reducible refine r_drop ?_ | with_reducible refine r_ret ?_ | with_reducible refine r_if ?_
  | ((with_reducible refine' r_var ?e ?_); (case e => rfl)) | with_reducible refine r_c ?_ | with_reducible refine r_op ?_ | with_reducible refine r_un ?_ | with_reducible refine r_test ?_ | with_reducible refine r_tb ?_
  | with_reducible refine r_and ?_ | with_reducible refine r_or ?_ | with_reducible refine r_not ?_ | with_reducible refine r_andV ?_ | with_reducible refine r_orV ?_ | with_reducible refine r_notV ?_ | with_reducible refine r_bl ?_
  | with_reducible refine r_cb ?_ | with_reducible refine r_cons ?_ | with_reducible refine r_nil ?_ | with_reducible refine r_tup ?_ | with_reducible refine r_lst ?_ | with_reducible refine r_call ?_
  | with_reducible refine r_i0 ?_ | with_reducible refine r_yes ?_ | with_reducible refine r_chain ?_ | with_reducible refine if_t rfl ?_ | with_reducible refine if_f rfl ?_ | with_reducible refine r_nt ?_ | ((with_reducible refine r_eq ?e ?_); (case e => rfl)) | ((with_reducible refine r_ne ?e ?_); (case e => rfl))
  | with_reducible refine r_sub ?_ | with_reducible refine r_sl ?_ | with_reducible refine r_nopart ?_ | with_reducible refine r_part ?_ | with_reducible refine r_int ?_ | with_reducible refine r_bm ?_ | with_reducible refine r_bm0 ?_))


/-! ### the draws' state -/
/-- at c stand the script's ints, how many are taken, the digits left, a count, and one thing more -/
def CS (a : Addr) (H : Hp) (c : Addr) : Prop := ∃ (ns : List Int) (i d k z : Int), H c = some (.lst [.ref a, .int i, .int d, .int k, .int z]) ∧ H a = some (.lst (ns.map V.int)) ∧ 0 ≤ i ∧ a ≠ c
theorem CS.keep {a : Addr} {H H' : Hp} {c : Addr} (h : CS a H c) (k : Kp [] H H') : CS a H' c := by
  obtain ⟨ns, i, d, n, z, h1, h2, h3, h4⟩ := h
  exact ⟨ns, i, d, n, z, k c _ (fun q => nomatch q) h1, k a _ (fun q => nomatch q) h2, h3, h4⟩
theorem CS.noT {a : Addr} {H : Hp} {c : Addr} (h : CS a H c) : NoT H c := by
  obtain ⟨ns, i, d, n, z, h1, _⟩ := h
  exact NoT.lst h1
theorem CS.t {a : Addr} {H H' : Hp} {c : Addr} (h : CS a H c) (k : Kp [c] H H') : KeepT H H' := k.t1 h.noT
/-- a new object is none of the state's -/
theorem CS.ne {a : Addr} {H : Hp} {c l : Addr} (h : CS a H c) (n : H l = none) : l ≠ c ∧ l ≠ a := by
  obtain ⟨ns, i, d, m, z, h1, h2, _⟩ := h
  exact ⟨fun q => (by rw [q, h1] at n; cases n), fun q => (by rw [q, h2] at n; cases n)⟩
theorem CS.own {a : Addr} {H : Hp} {c l : Addr} {o : HO} (h : CS a H c) (n : l ≠ c ∧ l ≠ a) : CS a (upd H l o) c := by
  obtain ⟨ns, i, d, m, z, h1, h2, h3, h4⟩ := h
  exact ⟨ns, i, d, m, z, by rw [upd_ne n.1.symm]; exact h1, by rw [upd_ne n.2.symm]; exact h2, h3, h4⟩
def spFill : Sp := fun vs H Q _ => ∃ c a, vs = [.ref c] ∧ CS a H c ∧ ∀ (d : Int) H', Kp [c] H H' → CS a H' c → Q (.int d) H'
def spTake : Sp := fun vs H Q _ => ∃ (c a : Addr) (m : Int), vs = [.ref c, .int m] ∧ CS a H c ∧ 0 < m ∧ m < 1073741824 ∧ ∀ (d : Int) H', 0 ≤ d → d < m → Kp [c] H H' → CS a H' c → Q (.int d) H'
theorem at_ints {ns : List Int} {i : Int} (h0 : 0 ≤ i) (h : i < ((ns.map V.int).length : Nat)) : ∃ v, atI (ns.map V.int) i = some (.int v) := by
  have e : i = ((i.toNat : Nat) : Int) := by omega
  have hk : i.toNat < ns.length := by
    rw [List.length_map] at h
    omega
  refine ⟨ns[i.toNat], at_of e ?_⟩
  rw [List.getElem?_map, List.getElem?_eq_getElem hk]
  rfl
theorem last_int {ns : List Int} (h : (ns.map V.int).isEmpty = false) : ∃ v, atI (ns.map V.int) (-1) = some (.int v) := by
  have n : ns ≠ [] := by
    rintro rfl
    cases h
  refine ⟨ns.getLast n, ?_⟩
  have e : ns.map V.int = ns.dropLast.map V.int ++ [V.int (ns.getLast n)] := by
    rw [← List.map_singleton (f := V.int), ← List.map_append, List.dropLast_concat_getLast]
  rw [e]
  exact atI_last _ _

abbrev s_law_fill : Stmt := top 11
abbrev N_law_fill : List Str := ["c", "number"]
theorem sc_law_fill : FnScope N_law_fill ["c"] (defScope s_law_fill) := ⟨rfl, rfl, rfl, by decide +kernel, rfl, by decide +kernel, by decide +kernel⟩
abbrev s_law_take : Stmt := top 12
abbrev N_law_take : List Str := ["c", "many", "digit"]
theorem sc_law_take : FnScope N_law_take ["c", "many"] (defScope s_law_take) := ⟨rfl, rfl, rfl, by decide +kernel, rfl, by decide +kernel, by decide +kernel⟩
section
variable {P : Program} {w : World} {K : PySem.W.Frag} {mg : Str → Option Value} {base : Heap} {aR : Addr} {tL tF : Tok}
theorem ok_fill (F : Df K mg "_law_fill" s_law_fill ["c"]) (T : Txt K mg aR tL tF) : Cal P w K mg base "_law_fill" ["c"] 1 spFill := by
  refine F.ok sc_law_fill (fun vs H Q E h => ?_) (fun f cdv A outer s H vs Q E hr h => ?_)
  · obtain ⟨c, a, rfl, _⟩ := h
    rfl
  obtain ⟨c, a, rfl, ⟨ns, i, d, k, z, hc, ha, h0, hne⟩, q⟩ := h
  refine ⟨_, (pss_cons (ps_asg (pe_op op_add (pe_ix ix_list (pv 0) pe_int (fun _ _ => rfl)) pe_int) (pg_sub (pv 0) pe_int set_list))
      (pss_cons (ps_set (i := 1) sc_law_fill.nd rfl (Or.inl rfl) (pe_op op_add (pe_op op_mul (pe_ix ix_list (pv 0) pe_int (fun _ _ => rfl)) pe_int) pe_int))
      (Evl.pss_cut (ps_if (pt_cmpR op_lt (pe_ix ix_list (pv 0) pe_int (fun _ _ => rfl)) (pe_callB call_len_seq (by rfl) T.z_len (by decide +kernel) (pa_cons (pe_ix ix_list (pv 0) pe_int (fun _ _ => rfl)) pa_nil)) (nomark _)) (pss_cons (ps_set (i := 1) sc_law_fill.nd rfl (Or.inl rfl) (pe_callB (call_max2 rfl) (by rfl) T.z_max (by decide +kernel) (pa_cons (pe_ix ix_list (pe_ix ix_list (pv 0) pe_int (fun _ _ => rfl)) (pe_ix ix_list (pv 0) pe_int (fun _ _ => rfl)) (fun _ _ => rfl)) (pa_cons (pe_op op_sub (pe_op op_sub pe_int pe_int) (pe_ix ix_list (pe_ix ix_list (pv 0) pe_int (fun _ _ => rfl)) (pe_ix ix_list (pv 0) pe_int (fun _ _ => rfl)) (fun _ _ => rfl))) pa_nil))))
      (pss_cons (ps_asg (pe_op op_add (pe_ix ix_list (pv 0) pe_int (fun _ _ => rfl)) pe_int) (pg_sub (pv 0) pe_int set_list))
      (pss_one (ps_if (pt_cmpR op_ge (pv 1) (pe_op op_pow pe_int pe_int) (nomark _)) (pss_one (ps_ret (pv 1))) pss_nil)))) pss_nil)
      (Evl.pss_cut (ps_if (PW.pt (pw_and (pt_truth (pe_ix ix_list (pv 0) pe_int (fun _ _ => rfl)) (by intro _; rfl)) (pw_and1 (pt_cmpR op_ge (pe_ix ix_list (pv 0) pe_int (fun _ _ => rfl)) (pe_callB call_len_seq (by rfl) T.z_len (by decide +kernel) (pa_cons (pe_ix ix_list (pv 0) pe_int (fun _ _ => rfl)) pa_nil)) (nomark _))))) (pss_one (ps_set (i := 1) sc_law_fill.nd rfl (Or.inl rfl) (pe_op op_add (pv 1) (pe_op op_modN (pe_callTy call_int1 (by rfl) T.z_int (by decide +kernel) (pa_cons (pe_ix ix_list (pe_ix ix_list (pv 0) pe_int (fun _ _ => rfl)) (pe_un un_neg pe_int) (fun _ _ => rfl)) pa_nil)) pe_int)))) pss_nil)
      (pss_cons (ps_set (i := 1) sc_law_fill.nd rfl (Or.inl rfl) (pe_op op_modN (pe_callTy call_int1 (by rfl) T.z_int (by decide +kernel) (pa_cons (pe_op op_add (pe_op op_mul (pv 1) pe_int) (pe_op op_mul (pe_ix ix_list (pv 0) pe_int (fun _ _ => rfl)) pe_int)) pa_nil)) pe_int))
      (pss_one (ps_ret (pe_op op_add (pe_op op_fdivN (pe_callTy call_int1 (by rfl) T.z_int (by decide +kernel) (pa_cons (pe_op op_add (pe_op op_add (pe_op op_mul (pv 1) (pv 1)) (pe_op op_mul (pe_ix ix_list (pv 0) pe_int (fun _ _ => rfl)) pe_int)) pe_int) pa_nil)) pe_int) pe_int)))))))), ?_⟩
  walk_at "rd"
  refine r_ixL hc rfl ?_
  walk_at "rd"
  refine r_set hc rfl ?_
  walk_at "rd"
  refine r_ixL upd_same rfl ?_
  walk_at "rd"
  refine r_i (.inr (by decide)) ?_
  walk_at "rd"
  refine r_cut (fun σ H' => ∃ (n : Int) (i' : Int), σ = [some (.ref c), some (.int n)] ∧ Kp [c] H H' ∧ H' c = some (.lst [.ref a, .int i', .int d, .int (k + 1), .int z]) ∧ H' a = some (.lst (ns.map V.int)) ∧ 0 ≤ i') ?_ ?_
  · walk_at "rd"
    refine r_ixL upd_same rfl ?_
    walk_at "rd"
    have ha1 : (upd H c (.lst [.ref a, .int i, .int d, .int (k + 1), .int z])) a = some (.lst (ns.map V.int)) := by rw [upd_ne hne]; exact ha
    have k1 : Kp [c] H (upd H c (.lst [.ref a, .int i, .int d, .int (k + 1), .int z])) := (Kp.refl _ _).at (by simp)
    refine r_ixL upd_same rfl ?_
    walk_at "rd"
    refine ⟨a, _, rfl, .inl (SqL.of ha1), ?_⟩
    walk_at "rd"
    refine if_2 (fun c1 => ?_) (fun c1 => ?_)
    · obtain ⟨v, hv⟩ := at_ints h0 (by simpa using c1)
      walk_at "rd"
      refine r_ixL upd_same rfl ?_
      walk_at "rd"
      refine r_ixL upd_same rfl ?_
      walk_at "rd"
      refine r_ixL ha1 hv ?_
      walk_at "rd"
      refine r_ixL upd_same rfl ?_
      walk_at "rd"
      refine r_ixL upd_same rfl ?_
      walk_at "rd"
      refine r_ixL ha1 hv ?_
      walk_at "rd"
      refine ⟨_, _, rfl, ?_⟩
      walk_at "rd"
      refine r_ixL upd_same rfl ?_
      walk_at "rd"
      refine r_set upd_same rfl ?_
      have k2 : Kp [c] H (upd (upd H c (.lst [.ref a, .int i, .int d, .int (k + 1), .int z])) c (.lst [.ref a, .int (i + 1), .int d, .int (k + 1), .int z])) := k1.at (by simp)
      have ha2 : (upd (upd H c (.lst [.ref a, .int i, .int d, .int (k + 1), .int z])) c (.lst [.ref a, .int (i + 1), .int d, .int (k + 1), .int z])) a = some (.lst (ns.map V.int)) := by rw [upd_ne hne]; exact ha1
      walk_at "rd"
      refine r_i ⟨by decide, by decide, by decide⟩ ?_
      walk_at "rd"
      refine if_2 (fun c2 => ?_) (fun c2 => ?_)
      · walk_at "rd"
        exact q _ _ k2 ⟨ns, i + 1, d, k + 1, z, upd_same, ha2, by omega, hne⟩
      · walk_at "rd"
        exact ⟨_, i + 1, rfl, k2, upd_same, ha2, by omega⟩
    · walk_at "rd"
      exact ⟨_, i, rfl, k1, upd_same, ha1, h0⟩
  · rintro σ H1 ⟨n, j, rfl, k1, hc1, ha1, hj⟩
    have cs : CS a H1 c := ⟨ns, j, d, k + 1, z, hc1, ha1, hj, hne⟩
    refine r_cut (fun σ H' => ∃ (n : Int), σ = [some (.ref c), some (.int n)] ∧ H' = H1) ?_ ?_
    · walk_at "rd"
      refine r_ixL hc1 rfl ?_
      walk_at "rd"
      refine ⟨_, .inl ⟨_, SqL.of ha1, rfl⟩, if_2 (fun c1 => ?_) (fun c1 => ?_)⟩
      · walk_at "rd"
        refine r_ixL hc1 rfl ?_
        walk_at "rd"
        refine r_ixL hc1 rfl ?_
        walk_at "rd"
        refine ⟨a, _, rfl, .inl (SqL.of ha1), ?_⟩
        walk_at "rd"
        refine if_2 (fun c2 => ?_) (fun c2 => ?_)
        · obtain ⟨v, hv⟩ := last_int (by simpa using c1)
          walk_at "rd"
          refine r_ixL hc1 rfl ?_
          walk_at "rd"
          refine ⟨1, rfl, ?_⟩
          walk_at "rd"
          refine r_ixL ha1 hv ?_
          walk_at "rd"
          refine .inl ⟨_, rfl, ?_⟩
          walk_at "rd"
          refine r_i (by decide) ?_
          walk_at "rd"
          exact ⟨_, rfl, rfl⟩
        · walk_at "rd"
          exact ⟨_, rfl, rfl⟩
      · walk_at "rd"
        exact ⟨_, rfl, rfl⟩
    · rintro σ H2 ⟨n2, rfl, rfl⟩
      walk_at "rd"
      refine r_i (.inr (by decide)) ?_
      walk_at "rd"
      refine r_ixL hc1 rfl ?_
      walk_at "rd"
      refine r_i (.inr (by decide)) ?_
      walk_at "rd"
      refine .inl ⟨_, rfl, ?_⟩
      walk_at "rd"
      refine r_i (by decide) ?_
      walk_at "rd"
      have lo := Int.fmod_nonneg_of_pos (n2 * 48271 + (k + 1) * 69621) (show (0 : Int) < 2147483647 by decide)
      have hi := Int.fmod_lt_of_pos (n2 * 48271 + (k + 1) * 69621) (show (0 : Int) < 2147483647 by decide)
      generalize (n2 * 48271 + (k + 1) * 69621).fmod 2147483647 = g at lo hi ⊢
      refine r_i (.inl ⟨by omega, by omega⟩) ?_
      walk_at "rd"
      refine r_ixL hc1 rfl ?_
      walk_at "rd"
      refine r_i (.inr (by decide)) ?_
      walk_at "rd"
      refine .inl ⟨_, rfl, ?_⟩
      walk_at "rd"
      refine r_i ⟨by decide, by decide⟩ ?_
      walk_at "rd"
      exact q _ _ k1 cs
theorem ok_take (F : Df K mg "_law_take" s_law_take ["c", "many"]) (T : Txt K mg aR tL tF) (C_law_fill : Cal P w K mg base "_law_fill" ["c"] 1 spFill) : Cal P w K mg base "_law_take" ["c", "many"] 2 spTake := by
  refine F.ok sc_law_take (fun vs H Q E h => ?_) (fun f cdv A outer s H vs Q E hr h => ?_)
  · obtain ⟨c, a, m, rfl, _⟩ := h
    rfl
  obtain ⟨c, a, m, rfl, cs, hm, hm2, q⟩ := h
  obtain ⟨ns, i, d, k, z, hc, ha, h0, hne⟩ := id cs
  refine ⟨_, (Evl.pss_cut (ps_if (pt_cmpR op_lt (pe_ix ix_list (pv 0) pe_int (fun _ _ => rfl)) (pv 1) (nomark _)) (pss_one (ps_asg (pe_cal C_law_fill hr rfl (pa_cons (pv 0) pa_nil)) (pg_sub (pv 0) pe_int set_list))) pss_nil)
      (pss_cons (ps_set (i := 2) sc_law_take.nd rfl (Or.inl rfl) (pe_op op_modN (pe_callTy call_int1 (by rfl) T.z_int (by decide +kernel) (pa_cons (pe_ix ix_list (pv 0) pe_int (fun _ _ => rfl)) pa_nil)) (pv 1)))
      (pss_cons (ps_asg (pe_op op_fdivN (pe_ix ix_list (pv 0) pe_int (fun _ _ => rfl)) (pv 1)) (pg_sub (pv 0) pe_int set_list))
      (pss_one (ps_ret (pv 2)))))), ?_⟩
  refine r_cut (fun σ H' => σ = [some (.ref c), some (.int m), none] ∧ Kp [c] H H' ∧ CS a H' c) ?_ ?_
  · walk_at "rd"
    refine r_ixL hc rfl ?_
    walk_at "rd"
    refine if_2 (fun c1 => ?_) (fun c1 => ?_)
    · walk_at "rd"
      refine ⟨c, a, rfl, cs, fun d' H1 k1 cs1 => ?_⟩
      obtain ⟨ns1, i1, d1, n1, z1, hc1, ha1, h01, hne1⟩ := id cs1
      walk_at "rd"
      refine r_set hc1 rfl ?_
      exact ⟨rfl, k1.at (by simp), ns1, i1, d', n1, z1, upd_same, by rw [upd_ne hne1]; exact ha1, h01, hne1⟩
    · walk_at "rd"
      exact ⟨rfl, Kp.refl _ _, cs⟩
  · rintro σ H1 ⟨rfl, k1, cs1⟩
    obtain ⟨ns1, i1, d1, n1, z1, hc1, ha1, h01, hne1⟩ := id cs1
    walk_at "rd"
    refine r_ixL hc1 rfl ?_
    walk_at "rd"
    refine .inl ⟨_, rfl, ?_⟩
    walk_at "rd"
    refine r_i (by omega) ?_
    walk_at "rd"
    refine r_ixL hc1 rfl ?_
    walk_at "rd"
    refine r_i ⟨by omega, by omega⟩ ?_
    walk_at "rd"
    refine r_set hc1 rfl ?_
    walk_at "rd"
    exact q _ _ (Int.fmod_nonneg_of_pos d1 hm) (Int.fmod_lt_of_pos d1 hm) (k1.at (by simp)) ⟨ns1, i1, _, n1, z1, upd_same, by rw [upd_ne hne1]; exact ha1, h01, hne1⟩
end
end K01
end

section
/-! Law k01: the start, a drawn type, a drawn signature. -/
namespace K01
open PySem L2 PyProof.Rows PySem.Spec Lc
local macro_rules | `(tactic| walk_at "rd") => `(tactic| repeat (first
  | with_reducible refine r_seq ?_ | with_reducible refine r_mknx ?_ | with_reducible refine r_mkrt ?_ | with_reducible refine r_asg ?_ | with_reducible refine r_name ?_ | with_reducible refine r_next ?_
  | with_reducible refine r_drop ?_ | with_reducible refine r_ret ?_ | with_reducible refine r_if ?_
  | ((with_reducible refine' r_var ?e ?_); (case e => rfl)) | with_reducible refine r_c ?_ | with_reducible refine r_op ?_ | with_reducible refine r_un ?_ | with_reducible refine r_test ?_ | with_reducible refine r_tb ?_
  | with_reducible refine r_and ?_ | with_reducible refine r_or ?_ | with_reducible refine r_not ?_ | with_reducible refine r_andV ?_ | with_reducible refine r_orV ?_ | with_reducible refine r_notV ?_ | with_reducible refine r_bl ?_
  | with_reducible refine r_cb ?_ | with_reducible refine r_cons ?_ | with_reducible refine r_nil ?_ | with_reducible refine r_tup ?_ | with_reducible refine r_lst ?_ | with_reducible refine r_call ?_
  | with_reducible refine r_i0 ?_ | with_reducible refine r_yes ?_ | with_reducible refine r_chain ?_ | with_reducible refine if_t rfl ?_ | with_reducible refine if_f rfl ?_ | with_reducible refine r_nt ?_ | ((with_reducible refine r_eq ?e ?_); (case e => rfl)) | ((with_reducible refine r_ne ?e ?_); (case e => rfl))
  | with_reducible refine r_sub ?_ | with_reducible refine r_sl ?_ | with_reducible refine r_nopart ?_ | with_reducible refine r_part ?_ | with_reducible refine r_int ?_ | with_reducible refine r_bm ?_ | with_reducible refine r_bm0 ?_))

local macro_rules | `(tactic| walk_at "dt") => `(tactic| repeat (first | assumption | exact dt_str | exact dt_int | exact dt_bl | exact dt_non | exact Dts.nil | refine Dts.cons ?_ ?_ | refine Dt.mono (by assumption) ?_))

def spStart (K : PySem.W.Frag) : Sp := fun vs H Q _ => ∃ (s : Addr) (ns : List Int), vs = [.ref s] ∧ SqL K H s (ns.map V.int) ∧ ns.length ≤ 63 ∧ ∀ c a H', Kp [] H H' → H c = none → CS a H' c → Q (.ref c) H'
structure KindOk (h : Nat) (d : D) : Prop where
  wd : Wd okS 3 d
  dp : d.dp ≤ 2 * h + 2
  sz : d.sz ≤ 4 ^ (h + 1)
theorem KindOk.up {h j : Nat} {d : D} (k : KindOk h d) (l : h ≤ j) : KindOk j d :=
  ⟨k.wd, Nat.le_trans k.dp (by omega), Nat.le_trans k.sz (Nat.pow_le_pow_right (by decide) (by omega))⟩
theorem kind_ok {h : Nat} {ds : List D} {x : Str} (hx : okS x) (few : ds.length ≤ 3) (hh : h = 0 → ds = []) (all : ∀ d ∈ ds, KindOk (h - 1) d) : KindOk h (.tup [.tup ds, .str x]) := by
  have e1 : (D.tup [.tup ds, .str x]).dp = 1 + max (1 + dps ds) (max 1 0) := rfl
  have e2 : (D.tup [.tup ds, .str x]).sz = 1 + ((1 + szs ds) + (1 + 0)) := rfl
  have a1 : dps ds ≤ 2 * (h - 1) + 2 := dps_max fun d hd => (all d hd).dp
  have a2 : szs ds ≤ ds.length * 4 ^ (h - 1 + 1) := szs_max fun d hd => (all d hd).sz
  refine ⟨⟨by show 2 ≤ 3; decide, ⟨few, Wds.mem.mpr fun d hd => (all d hd).wd⟩, hx, trivial⟩, ?_, ?_⟩
  · by_cases z : h = 0
    · subst z
      rw [e1, hh rfl]
      decide
    · omega
  · by_cases z : h = 0
    · subst z
      rw [e2, hh rfl]
      decide
    · have e3 : h - 1 + 1 = h := by omega
      rw [e3] at a2
      have a3 : ds.length * 4 ^ h ≤ 3 * 4 ^ h := Nat.mul_le_mul_right _ few
      have a4 : 4 ^ (h + 1) = 4 ^ h * 4 := Nat.pow_succ ..
      have a5 : 4 ≤ 4 ^ h := by
        have := Nat.pow_le_pow_right (n := 4) (by decide) (show 1 ≤ h by omega)
        simpa using this
      omega
def spKind (n : Nat) : Sp := fun vs H Q _ => ∃ (c a : Addr) (h : Nat), vs = [.ref c, .int h] ∧ h < n ∧ CS a H c ∧ ∀ v d H', Kp [c] H H' → CS a H' c → Dt H' d v → KindOk h d → Q v H'

abbrev s_law_start : Stmt := top 10
abbrev N_law_start : List Str := ["script", "cell"]
theorem sc_law_start : FnScope N_law_start ["script"] (defScope s_law_start) := ⟨rfl, rfl, rfl, by decide +kernel, rfl, by decide +kernel, by decide +kernel⟩
abbrev s_law_kind : Stmt := top 14
abbrev N_law_kind : List Str := ["c", "high", "sort", "many", "k"]
theorem sc_law_kind : FnScope N_law_kind ["c", "high"] (defScope s_law_kind) := ⟨rfl, rfl, rfl, by decide +kernel, rfl, by decide +kernel, by decide +kernel⟩
section
variable {P : Program} {w : World} {K : PySem.W.Frag} {mg : Str → Option Value} {base : Heap} {aR : Addr} {tL tF : Tok}
theorem ok_start (F : Df K mg "_law_start" s_law_start ["script"]) (T : Txt K mg aR tL tF) : Cal P w K mg base "_law_start" ["script"] 1 (spStart K) := by
  refine F.ok sc_law_start (fun vs H Q E h => ?_) (fun f cdv A outer s H vs Q E hr h => ?_)
  · obtain ⟨c, ns, rfl, _⟩ := h
    rfl
  obtain ⟨sa, ns, rfl, hS, hl, q⟩ := h
  refine ⟨_, (pss_one (ps_ret (pe_lst (pa_cons (pe_lc (own := [("cell", 1)]) (g := gName 1) rfl sc_law_start.nd (pi_list (pe_slice sl_list (pv 0) po_none (po_some pe_int))) (blkOk_by (N := N_law_start) (sc := defScope s_law_start) (by decide +kernel)) (fun _ _ _ _ _ => (pg_name (i := 1) sc_law_start.nd rfl (Or.inl rfl))) (fun _ _ _ _ _ => pts_nil) (fun _ _ _ _ _ => (pe_callTy call_int1 (by rfl) T.z_int (by decide +kernel) (pa_cons (pv 1) pa_nil)))) (pa_cons pe_int (pa_cons pe_int (pa_cons pe_int (pa_cons pe_int pa_nil)))))))), ?_⟩
  walk_at "rd"
  refine ⟨_, rfl, ?_⟩
  walk_at "rd"
  refine ⟨sa, _, rfl, hS, fun p np => ?_⟩
  obtain ⟨ms, em, lm⟩ := cut_map (f := V.int) ns none (some 63)
  rw [em]
  have k1 : Kp [] H (upd H p (.lst (ms.map V.int))) := (Kp.refl _ _).up np
  refine ⟨p, rfl, ⟨_, SqL.of upd_same⟩, fun L nL => lc_it (walk_list (K := K) (a := p) (xs := ms.map V.int)) (fun i H' => Kp [] (upd H p (.lst (ms.map V.int))) H' ∧ H' L = some (.lst ((ms.take i).map V.int))) ⟨(Kp.refl _ _).up nL, upd_same⟩ (fun i H' _ k => SqL.of (k.1 p _ (fun z => nomatch z) upd_same)) ?_ ?_⟩
  · rintro i y H1 H2 hi ⟨k2, hL⟩ ⟨rfl, hy⟩
    rw [List.getElem?_map] at hy
    obtain ⟨n, hn, rfl⟩ := Option.map_eq_some_iff.mp hy
    walk_at "rd"
    refine ⟨rfl, ?_⟩
    walk_at "rd"
    refine .inl ⟨n, rfl, _, hL, ?_, k2.own nL, ?_⟩
    · rw [List.length_map]
      have := List.length_take_le i ms
      rw [List.length_map] at hi
      exact Nat.lt_of_le_of_lt (show _ ≤ 1000 by omega) (by decide)
    · rw [upd_same, take_one hn, List.map_append]
      rfl
  · rintro H1 ⟨k2, hL⟩
    walk_at "rd"
    refine r_lstN (by simp) fun c H2 k3 _ nc hc => ?_
    rw [List.length_map, List.take_length] at hL
    refine q c L H2 ((k1.trans k2).trans k3) ?_ ?_
    · exact (k1.trans k2).none nc
    · have hL2 := k3 L _ (fun z => nomatch z) hL
      exact ⟨ms, 0, 0, 0, 20, hc, hL2, Int.le_refl _, fun z => by rw [z, nc] at hL; cases hL⟩
theorem ok_kind0 {k n : Nat} (F : Df K mg "_law_kind" s_law_kind ["c", "high"]) (T : Txt K mg aR tL tF) (hk : 2 ≤ k) (C_law_take : Cal P w K mg base "_law_take" ["c", "many"] 2 spTake) (C_law_kind : Cal P w K mg base "_law_kind" ["c", "high"] k (spKind n)) :
    Cal P w K mg base "_law_kind" ["c", "high"] (k + 1) (spKind (n + 1)) := by
  replace C_law_take := C_law_take.mono hk
  refine F.ok sc_law_kind (fun vs H Q E h => ?_) (fun f cdv A outer s H vs Q E hr h => ?_)
  · obtain ⟨c, a, h, rfl, _⟩ := h
    rfl
  obtain ⟨c, a, h, rfl, hn, cs, q⟩ := h
  refine ⟨_, (pss_cons (ps_set (i := 2) sc_law_kind.nd rfl (Or.inl rfl) (pe_ix ix_list (pe_lst (pa_cons pe_str (pa_cons pe_str (pa_cons pe_str pa_nil)))) (pe_cal C_law_take hr rfl (pa_cons (pv 0) (pa_cons pe_int pa_nil))) (fun _ _ => rfl)))
      (pss_cons (ps_if (pt_cmpR op_eq (pv 1) pe_int (nomark _)) (pss_one (ps_ret (pe_tup (pa_cons (pe_tup pa_nil) (pa_cons (pv 2) pa_nil))))) pss_nil)
      (pss_cons (ps_set (i := 3) sc_law_kind.nd rfl (Or.inl rfl) (pe_ix ix_list (pe_lst (pa_cons pe_int (pa_cons pe_int (pa_cons pe_int (pa_cons pe_int (pa_cons pe_int pa_nil)))))) (pe_cal C_law_take hr rfl (pa_cons (pv 0) (pa_cons pe_int pa_nil))) (fun _ _ => rfl)))
      (pss_one (ps_ret (pe_tup (pa_cons (pe_callTy call_tuple_of (by rfl) T.z_tuple (by decide +kernel) (pa_cons (pe_lc (own := [("k", 4)]) (g := gName 4) rfl sc_law_kind.nd (pi_range1 rfl T.z_range (pa_cons (pv 3) pa_nil)) (blkOk_by (N := N_law_kind) (sc := defScope s_law_kind) (by decide +kernel)) (fun _ _ _ _ _ => (pg_name (i := 4) sc_law_kind.nd rfl (Or.inl rfl))) (fun _ _ _ _ _ => pts_nil) (fun _ _ _ _ _ => (pe_cal C_law_kind hr rfl (pa_cons (pv 0) (pa_cons (pe_ix (r := rIxL K) ix_list (pe_lst (pa_cons (pe_op op_sub (pv 1) pe_int) (pa_cons pe_int pa_nil))) (pe_callTy call_int1 (by rfl) T.z_int (by decide +kernel) (pa_cons (pe_cmpR op_ne (pe_cal C_law_take hr rfl (pa_cons (pv 0) (pa_cons pe_int pa_nil))) pe_int (nomark _)) pa_nil)) (fun _ _ => rfl)) pa_nil))))) pa_nil)) (pa_cons (pv 2) pa_nil)))))))), ?_⟩
  walk_at "rd"
  refine r_lstN (by decide) fun l1 H1 k1 t1 n1 h1 => ?_
  walk_at "rd"
  refine ⟨c, a, 3, rfl, cs.keep k1, by decide, by decide, fun i H2 lo hi k2 cs2 => ?_⟩
  have ne1 : l1 ≠ c := (cs.ne n1).1
  obtain ⟨v, hv, mv, _⟩ := at_mem (xs := [.str "a", .str "a", .str "b"]) lo hi
  have kc2 : Kp [c] H H2 := (k1.of0).trans k2
  walk_at "rd"
  refine r_ixL (k2 l1 _ (by simpa using ne1) h1) hv ?_
  walk_at "rd"
  obtain ⟨x, rfl, ox⟩ : ∃ x, v = .str x ∧ okS x := by
    simp only [List.mem_cons, List.not_mem_nil, or_false] at mv
    rcases mv with rfl | rfl | rfl
    all_goals exact ⟨_, rfl, by decide, by decide⟩
  refine if_2 (fun c1 => ?_) (fun c1 => ?_)
  · have h0 : h = 0 := by
      have := V.int.inj (of_decide_eq_true c1)
      omega
    subst h0
    walk_at "rd"
    refine r_tupN Dts.nil (by decide) fun p1 H3 k3 t3 n3 e3 d3 => ?_
    walk_at "rd"
    refine r_tupN (ds := [.tup [], .str x]) (by walk_at "dt") (by simp) fun p2 H4 k4 t4 n4 e4 d4 => ?_
    walk_at "rd"
    exact q _ _ H4 (kc2.trans (k3.trans k4).of0) (cs2.keep (k3.trans k4)) d4 (kind_ok ox (by decide) (fun _ => rfl) (fun d hd => nomatch hd))
  have h0 : h ≠ 0 := fun z => by
    subst z
    exact absurd rfl (of_decide_eq_false c1)
  walk_at "rd"
  refine r_lstN (by decide) fun l2 H3 k3 t3 n3 e3 => ?_
  walk_at "rd"
  refine ⟨c, a, 5, rfl, cs2.keep k3, by decide, by decide, fun j H4 lo2 hi2 k4 cs4 => ?_⟩
  have ne2 : l2 ≠ c := (cs2.ne n3).1
  obtain ⟨v2, hv2, mv2, _⟩ := at_mem (xs := [.int 0, .int 1, .int 1, .int 2, .int 3]) lo2 hi2
  have kc4 : Kp [c] H H4 := (kc2.trans k3.of0).trans k4
  walk_at "rd"
  refine r_ixL (k4 l2 _ (by simpa using ne2) e3) hv2 ?_
  walk_at "rd"
  obtain ⟨m, rfl, om⟩ : ∃ m : Nat, v2 = .int m ∧ m ≤ 3 := by
    simp only [List.mem_cons, List.not_mem_nil, or_false] at mv2
    rcases mv2 with rfl | rfl | rfl | rfl | rfl
    · exact ⟨0, rfl, by decide⟩
    · exact ⟨1, rfl, by decide⟩
    · exact ⟨1, rfl, by decide⟩
    · exact ⟨2, rfl, by decide⟩
    · exact ⟨3, rfl, by decide⟩
  refine ⟨_, rfl, m, rfl, by omega, by omega, fun L nL => lc_it walk_range (fun i H' => ∃ ys ds, H' L = some (.lst ys) ∧ Dts H' ds ys ∧ ds.length = i ∧ Kp [c] H4 H' ∧ CS a H' c ∧ ∀ d ∈ ds, KindOk (h - 1) d)
    ⟨[], [], upd_same, rfl, rfl, (Kp.refl _ _).up nL, cs4.keep ((Kp.refl _ _).up nL), fun d hd => nomatch hd⟩ (fun _ _ _ _ => trivial) ?_ ?_⟩
  · rintro i y H0 H5 hi5 ⟨ys, ds, eL, hds, ldn, k5, cs5, all⟩ ⟨rfl, rfl⟩
    have neL : L ≠ c := (cs4.ne nL).1
    walk_at "rd"
    refine ⟨rfl, ?_⟩
    walk_at "rd"
    refine r_lstN (by simp) fun l3 H6 k6 t6 n6 e6 => ?_
    walk_at "rd"
    refine ⟨c, a, 3, rfl, cs5.keep k6, by decide, by decide, fun g H7 lo3 hi3 k7 cs7 => ?_⟩
    have ne3 : l3 ≠ c := (cs5.ne n6).1
    walk_at "rd"
    refine .inr ⟨_, rfl, ?_⟩
    obtain ⟨g2, hg2, lg2⟩ : ∃ g2 : Nat, atI [V.int ((h : Int) - 1), .int 0] (if (!decide (V.int g = V.int 0)) = true then 1 else 0) = some (.int (g2 : Nat)) ∧ g2 ≤ h - 1 := by
      cases (!decide (V.int g = V.int 0)) with
      | true => exact ⟨0, rfl, Nat.zero_le _⟩
      | false => exact ⟨h - 1, by show some (V.int ((h : Int) - 1)) = _; rw [show ((h : Int) - 1) = ((h - 1 : Nat) : Int) by omega], Nat.le_refl _⟩
    refine r_ixL (k7 l3 _ (by simpa using ne3) e6) hg2 ?_
    walk_at "rd"
    refine ⟨c, a, g2, rfl, by omega, cs7, fun v8 d8 H8 k8 cs8 hd8 ok8 => ?_⟩
    have kk : Kp [c] H5 H8 := (k6.of0.trans k7).trans k8
    have eL8 : H8 L = some (.lst ys) := kk L _ (by simpa using neL) eL
    have tt : KeepT H5 H8 := cs5.t kk
    refine ⟨ys, eL8, ?_, ys ++ [v8], ds ++ [d8], upd_same, ?_, ?_, ?_, ?_, ?_⟩
    · have := hds.len
      exact Nat.lt_of_le_of_lt (show _ ≤ 1000 by omega) (by decide)
    · exact Dts.mono (fun p xs z => by rw [upd_ne (ne_of z eL8 (fun q => by cases q))]; exact z) ((hds.mono tt).snoc hd8)
    · rw [List.length_append, ldn]
      rfl
    · exact (k5.trans kk).own nL
    · exact cs8.own (cs4.ne nL)
    · intro d hd
      rcases List.mem_append.mp hd with hd | hd
      · exact all d hd
      · rw [List.mem_singleton.mp hd]
        exact ok8.up lg2
  · rintro H5 ⟨ys, ds, eL, hds, ldn, k5, cs5, all⟩
    walk_at "rd"
    refine ⟨L, ys, rfl, .inl ⟨SqL.of eL, fun l nl => ?_⟩⟩
    obtain ⟨k6, t6, d6⟩ := new_tup nl hds
    walk_at "rd"
    refine r_tupN (ds := [.tup ds, .str x]) (by walk_at "dt") (by simp) fun p2 H7 k7 t7 n7 e7 d7 => ?_
    walk_at "rd"
    have few : ds.length ≤ 3 := by
      rw [ldn]
      omega
    exact q _ _ H7 ((kc4.trans k5).trans (k6.trans k7).of0) (cs5.keep (k6.trans k7)) d7 (kind_ok ox few (fun z => absurd z h0) all)
end
end K01
end

section
/-! Law k01: a drawn signature. -/
namespace K01
open PySem L2 PyProof.Rows PySem.Spec Lc
local macro_rules | `(tactic| walk_at "rd") => `(tactic| repeat (first
  | with_reducible refine r_seq ?_ | with_reducible refine r_mknx ?_ | with_reducible refine r_mkrt ?_ | with_reducible refine r_asg ?_ | with_reducible refine r_name ?_ | with_reducible refine r_next ?_
  | with_reducible refine r_drop ?_ | with_reducible refine r_ret ?_ | with_reducible refine r_if ?_
  | ((with_reducible refine' r_var ?e ?_); (case e => rfl)) | with_reducible refine r_c ?_ | with_reducible refine r_op ?_ | with_reducible refine r_un ?_ | with_reducible refine r_test ?_ | with_reducible refine r_tb ?_
  | with_reducible refine r_and ?_ | with_reducible refine r_or ?_ | with_reducible refine r_not ?_ | with_reducible refine r_andV ?_ | with_reducible refine r_orV ?_ | with_reducible refine r_notV ?_ | with_reducible refine r_bl ?_
  | with_reducible refine r_cb ?_ | with_reducible refine r_cons ?_ | with_reducible refine r_nil ?_ | with_reducible refine r_tup ?_ | with_reducible refine r_lst ?_ | with_reducible refine r_call ?_
  | with_reducible refine r_i0 ?_ | with_reducible refine r_par ?_ | with_reducible refine r_two ?_ | with_reducible refine r_lc ?_ | with_reducible refine r_iL ?_ | with_reducible refine r_iT ?_ | with_reducible refine r_iS ?_ | with_reducible refine r_i1 ?_ | with_reducible refine r_yes ?_ | with_reducible refine r_chain ?_ | with_reducible refine if_t rfl ?_ | with_reducible refine if_f rfl ?_ | with_reducible refine r_nt ?_ | ((with_reducible refine r_eq ?e ?_); (case e => rfl)) | ((with_reducible refine r_ne ?e ?_); (case e => rfl))
  | with_reducible refine r_sub ?_ | with_reducible refine r_sl ?_ | with_reducible refine r_nopart ?_ | with_reducible refine r_part ?_ | with_reducible refine r_int ?_ | with_reducible refine r_bm ?_ | with_reducible refine r_bm0 ?_))

local macro_rules | `(tactic| walk_at "dt") => `(tactic| repeat' (first | (show Dt _ _ _; assumption) | exact dt_str | exact dt_int | exact dt_bl | exact dt_non | exact Dts.nil | refine' Dts.cons ?_ ?_ | (refine' Dt.mono ?kk ?_; (case kk => assumption)) | fail))

local macro_rules | `(tactic| walk_at "at") => `(tactic| repeat (first | assumption | (refine' Kp.get ?kk ?_; (case kk => assumption)) | fail))
local macro_rules | `(tactic| walk_at "kp") => `(tactic| repeat (first | assumption | exact Kp.refl _ _ | (refine' Kp.trans ?_ ?kk; (case kk => assumption)) | fail))
local macro_rules | `(tactic| walk_at "tup") => `(tactic| (refine' r_tupN ?h ?f ?k; (case h => walk_at "dt"); (case f => simp); skip))

def okB (x : Str) : Bool := decide (x.length ≤ 1000) && decide (x ≠ "o")
theorem okB_ok (x : Str) (h : okB x = true) : okS x := by
  unfold okB at h
  rw [Bool.and_eq_true] at h
  exact ⟨of_decide_eq_true h.1, of_decide_eq_true h.2⟩
/-- the last sign is no o -/
def lastB (x : Str) : Bool := match x.cps.toList.getLast? with
  | some c => c != 111
  | none => false
theorem ok_app {a n : Str} (la : a.length ≤ 10) (ln : n.length ≤ 100) (h : lastB n = true) : okS (a ++ n) := by
  have e : (a ++ n).cps.toList = a.cps.toList ++ n.cps.toList := Array.toList_append
  have l : (a ++ n).length = a.length + n.length := Array.size_append
  refine ⟨by omega, fun z => ?_⟩
  have e2 : (a ++ n).cps.toList = [111] := by
    rw [z]
    decide +kernel
  unfold lastB at h
  cases q : n.cps.toList.getLast? with
  | none =>
    rw [q] at h
    cases h
  | some c =>
    rw [q] at h
    rw [e] at e2
    have e3 : (a.cps.toList ++ n.cps.toList).getLast? = some c := by
      rw [List.getLast?_append, q]
      rfl
    rw [e2] at e3
    have e4 : (111 : Nat) = c := Option.some.inj e3
    subst e4
    cases h
structure RowOk (n : Str) (kd : D) : Prop where
  len : n.length ≤ 100
  last : lastB n = true
  kind : KindOk 3 kd
def RowP (H : Hp) (y : V) : Prop := ∃ n kd, Dt H (.tup [.str n, kd]) y ∧ RowOk n kd
theorem RowP.mono {H H' : Hp} {y : V} (t : KeepT H H') (h : RowP H y) : RowP H' y := by
  obtain ⟨n, kd, h1, h2⟩ := h
  exact ⟨n, kd, h1.mono t, h2⟩
def SigRow (d : D) : Prop := ∃ x kd, d = .tup [.str x, kd] ∧ okS x ∧ KindOk 3 kd
def spSigDraw : Sp := fun vs H Q _ => ∃ (c a : Addr), vs = [.ref c] ∧ CS a H c ∧ ∀ v ds H', Kp [c] H H' → CS a H' c → Dt H' (.tup ds) v → ds ≠ [] → ds.length ≤ 30 → (∀ d ∈ ds, SigRow d) → Q v H'
theorem kind3 {d : D} (h1 : wdB okB 3 d = true) (h2 : d.dp ≤ 8) (h3 : d.sz ≤ 256) : KindOk 3 d := ⟨wd_of okB_ok h1, h2, h3⟩

abbrev s_law_signature : Stmt := top 13
abbrev N_law_signature : List Str := ["c", "one", "rows", "front", "kept", "a", "b", "j", "row", "name", "kind"]
theorem sc_law_signature : FnScope N_law_signature ["c"] (defScope s_law_signature) := ⟨rfl, rfl, rfl, by decide +kernel, rfl, by decide +kernel, by decide +kernel⟩
section
variable {P : Program} {w : World} {K : PySem.W.Frag} {mg : Str → Option Value} {base : Heap} {aR : Addr} {tL tF : Tok}
theorem ok_signature (F : Df K mg "_law_signature" s_law_signature ["c"]) (T : Txt K mg aR tL tF) (C_law_take : Cal P w K mg base "_law_take" ["c", "many"] 2 spTake) (z_str : mg "str" = none) :
    Cal P w K mg base "_law_signature" ["c"] 3 spSigDraw := by
  refine F.ok sc_law_signature (fun vs H Q E h => ?_) (fun f cdv A outer s H vs Q E hr h => ?_)
  · obtain ⟨c, a, rfl, _⟩ := h
    rfl
  obtain ⟨c, a, rfl, cs, q⟩ := h
  refine ⟨_, (pss_cons (ps_asg (pe_tup (pa_cons (pe_tup (pa_cons (pe_tup pa_nil) (pa_cons pe_str pa_nil))) (pa_cons (pe_tup (pa_cons (pe_tup pa_nil) (pa_cons pe_str pa_nil))) pa_nil))) (pg_tup (by rfl) (pgs_cons (pg_name (i := 5) sc_law_signature.nd rfl (.inl rfl)) (pgs_cons (pg_name (i := 6) sc_law_signature.nd rfl (.inl rfl)) pgs_nil))))
      (pss_cons (ps_set (i := 1) sc_law_signature.nd rfl (Or.inl rfl) (pe_tup (pa_cons (pe_tup (pa_cons (pv 5) pa_nil)) (pa_cons pe_str pa_nil))))
      (pss_cons (ps_set (i := 2) sc_law_signature.nd rfl (Or.inl rfl) (pe_lst (pa_cons (pe_tup (pa_cons pe_str (pa_cons (pv 5) pa_nil))) (pa_cons (pe_tup (pa_cons pe_str (pa_cons (pe_tup (pa_cons (pe_tup (pa_cons (pv 5) (pa_cons (pv 5) pa_nil))) (pa_cons pe_str pa_nil))) pa_nil))) (pa_cons (pe_tup (pa_cons pe_str (pa_cons (pv 1) pa_nil))) (pa_cons (pe_tup (pa_cons pe_str (pa_cons (pe_tup (pa_cons (pe_tup (pa_cons (pv 1) pa_nil)) (pa_cons pe_str pa_nil))) pa_nil))) (pa_cons (pe_tup (pa_cons pe_str (pa_cons (pv 6) pa_nil))) (pa_cons (pe_tup (pa_cons pe_str (pa_cons (pe_tup (pa_cons (pe_tup (pa_cons (pv 5) (pa_cons (pv 6) pa_nil))) (pa_cons pe_str pa_nil))) pa_nil))) (pa_cons (pe_tup (pa_cons pe_str (pa_cons (pv 5) pa_nil))) pa_nil)))))))))
      (pss_cons (ps_set (i := 2) sc_law_signature.nd rfl (Or.inl rfl) (pe_op op_cat (pv 2) (pe_lst (pa_cons (pe_tup (pa_cons pe_str (pa_cons (pe_tup (pa_cons (pe_tup (pa_cons (pe_tup (pa_cons (pe_tup (pa_cons (pv 5) (pa_cons (pv 5) pa_nil))) (pa_cons pe_str pa_nil))) pa_nil)) (pa_cons pe_str pa_nil))) pa_nil))) (pa_cons (pe_tup (pa_cons pe_str (pa_cons (pe_tup (pa_cons (pe_tup (pa_cons (pv 1) (pa_cons (pv 6) pa_nil))) (pa_cons pe_str pa_nil))) pa_nil))) pa_nil)))))
      (pss_cons (ps_set (i := 3) sc_law_signature.nd rfl (Or.inr rfl) (pe_bm PySem.F.plainAttrs_str PySem.F.slot_str_join PySem.F.type_str_join mt_join pe_str (pa_cons (pe_lc (own := [("j", 7)]) (g := gName 7) rfl sc_law_signature.nd (pi_range1 rfl T.z_range (pa_cons (pe_cal C_law_take hr rfl (pa_cons (pv 0) (pa_cons pe_int pa_nil))) pa_nil)) (blkOk_by (N := N_law_signature) (sc := defScope s_law_signature) (by decide +kernel)) (fun _ _ _ _ _ => (pg_name (i := 7) sc_law_signature.nd rfl (Or.inl rfl))) (fun _ _ _ _ _ => pts_nil) (fun _ _ _ _ _ => (pe_ix ix_str pe_str (pe_cal C_law_take hr rfl (pa_cons (pv 0) (pa_cons pe_int pa_nil))) (fun _ _ => rfl)))) pa_nil)))
      (pss_cons (ps_set (i := 4) sc_law_signature.nd rfl (Or.inl rfl) (pe_op op_cat (pe_lst (pa_cons (pe_ix ix_list (pv 2) pe_int (fun _ _ => rfl)) (pa_cons (pe_ix ix_list (pv 2) pe_int (fun _ _ => rfl)) pa_nil))) (pe_lc (own := [("row", 8)]) (g := gName 8) rfl sc_law_signature.nd (pi_list (pe_op op_cat (pe_slice sl_list (pv 2) (po_some pe_int) (po_some pe_int)) (pe_slice sl_list (pv 2) (po_some pe_int) po_none))) (blkOk_by (N := N_law_signature) (sc := defScope s_law_signature) (by decide +kernel)) (fun _ _ _ _ _ => (pg_name (i := 8) sc_law_signature.nd rfl (Or.inl rfl))) (fun _ _ _ _ _ => pts_one (pt_cmpR op_ne (pe_cal C_law_take hr rfl (pa_cons (pv 0) (pa_cons pe_int pa_nil))) pe_int (nomark _))) (fun _ _ _ _ _ => (pv 8)))))
      (pss_one (ps_ret (pe_callTy call_tuple_of (by rfl) T.z_tuple (by decide +kernel) (pa_cons (pe_lc (own := [("name", 9), ("kind", 10)]) (g := gTup K 2 (gCons (gName 9) (gCons (gName 10) gNil))) rfl sc_law_signature.nd (pi_list (pv 4)) (blkOk_by (N := N_law_signature) (sc := defScope s_law_signature) (by decide +kernel)) (fun _ _ _ _ _ => (pg_tup (by rfl) (pgs_cons (pg_name (i := 9) sc_law_signature.nd rfl (Or.inl rfl)) (pgs_cons (pg_name (i := 10) sc_law_signature.nd rfl (Or.inl rfl)) pgs_nil)))) (fun _ _ _ _ _ => pts_nil) (fun _ _ _ _ _ => (pe_tup (pa_cons (pe_op op_add_str (pv 3) (pv 9)) (pa_cons (pv 10) pa_nil))))) pa_nil)))))))))), ?_⟩
  walk_at "rd"
  walk_at "tup"
  intro p1 G1 k1 t1 n1 e1 d1
  walk_at "rd"
  walk_at "tup"
  intro p2 G2 k2 t2 n2 e2 d2
  walk_at "rd"
  walk_at "tup"
  intro p3 G3 k3 t3 n3 e3 d3
  walk_at "rd"
  walk_at "tup"
  intro p4 G4 k4 t4 n4 e4 d4
  walk_at "rd"
  walk_at "tup"
  intro p5 G5 k5 t5 n5 e5 d5
  walk_at "rd"
  refine ⟨p5, _, rfl, SqT.of e5, rfl, _, _, rfl, ?_⟩
  walk_at "rd"
  refine ⟨_, _, rfl, ?_⟩
  walk_at "rd"
  refine ⟨rfl, ?_⟩
  walk_at "rd"
  walk_at "tup"
  intro p6 G6 k6 t6 n6 e6 d6
  walk_at "rd"
  walk_at "tup"
  intro p7 G7 k7 t7 n7 e7 d7
  walk_at "rd"
  walk_at "tup"
  intro p8 G8 k8 t8 n8 e8 d8
  walk_at "rd"
  walk_at "tup"
  intro p9 G9 k9 t9 n9 e9 d9
  walk_at "rd"
  walk_at "tup"
  intro p10 G10 k10 t10 n10 e10 d10
  walk_at "rd"
  walk_at "tup"
  intro p11 G11 k11 t11 n11 e11 d11
  walk_at "rd"
  walk_at "tup"
  intro p12 G12 k12 t12 n12 e12 d12
  walk_at "rd"
  walk_at "tup"
  intro p13 G13 k13 t13 n13 e13 d13
  walk_at "rd"
  walk_at "tup"
  intro p14 G14 k14 t14 n14 e14 d14
  walk_at "rd"
  walk_at "tup"
  intro p15 G15 k15 t15 n15 e15 d15
  walk_at "rd"
  walk_at "tup"
  intro p16 G16 k16 t16 n16 e16 d16
  walk_at "rd"
  walk_at "tup"
  intro p17 G17 k17 t17 n17 e17 d17
  walk_at "rd"
  walk_at "tup"
  intro p18 G18 k18 t18 n18 e18 d18
  walk_at "rd"
  walk_at "tup"
  intro p19 G19 k19 t19 n19 e19 d19
  walk_at "rd"
  walk_at "tup"
  intro p20 G20 k20 t20 n20 e20 d20
  walk_at "rd"
  refine r_lstN (by simp) fun l1 G21 k21 t21 n21 e21 => ?_
  walk_at "rd"
  walk_at "tup"
  intro p22 G22 k22 t22 n22 e22 d22
  walk_at "rd"
  walk_at "tup"
  intro p23 G23 k23 t23 n23 e23 d23
  walk_at "rd"
  walk_at "tup"
  intro p24 G24 k24 t24 n24 e24 d24
  walk_at "rd"
  walk_at "tup"
  intro p25 G25 k25 t25 n25 e25 d25
  walk_at "rd"
  walk_at "tup"
  intro p26 G26 k26 t26 n26 e26 d26
  walk_at "rd"
  walk_at "tup"
  intro p27 G27 k27 t27 n27 e27 d27
  walk_at "rd"
  walk_at "tup"
  intro p28 G28 k28 t28 n28 e28 d28
  walk_at "rd"
  walk_at "tup"
  intro p29 G29 k29 t29 n29 e29 d29
  walk_at "rd"
  refine r_lstN (by simp) fun l2 G30 k30 t30 n30 e30 => ?_
  walk_at "rd"
  refine r_catN (l := l1) (b := l2) (by walk_at "at") e30 (by simp) fun R G31 k31 t31 n31 e31 => ?_
  have hrows : ∀ y ∈ [V.ref p8, .ref p11, .ref p12, .ref p15, .ref p16, .ref p19, .ref p20] ++ [.ref p26, .ref p29], RowP G31 y := by
    intro y hy
    simp only [List.cons_append, List.nil_append, List.mem_cons, List.not_mem_nil, or_false] at hy
    rcases hy with rfl | rfl | rfl | rfl | rfl | rfl | rfl | rfl | rfl
    all_goals
      refine' ⟨_, _, ?h, ?r⟩
      (case h => walk_at "dt")
      (case r => exact ⟨by decide, by decide +kernel, kind3 (by decide +kernel) (by decide +kernel) (by decide +kernel)⟩)
  have ka : Kp [] H G31 := by walk_at "kp"
  have ca := cs.keep ka
  generalize ev : [V.ref p8, V.ref p11, V.ref p12, V.ref p15, V.ref p16, V.ref p19, V.ref p20] ++ [V.ref p26, V.ref p29] = rows at e31 hrows
  have r0 : atI rows 0 = some (.ref p8) := by rw [← ev]; rfl
  have r4 : atI rows 4 = some (.ref p16) := by rw [← ev]; rfl
  have rl : rows.length = 9 := by rw [← ev]; rfl
  have m0 : V.ref p8 ∈ rows := by rw [← ev]; simp
  have m4 : V.ref p16 ∈ rows := by rw [← ev]; simp
  clear ev
  clear d1 d2 d3 d4 d5 d6 d7 d8 d9 d10 d11 d12 d13 d14 d15 d16 d17 d18 d19 d20 d22 d23 d24 d25 d26 d27 d28 d29
  walk_at "rd"
  refine ⟨rfl, ?_⟩
  walk_at "rd"
  refine ⟨c, a, 4, rfl, ca, by decide, by decide, fun j F1 lo1 hi1 kf1 cf1 => ?_⟩
  have kk1 : Kp [c] H F1 := ka.of0.trans kf1
  walk_at "rd"
  refine ⟨j, rfl, by omega, by omega, fun L nL => lc_it walk_range (fun i H' => ∃ ys : List Str, H' L = some (.lst (ys.map V.str)) ∧ ys.length = i ∧ (∀ y ∈ ys, y.length = 1) ∧ Kp [c] F1 H' ∧ CS a H' c)
    ⟨[], upd_same, rfl, (fun y hy => by cases hy), (Kp.refl _ _).up nL, cf1.own (cf1.ne nL)⟩ (fun _ _ _ _ => trivial) ?_ ?_⟩
  · rintro i y H0 F2 hi2 ⟨ys, eL, ly, one, k2, c2⟩ ⟨rfl, rfl⟩
    walk_at "rd"
    refine ⟨rfl, ?_⟩
    walk_at "rd"
    refine ⟨c, a, 18, rfl, c2, by decide, by decide, fun g F3 lo3 hi3 k3 c3 => ?_⟩
    walk_at "rd"
    obtain ⟨ch, hch⟩ := at_any (xs := ("abdeghjklmnpqrvwxy" : Str).cps.toList) lo3 (show g < 18 from hi3)
    refine ⟨_, _, ch, rfl, rfl, by decide, hch, ?_⟩
    have neL : L ≠ c := (cf1.ne nL).1
    have eL3 := k3 L _ (by simpa using neL) eL
    refine ⟨_, eL3, ?_, ys ++ [⟨#[ch]⟩], ?_, ?_, ?_, (k2.trans k3).own nL, c3.own (cf1.ne nL)⟩
    · rw [List.length_map]
      exact Nat.lt_of_le_of_lt (show _ ≤ 1000 by omega) (by decide)
    · rw [upd_same, List.map_append]
      rfl
    · rw [List.length_append, ly]
      rfl
    · intro y hy
      rcases List.mem_append.mp hy with hy | hy
      · exact one y hy
      · rw [List.mem_singleton.mp hy]
        rfl
  · rintro F2 ⟨ys, eL, ly, one, k2, c2⟩
    walk_at "rd"
    have few : ys.length ≤ 3 := by omega
    have jl : (Txt.join ("" : Str) ys).length = ys.length := PySem.W.KT.join_ones ys one
    have sums : (ys.map (·.length)).sum + ys.length * ("" : Str).length ≤ 16777216 := by
      have s1 : ∀ l : List Str, (∀ y ∈ l, y.length = 1) → (l.map (·.length)).sum = l.length := by
        intro l
        induction l with
        | nil => intro _; rfl
        | cons x r ih =>
          intro h
          rw [List.map_cons, List.sum_cons, ih fun y hy => h y (List.mem_cons_of_mem _ hy), h x List.mem_cons_self, List.length_cons]
          omega
      rw [s1 ys one, show ("" : Str).length = 0 by decide]
      omega
    refine ⟨"", L, ys, rfl, rfl, .inl (SqL.of eL), sums, ?_⟩
    generalize Txt.join ("" : Str) ys = front at jl
    have lf : front.length ≤ 3 := by omega
    have kk2 : Kp [c] H F2 := kk1.trans k2
    have kg : Kp [c] G31 F2 := kf1.trans k2
    have neR : R ≠ c := (CS.ne (cs.keep (show Kp [] H G30 by walk_at "kp")) n31).1
    have eR2 : F2 R = some (.lst rows) := kg R _ (by simpa using neR) e31
    have tg : KeepT G31 F2 := ca.t kg
    walk_at "rd"
    refine r_ixL eR2 r0 ?_
    walk_at "rd"
    refine r_ixL eR2 r4 ?_
    walk_at "rd"
    refine r_lstN (by simp) fun l3 F3 k3 t3 n3 e3 => ?_
    walk_at "rd"
    refine r_slL (k3.get eR2) fun s1 F4 k4 t4 n4 e4 => ?_
    walk_at "rd"
    refine r_slL (k4.get (k3.get eR2)) fun s2 F5 k5 t5 n5 e5 => ?_
    walk_at "rd"
    have cl1 := cutV_length rows (some 1) (some 4)
    have cl2 := cutV_length rows (some 5) none
    refine r_catN (k5.get e4) e5 (by omega) fun s3 F6 k6 t6 n6 e6 => ?_
    walk_at "rd"
    have k36 : Kp [] F2 F6 := ((k3.trans k4).trans k5).trans k6
    have hr6 : ∀ y ∈ rows, RowP F6 y := fun y hy => (hrows y hy).mono (tg.trans k36.t0)
    have c6 := c2.keep k36
    generalize ec : cutV rows (some 1) (some 4) ++ cutV rows (some 5) none = cut at e6
    have hcut : ∀ y ∈ cut, RowP F6 y := fun y hy => by
      rw [← ec] at hy
      rcases List.mem_append.mp hy with hy | hy
      · exact hr6 y (cut_mem hy)
      · exact hr6 y (cut_mem hy)
    have lcut : cut.length ≤ 18 := by
      rw [← ec, List.length_append]
      omega
    clear ec
    refine ⟨s3, rfl, ⟨_, SqL.of e6⟩, fun L2 nL2 => lc_it (walk_list (K := K) (a := s3) (xs := cut)) (fun i H' => ∃ ys, H' L2 = some (.lst ys) ∧ ys.length ≤ i ∧ (∀ y ∈ ys, RowP F6 y) ∧ Kp [c] F6 H' ∧ CS a H' c)
      ⟨[], upd_same, Nat.le_refl 0, (fun y hy => by cases hy), (Kp.refl _ _).up nL2, c6.own (c6.ne nL2)⟩ (fun i H' _ ⟨_, _, _, _, k, _⟩ => SqL.of (k s3 _ ?_ e6)) ?_ ?_⟩
    · exact fun z => (CS.ne (c2.keep ((k3.trans k4).trans k5)) n6).1 (List.mem_singleton.mp z)
    · rintro i y H0 F7 hi7 ⟨ys, eL2, ly2, hys, k7, c7⟩ ⟨rfl, hy⟩
      walk_at "rd"
      refine ⟨rfl, ?_⟩
      walk_at "rd"
      refine ⟨c, a, 3, rfl, c7, by decide, by decide, fun g F8 lo8 hi8 k8 c8 => ?_⟩
      walk_at "rd"
      have neL2 : L2 ≠ c := (c6.ne nL2).1
      have eL28 := k8 L2 _ (by simpa using neL2) eL2
      refine if_2 (fun _ => ?_) (fun _ => ?_)
      · walk_at "rd"
        refine ⟨ys, eL28, Nat.lt_of_le_of_lt (show _ ≤ 1000 by omega) (by decide), ys ++ [y], upd_same, ?_, ?_, (k7.trans k8).own nL2, c8.own (c6.ne nL2)⟩
        · rw [List.length_append]
          exact Nat.succ_le_succ ly2
        · intro z hz
          rcases List.mem_append.mp hz with hz | hz
          · exact hys z hz
          · rw [List.mem_singleton.mp hz]
            exact hcut y (List.mem_of_getElem? hy)
      · exact ⟨ys, eL28, Nat.le_succ_of_le ly2, hys, k7.trans k8, c8⟩
    · rintro F7 ⟨ys, eL2, ly2, hys, k7, c7⟩
      have t7 : KeepT F6 F7 := c6.t k7
      have ne3 : l3 ≠ c := (CS.ne c2 n3).1
      have e37 : F7 l3 = some (.lst [V.ref p8, V.ref p16]) := k7 l3 _ (by simpa using ne3) (k6.get (k5.get (k4.get e3)))
      walk_at "rd"
      refine r_catN e37 eL2 (by simp; omega) fun l4 F8 k8 t8 n8 e8 => ?_
      walk_at "rd"
      have c8 := c7.keep k8
      have hk : ∀ y ∈ [V.ref p8, V.ref p16] ++ ys, RowP F8 y := fun y hy => by
        refine RowP.mono (t7.trans t8) ?_
        rcases List.mem_append.mp hy with hy | hy
        · rcases List.mem_cons.mp hy with rfl | hy
          · exact hr6 _ m0
          · rw [List.mem_singleton.mp hy]
            exact hr6 _ m4
        · exact hys y hy
      have lk : ([V.ref p8, V.ref p16] ++ ys).length ≤ 20 := by
        rw [List.length_append]
        exact Nat.le_trans (Nat.add_le_add_left ly2 _) (show 2 + cut.length ≤ 20 by omega)
      have nk : [V.ref p8, V.ref p16] ++ ys ≠ [] := by simp
      generalize [V.ref p8, V.ref p16] ++ ys = kept at e8 hk lk nk
      refine ⟨l4, rfl, ⟨_, SqL.of e8⟩, fun L3 nL3 => lc_it (walk_list (K := K) (a := l4) (xs := kept)) (fun i H' => ∃ zs ds, H' L3 = some (.lst zs) ∧ Dts H' ds zs ∧ ds.length = i ∧ Kp [] F8 H' ∧ ∀ d ∈ ds, SigRow d)
        ⟨[], [], upd_same, rfl, rfl, (Kp.refl _ _).up nL3, (fun d hd => by cases hd)⟩ (fun i H' _ ⟨_, _, _, _, _, k, _⟩ => SqL.of (k.get e8)) ?_ ?_⟩
      · rintro i y H0 F9 hi9 ⟨zs, ds, eL3, hds, ld, k9, sg⟩ ⟨rfl, hy⟩
        obtain ⟨n, kd, hd, ok⟩ := (hk y (List.mem_of_getElem? hy)).mono k9.t0
        obtain ⟨p, ps, rfl, hp, hps⟩ := hd.tup
        obtain ⟨u1, r1, rfl, hu1, u2, r2, rfl, hu2, rfl⟩ := hps
        cases hu1.str
        walk_at "rd"
        refine ⟨p, _, rfl, SqT.of hp, rfl, _, _, rfl, ?_⟩
        walk_at "rd"
        refine ⟨_, _, rfl, ?_⟩
        walk_at "rd"
        refine ⟨rfl, rfl, ?_⟩
        walk_at "rd"
        have ln := ok.len
        refine ⟨front, n, rfl, rfl, Nat.le_trans (show _ ≤ 1000 by omega) (by decide), ?_⟩
        walk_at "rd"
        refine r_tupN (ds := [.str (front ++ n), kd]) (Dts.cons dt_str (Dts.cons hu2 Dts.nil)) (by simp) fun p9 F10 k10 t10 n10 e10 d10 => ?_
        have eL30 := k10.get eL3
        refine ⟨zs, eL30, ?_, zs ++ [.ref p9], ds ++ [.tup [.str (front ++ n), kd]], upd_same, ?_, ?_, (k9.trans k10).own nL3, ?_⟩
        · have := hds.len
          exact Nat.lt_of_le_of_lt (show _ ≤ 1000 by omega) (by decide)
        · exact Dts.mono (fun p xs z => by rw [upd_ne (ne_of z eL30 (fun q => by cases q))]; exact z) ((hds.mono t10).snoc d10)
        · rw [List.length_append, ld]
          rfl
        · intro d hd
          rcases List.mem_append.mp hd with hd | hd
          · exact sg d hd
          · rw [List.mem_singleton.mp hd]
            exact ⟨_, kd, rfl, ok_app (by omega) ok.len ok.last, ok.kind⟩
      · rintro F9 ⟨zs, ds, eL3, hds, ld, k9, sg⟩
        walk_at "rd"
        refine ⟨L3, zs, rfl, .inl ⟨SqL.of eL3, fun l nl => ?_⟩⟩
        obtain ⟨k10, t10, d10⟩ := new_tup nl hds
        walk_at "rd"
        refine q _ ds _ ?_ ?_ d10 ?_ (by omega) sg
        · exact (kk2.trans ((k36.of0.trans k7).trans ((k8.trans k9).trans k10).of0))
        · exact c8.keep (k9.trans k10)
        · rintro rfl
          exact nk (List.eq_nil_of_length_eq_zero ld.symm)
end
end K01
end

section
/-! Law k01: the law's own words for names, types, signatures. -/
namespace K01
open PySem L2 PyProof.Rows PySem.Spec Lc
local macro_rules | `(tactic| walk_at "rd") => `(tactic| repeat (first
  | with_reducible refine r_seq ?_ | with_reducible refine r_mknx ?_ | with_reducible refine r_mkrt ?_ | with_reducible refine r_asg ?_ | with_reducible refine r_name ?_ | with_reducible refine r_next ?_
  | with_reducible refine r_drop ?_ | with_reducible refine r_ret ?_ | with_reducible refine r_if ?_
  | ((with_reducible refine' r_var ?e ?_); (case e => rfl)) | with_reducible refine r_c ?_ | with_reducible refine r_op ?_ | with_reducible refine r_un ?_ | with_reducible refine r_test ?_ | with_reducible refine r_tb ?_
  | with_reducible refine r_and ?_ | with_reducible refine r_or ?_ | with_reducible refine r_not ?_ | with_reducible refine r_andV ?_ | with_reducible refine r_orV ?_ | with_reducible refine r_notV ?_ | with_reducible refine r_bl ?_
  | with_reducible refine r_cb ?_ | with_reducible refine r_cons ?_ | with_reducible refine r_nil ?_ | with_reducible refine r_tup ?_ | with_reducible refine r_lst ?_ | with_reducible refine r_call ?_
  | with_reducible refine r_i0 ?_ | with_reducible refine r_par ?_ | with_reducible refine r_two ?_ | with_reducible refine r_lc ?_ | with_reducible refine r_iL ?_ | with_reducible refine r_iT ?_ | with_reducible refine r_iS ?_ | with_reducible refine r_i1 ?_ | with_reducible refine r_yes ?_ | with_reducible refine r_chain ?_ | with_reducible refine if_t rfl ?_ | with_reducible refine if_f rfl ?_ | with_reducible refine r_nt ?_ | ((with_reducible refine r_eq ?e ?_); (case e => rfl)) | ((with_reducible refine r_ne ?e ?_); (case e => rfl))
  | with_reducible refine r_sub ?_ | with_reducible refine r_sl ?_ | with_reducible refine r_nopart ?_ | with_reducible refine r_part ?_ | with_reducible refine r_int ?_ | with_reducible refine r_bm ?_ | with_reducible refine r_bm0 ?_))
local macro_rules | `(tactic| walk_at "dt") => `(tactic| repeat' (first | (show Dt _ _ _; assumption) | exact dt_str | exact dt_int | exact dt_bl | exact dt_non | exact Dts.nil | refine' Dts.cons ?_ ?_ | (refine' Dt.mono ?kk ?_; (case kk => assumption)) | fail))
local macro_rules | `(tactic| walk_at "at") => `(tactic| repeat (first | assumption | (refine' Kp.get ?kk ?_; (case kk => assumption)) | fail))
local macro_rules | `(tactic| walk_at "kp") => `(tactic| repeat (first | assumption | exact Kp.refl _ _ | (refine' Kp.trans ?_ ?kk; (case kk => assumption)) | fail))
local macro_rules | `(tactic| walk_at "tup") => `(tactic| (refine' r_tupN ?h ?f ?k; (case h => walk_at "dt"); (case f => simp); skip))

def spIsInt : Sp := fun vs H Q _ => ∃ v d, vs = [v] ∧ Dt H d v ∧ ∀ H', Kp [] H H' → Q (.bl (d.isI && !d.isB)) H'
def spLType (n : Nat) : Sp := fun vs H Q _ => ∃ v d W, vs = [v] ∧ Dt H d v ∧ Wd okS W d ∧ W ≤ 3000 ∧ d.dp ≤ n ∧ ∀ H', Kp [] H H' → Q (.bl (typeD d)) H'
def spLSig : Sp := fun vs H Q _ => ∃ v d W, vs = [v] ∧ Dt H d v ∧ Wd okS W d ∧ W ≤ 3000 ∧ d.dp ≤ 90 ∧ ∀ H', Kp [] H H' → Q (.bl (sigD d)) H'
theorem typesD_all : ∀ ds : List D, typesD ds = (ds.map typeD).all id
  | [] => rfl
  | d :: ds => by
    rw [typesD, typesD_all ds, List.map_cons, List.all_cons]
    rfl
theorem dp_pos : ∀ d : D, 1 ≤ d.dp
  | .tup xs => by rw [D.dp]; omega
  | .non => Nat.le_refl 1
  | .bl _ => Nat.le_refl 1
  | .int _ => Nat.le_refl 1
  | .str _ => Nat.le_refl 1

abbrev s_law_is_int : Stmt := top 15
abbrev N_law_is_int : List Str := ["value"]
theorem sc_law_is_int : FnScope N_law_is_int ["value"] (defScope s_law_is_int) := ⟨rfl, rfl, rfl, by decide +kernel, rfl, by decide +kernel, by decide +kernel⟩
abbrev s_law_is_name : Stmt := top 16
abbrev N_law_is_name : List Str := ["value", "x"]
theorem sc_law_is_name : FnScope N_law_is_name ["value"] (defScope s_law_is_name) := ⟨rfl, rfl, rfl, by decide +kernel, rfl, by decide +kernel, by decide +kernel⟩
abbrev s_law_is_type : Stmt := top 17
abbrev N_law_is_type : List Str := ["value", "part"]
theorem sc_law_is_type : FnScope N_law_is_type ["value"] (defScope s_law_is_type) := ⟨rfl, rfl, rfl, by decide +kernel, rfl, by decide +kernel, by decide +kernel⟩
abbrev s_law_is_signature : Stmt := top 18
abbrev N_law_is_signature : List Str := ["value", "row"]
theorem sc_law_is_signature : FnScope N_law_is_signature ["value"] (defScope s_law_is_signature) := ⟨rfl, rfl, rfl, by decide +kernel, rfl, by decide +kernel, by decide +kernel⟩
section
variable {P : Program} {w : World} {K : PySem.W.Frag} {mg : Str → Option Value} {base : Heap} {aR : Addr} {tL tF : Tok}
theorem ok_lint (F : Df K mg "_law_is_int" s_law_is_int ["value"]) (T : Txt K mg aR tL tF) : Cal P w K mg base "_law_is_int" ["value"] 1 spIsInt := by
  refine F.ok sc_law_is_int (fun vs H Q E h => ?_) (fun f cdv A outer s H vs Q E hr h => ?_)
  · obtain ⟨v, d, rfl, _⟩ := h
    rfl
  obtain ⟨v, d, rfl, hd, q⟩ := h
  refine ⟨_, (pss_one (ps_ret (pe_and (pe_callB call_isi (by rfl) T.z_isinstance (by decide +kernel) (pa_cons (pv 0) (pa_cons (pe_bty (T := "int") (by rfl) T.z_int (by decide +kernel)) pa_nil))) (pe_one (pe_not (pe_callB call_isi (by rfl) T.z_isinstance (by decide +kernel) (pa_cons (pv 0) (pa_cons (pe_bty (T := "bool") (by rfl) T.z_bool (by decide +kernel)) pa_nil)))))))), ?_⟩
  walk_at "rd"
  refine r_isI hd ?_
  walk_at "rd"
  refine if_2 (fun c => ?_) (fun c => ?_)
  · walk_at "rd"
    refine r_isB hd ?_
    walk_at "rd"
    rw [c, Bool.true_and] at q
    exact q H (Kp.refl _ _)
  · rw [c, Bool.false_and] at q
    walk_at "rd"
    exact q H (Kp.refl _ _)
theorem ok_lname (F : Df K mg "_law_is_name" s_law_is_name ["value"]) (T : Txt K mg aR tL tF) : Cal P w K mg base "_law_is_name" ["value"] 1 spName := by
  refine F.ok sc_law_is_name (fun vs H Q E h => ?_) (fun f cdv A outer s H vs Q E hr h => ?_)
  · obtain ⟨v, d, rfl, _⟩ := h
    rfl
  obtain ⟨v, d, rfl, hd, hs, q⟩ := h
  refine ⟨_, (pss_cons (ps_if (PW.pt (pw_or (pt_not (pt_val (pe_callB call_isi (by rfl) T.z_isinstance (by decide +kernel) (pa_cons (pv 0) (pa_cons (pe_bty (T := "str") (by rfl) T.z_str (by decide +kernel)) pa_nil))))) (pw_or (pt_cmpR op_lt (pe_callB call_len_str (by rfl) T.z_len (by decide +kernel) (pa_cons (pv 0) pa_nil)) pe_int (nomark _)) (pw_or (pt_cmpR op_gt (pe_callB call_len_str (by rfl) T.z_len (by decide +kernel) (pa_cons (pv 0) pa_nil)) pe_int (nomark _)) (pw_or1 (pt_not (pt_val (pe_callB (cr_all rfl) (by rfl) T.z_all (by decide +kernel) (pa_cons (pe_lc (own := [("x", 1)]) (g := gName 1) rfl sc_law_is_name.nd (pi_str (pv 0)) (blkOk_by (N := N_law_is_name) (sc := defScope s_law_is_name) (by decide +kernel)) (fun _ _ _ _ _ => (pg_name (i := 1) sc_law_is_name.nd rfl (Or.inl rfl))) (fun _ _ _ _ _ => pts_nil) (fun _ _ _ _ _ => (pe_cmpR op_in_sign (pv 1) pe_str (by rfl)))) pa_nil))))))))) (pss_one (ps_ret pe_bl)) pss_nil)
      (pss_one (ps_ret (pe_cmpR op_notIn_seq (pv 0) (pe_lst (pa_cons pe_str (pa_cons pe_str (pa_cons pe_str (pa_cons pe_str (pa_cons pe_str (pa_cons pe_str (pa_cons pe_str (pa_cons pe_str (pa_cons pe_str (pa_cons pe_str (pa_cons pe_str (pa_cons pe_str (pa_cons pe_str pa_nil)))))))))))))) (by rfl))))), ?_⟩
  walk_at "rd"
  refine r_isS hd ?_
  walk_at "rd"
  refine if_2 (fun c => ?_) (fun c => ?_)
  · walk_at "rd"
    have e : nmD d = false := by cases d <;> first | rfl | cases c
    exact e ▸ q H (Kp.refl _ _)
  obtain ⟨x, rfl⟩ := D.str_of (by simpa using c)
  cases hd.str
  have hx : x.length ≤ 1000 := hs
  have hz : x.length ≤ sizeLine := Nat.le_trans hx (by decide)
  walk_at "rd"
  refine ⟨x, rfl, hz, ?_⟩
  walk_at "rd"
  refine if_2 (fun c1 => ?_) (fun c1 => ?_)
  · walk_at "rd"
    have e : nmD (.str x) = false := by
      have n1 : ¬ 1 ≤ x.length := fun z => by simp at c1; omega
      show (decide _ && _) = false
      rw [decide_eq_false n1]
      rfl
    exact e ▸ q H (Kp.refl _ _)
  walk_at "rd"
  refine ⟨x, rfl, hz, ?_⟩
  walk_at "rd"
  refine if_2 (fun c2 => ?_) (fun c2 => ?_)
  · walk_at "rd"
    have e : nmD (.str x) = false := by
      have n1 : ¬ x.length ≤ 8 := fun z => by simp at c2; omega
      show (decide _ && (decide _ && _)) = false
      rw [decide_eq_false n1, Bool.false_and, Bool.and_false]
    exact e ▸ q H (Kp.refl _ _)
  have p1 : 1 ≤ x.length := by simp at c1; omega
  have p2 : x.length ≤ 8 := by simp at c2; omega
  have nm : nmD (.str x) = ((!(inV (.str x) (reserved.map V.str))) && (inside x).all id) := by
    show (decide _ && (decide _ && _)) = _
    rw [decide_eq_true p1, decide_eq_true p2]
    rfl
  walk_at "rd"
  refine ⟨x, rfl, fun L nL => lc_it walk_str (fun i H' => Kp [] H H' ∧ H' L = some (.lst (((inside x).take i).map V.bl))) ⟨(Kp.refl _ _).up nL, upd_same⟩ (fun _ _ _ _ => trivial) ?_ ?_⟩
  · rintro i y H1 H2 hi ⟨k1, hL⟩ ⟨rfl, cp, hc, rfl⟩
    walk_at "rd"
    refine ⟨rfl, ?_⟩
    walk_at "rd"
    have hb : (inside x)[i]? = some (decide (cp ∈ letters.cps.toList)) := by
      show (x.cps.toList.map _)[i]? = _
      rw [List.getElem?_map, Array.getElem?_toList, hc]
      rfl
    refine ⟨cp, letters, rfl, rfl, _, hL, ?_, k1.own nL, ?_⟩
    · have n1 : x.cps.size = x.length := rfl
      rw [List.length_map]
      have n2 := List.length_take_le i (inside x)
      exact Nat.lt_of_le_of_lt (show _ ≤ 1000 by omega) (by decide)
    · rw [upd_same, take_one hb, List.map_append]
      rfl
  · rintro H1 ⟨k1, hL⟩
    walk_at "rd"
    rw [List.take_of_length_le (by show (x.cps.toList.map _).length ≤ _; rw [List.length_map, Array.length_toList]; exact Nat.le_refl _)] at hL
    refine ⟨L, inside x, rfl, SqL.of hL, ?_⟩
    walk_at "rd"
    refine if_2 (fun c3 => ?_) (fun c3 => ?_)
    · walk_at "rd"
      have e : nmD (.str x) = false := by
        rw [nm, show (inside x).all id = false by simpa using c3, Bool.and_false]
      exact e ▸ q H1 k1
    · walk_at "rd"
      refine r_lstN (by simp) fun p H2 k2 t2 n2 e2 => ?_
      refine ⟨p, _, rfl, .inl (SqL.of e2), rfl, by decide +kernel, ?_⟩
      walk_at "rd"
      have e : nmD (.str x) = (!(inV (.str x) (reserved.map V.str))) := by
        rw [nm, show (inside x).all id = true by simpa using c3, Bool.and_true]
      exact e ▸ q H2 (k1.trans k2)
theorem ok_ltype {k n : Nat} (F : Df K mg "_law_is_type" s_law_is_type ["value"]) (T : Txt K mg aR tL tF) (hk : 1 ≤ k) (C_law_is_name : Cal P w K mg base "_law_is_name" ["value"] 1 spName) (C_law_is_type : Cal P w K mg base "_law_is_type" ["value"] k (spLType n)) :
    Cal P w K mg base "_law_is_type" ["value"] (k + 1) (spLType (n + 1)) := by
  replace C_law_is_name := C_law_is_name.mono hk
  refine F.ok sc_law_is_type (fun vs H Q E h => ?_) (fun f cdv A outer s H vs Q E hr h => ?_)
  · obtain ⟨v, d, W, rfl, _⟩ := h
    rfl
  obtain ⟨v, d, W, rfl, hd, hw, hW, hdp, q⟩ := h
  refine ⟨_, (pss_cons (ps_if (PW.pt (pw_or (pt_not (pt_val (pe_callB call_isi (by rfl) T.z_isinstance (by decide +kernel) (pa_cons (pv 0) (pa_cons (pe_bty (T := "tuple") (by rfl) T.z_tuple (by decide +kernel)) pa_nil))))) (pw_or (pt_cmpR op_ne (pe_callB call_len_seq (by rfl) T.z_len (by decide +kernel) (pa_cons (pv 0) pa_nil)) pe_int (nomark _)) (pw_or (pt_not (pt_val (pe_callB call_isi (by rfl) T.z_isinstance (by decide +kernel) (pa_cons (pe_ix ix_tup (pv 0) pe_int (fun _ _ => rfl)) (pa_cons (pe_bty (T := "tuple") (by rfl) T.z_tuple (by decide +kernel)) pa_nil))))) (pw_or1 (pt_not (pt_val (pe_cal C_law_is_name hr rfl (pa_cons (pe_ix ix_tup (pv 0) pe_int (fun _ _ => rfl)) pa_nil))))))))) (pss_one (ps_ret pe_bl)) pss_nil)
      (pss_one (ps_ret (pe_callB (cr_all rfl) (by rfl) T.z_all (by decide +kernel) (pa_cons (pe_lc (own := [("part", 1)]) (g := gName 1) rfl sc_law_is_type.nd (pi_tup (pe_ix ix_tup (pv 0) pe_int (fun _ _ => rfl))) (blkOk_by (N := N_law_is_type) (sc := defScope s_law_is_type) (by decide +kernel)) (fun _ _ _ _ _ => (pg_name (i := 1) sc_law_is_type.nd rfl (Or.inl rfl))) (fun _ _ _ _ _ => pts_nil) (fun _ _ _ _ _ => (pe_cal C_law_is_type hr rfl (pa_cons (pv 1) pa_nil)))) pa_nil))))), ?_⟩
  walk_at "rd"
  refine r_isT hd ?_
  walk_at "rd"
  refine if_2 (fun c => ?_) (fun c => ?_)
  · walk_at "rd"
    have e : typeD d = false := by cases d <;> first | rfl | cases c
    exact e ▸ q H (Kp.refl _ _)
  obtain ⟨ps, rfl⟩ := D.tup_of (by simpa using c)
  obtain ⟨a, xs, rfl, ha, hs⟩ := hd.tup
  walk_at "rd"
  refine ⟨a, xs, rfl, .inr (SqT.of ha), ?_⟩
  walk_at "rd"
  have ln := hs.len
  refine if_2 (fun c1 => ?_) (fun c1 => ?_)
  · walk_at "rd"
    have e : typeD (.tup ps) = false := by
      match ps, ln with
      | [], _ => rfl
      | [_], _ => rfl
      | _ :: _ :: _ :: _, _ => rfl
      | [_, _], l2 =>
        rw [l2] at c1
        cases c1
    exact e ▸ q H (Kp.refl _ _)
  obtain ⟨x, y, rfl⟩ : ∃ x y, ps = [x, y] := by
    have l2 : xs.length = 2 := by
      have := V.int.inj (of_decide_eq_true (show decide (V.int (xs.length : Nat) = V.int 2) = true by simpa using c1))
      omega
    match ps, ln with
    | [x, y], _ => exact ⟨x, y, rfl⟩
    | [], l3 => rw [l2] at l3; cases l3
    | [_], l3 => rw [l2] at l3; cases l3
    | _ :: _ :: _ :: _, l3 => rw [l2] at l3; cases l3
  obtain ⟨vx, r1, rfl, hx, vy, r2, rfl, hy, rfl⟩ := hs
  walk_at "rd"
  refine r_ixT ha rfl ?_
  walk_at "rd"
  refine r_isT hx ?_
  walk_at "rd"
  refine if_2 (fun c2 => ?_) (fun c2 => ?_)
  · walk_at "rd"
    have e : typeD (.tup [x, y]) = false := by
      show (argsD x && nmD y) = false
      have : argsD x = false := by cases x <;> first | rfl | cases c2
      rw [this, Bool.false_and]
    exact e ▸ q H (Kp.refl _ _)
  obtain ⟨as, rfl⟩ := D.tup_of (by simpa using c2)
  obtain ⟨b, ys, rfl, hb, hys⟩ := hx.tup
  walk_at "rd"
  refine r_ixT ha rfl ?_
  walk_at "rd"
  refine ⟨vy, y, rfl, hy, Wd.shorts hw.2.2.1, fun H1 k1 => ?_⟩
  walk_at "rd"
  refine if_2 (fun c3 => ?_) (fun c3 => ?_)
  · walk_at "rd"
    have e : typeD (.tup [.tup as, y]) = false := by
      show (typesD as && nmD y) = false
      rw [show nmD y = false by simpa using c3, Bool.and_false]
    exact e ▸ q H1 k1
  have ety : typeD (.tup [.tup as, y]) = typesD as := by
    show (typesD as && nmD y) = _
    rw [show nmD y = true by simpa using c3, Bool.and_true]
  have edp : (D.tup [.tup as, y]).dp = 1 + max (1 + dps as) (max y.dp 0) := rfl
  have was : Wds okS W as := hw.2.1.2
  have las : as.length ≤ W := hw.2.1.1
  walk_at "rd"
  refine r_ixT (k1.get ha) rfl ?_
  refine ⟨b, rfl, ⟨_, SqT.of (k1.get hb)⟩, fun L nL => lc_it (walk_tup (K := K) (a := b) (xs := ys)) (fun i H' => Kp [] H1 H' ∧ H' L = some (.lst (((as.map typeD).take i).map V.bl))) ⟨(Kp.refl _ _).up nL, upd_same⟩ (fun i H' _ k => SqT.of (k.1.get (k1.get hb))) ?_ ?_⟩
  · rintro i u H0 H2 hi ⟨k2, hL⟩ ⟨rfl, hu⟩
    obtain ⟨e, he, hue⟩ := hys.at hu
    have me : e ∈ as := List.mem_of_getElem? he
    walk_at "rd"
    refine ⟨rfl, ?_⟩
    walk_at "rd"
    refine ⟨u, e, W, rfl, hue.mono (k1.trans k2).t0, Wds.mem.mp was e me, hW, ?_, fun H3 k3 => ?_⟩
    · have := dps_mem me
      omega
    · have hb2 : (as.map typeD)[i]? = some (typeD e) := by
        rw [List.getElem?_map, he]
        rfl
      refine ⟨_, k3.get hL, ?_, (k2.trans k3).own nL, ?_⟩
      · rw [List.length_map]
        have n2 := List.length_take_le i (as.map typeD)
        have n3 := hys.len
        exact Nat.lt_of_le_of_lt (show _ ≤ 3000 by omega) (by decide)
      · rw [upd_same, take_one hb2, List.map_append]
        rfl
  · rintro H2 ⟨k2, hL⟩
    rw [hys.len, List.take_of_length_le (by rw [List.length_map]; exact Nat.le_refl _)] at hL
    walk_at "rd"
    refine ⟨L, as.map typeD, rfl, SqL.of hL, ?_⟩
    rw [ety, typesD_all] at q
    exact q H2 (k1.trans k2)
theorem ok_lsig (F : Df K mg "_law_is_signature" s_law_is_signature ["value"]) (T : Txt K mg aR tL tF) (C_law_is_name : Cal P w K mg base "_law_is_name" ["value"] 100 spName) (C_law_is_type : Cal P w K mg base "_law_is_type" ["value"] 100 (spLType 90)) :
    Cal P w K mg base "_law_is_signature" ["value"] 101 spLSig := by
  refine F.ok sc_law_is_signature (fun vs H Q E h => ?_) (fun f cdv A outer s H vs Q E hr h => ?_)
  · obtain ⟨v, d, W, rfl, _⟩ := h
    rfl
  obtain ⟨v, d, W, rfl, hd, hw, hW, hdp, q⟩ := h
  refine ⟨_, (pss_cons (ps_if (pt_not (pt_val (pe_callB call_isi (by rfl) T.z_isinstance (by decide +kernel) (pa_cons (pv 0) (pa_cons (pe_bty (T := "tuple") (by rfl) T.z_tuple (by decide +kernel)) pa_nil))))) (pss_one (ps_ret pe_bl)) pss_nil)
      (pss_cons (ps_for PassesOwn.never rfl (pi_tup (pv 0)) (pg_name (i := 1) sc_law_is_signature.nd rfl (.inl rfl)) (pss_one (ps_if (PW.pt (pw_or (pt_not (pt_val (pe_callB call_isi (by rfl) T.z_isinstance (by decide +kernel) (pa_cons (pv 1) (pa_cons (pe_bty (T := "tuple") (by rfl) T.z_tuple (by decide +kernel)) pa_nil))))) (pw_or (pt_cmpR op_ne (pe_callB call_len_seq (by rfl) T.z_len (by decide +kernel) (pa_cons (pv 1) pa_nil)) pe_int (nomark _)) (pw_or (pt_not (pt_val (pe_cal C_law_is_name hr rfl (pa_cons (pe_ix ix_tup (pv 1) pe_int (fun _ _ => rfl)) pa_nil)))) (pw_or1 (pt_not (pt_val (pe_cal C_law_is_type hr rfl (pa_cons (pe_ix ix_tup (pv 1) pe_int (fun _ _ => rfl)) pa_nil))))))))) (pss_one (ps_ret pe_bl)) pss_nil)))
      (pss_one (ps_ret (pe_cmpR op_eq (pe_lenSetT rfl (by rfl) T.z_len (by rfl) T.z_set (pe_lc (own := [("row", 1)]) (g := gName 1) rfl sc_law_is_signature.nd (pi_tup (pv 0)) (blkOk_by (N := N_law_is_signature) (sc := defScope s_law_is_signature) (by decide +kernel)) (fun _ _ _ _ _ => (pg_name (i := 1) sc_law_is_signature.nd rfl (Or.inl rfl))) (fun _ _ _ _ _ => pts_nil) (fun _ _ _ _ _ => (pe_ix (r := rIxT K) ix_tup (pv 1) pe_int (fun _ _ => rfl))))) (pe_callB call_len_seq (by rfl) T.z_len (by decide +kernel) (pa_cons (pv 0) pa_nil)) (nomark _)))))), ?_⟩
  walk_at "rd"
  refine r_isT hd ?_
  walk_at "rd"
  refine if_2 (fun c => ?_) (fun c => ?_)
  · walk_at "rd"
    have e : sigD d = false := by cases d <;> first | rfl | cases c
    exact e ▸ q H (Kp.refl _ _)
  obtain ⟨rows, rfl⟩ := D.tup_of (by simpa using c)
  obtain ⟨a, xs, rfl, ha, hs⟩ := hd.tup
  have wrows : Wds okS W rows := hw.2
  have lrows : rows.length ≤ W := hw.1
  have edp : (D.tup rows).dp = 1 + dps rows := rfl
  have ln := hs.len
  walk_at "rd"
  refine ⟨_, rfl, a, rfl, ⟨_, SqT.of ha⟩, for_tup (K := K) (a := a) (xs := xs) (fun i σ H' => ∃ v2, σ = [some (.ref a), v2] ∧ Kp [] H H' ∧ (rows.take i).all rowD = true) ⟨none, rfl, Kp.refl _ _, rfl⟩ (fun i σ H' _ ⟨_, _, k, _⟩ => SqT.of (k.get ha)) ?_ ?_⟩
  · rintro i y σ H1 hi ⟨v2, rfl, k1, hall⟩
    obtain ⟨e, he, hy⟩ := hs.at hi
    have me : e ∈ rows := List.mem_of_getElem? he
    have we : Wd okS W e := Wds.mem.mp wrows e me
    have dpe := dps_mem me
    have bad : rowD e = false → ∀ H', Kp [] H H' → Q (.bl false) H' := fun z H' k => by
      have e0 : sigD (.tup rows) = false := by
        show (rows.all rowD && _) = false
        rw [all_no he z, Bool.false_and]
      exact e0 ▸ q H' k
    replace hy := hy.mono k1.t0
    walk_at "rd"
    refine r_isT hy ?_
    walk_at "rd"
    refine if_2 (fun c1 => ?_) (fun c1 => ?_)
    · walk_at "rd"
      exact bad (by cases e <;> first | rfl | cases c1) _ k1
    obtain ⟨ps, rfl⟩ := D.tup_of (by simpa using c1)
    obtain ⟨p, us, rfl, hp, hps⟩ := hy.tup
    walk_at "rd"
    refine ⟨p, us, rfl, .inr (SqT.of hp), ?_⟩
    walk_at "rd"
    have lps := hps.len
    refine if_2 (fun c2 => ?_) (fun c2 => ?_)
    · walk_at "rd"
      refine bad ?_ _ k1
      match ps, lps with
      | [], _ => rfl
      | [_], _ => rfl
      | _ :: _ :: _ :: _, _ => rfl
      | [_, _], l2 =>
        rw [l2] at c2
        cases c2
    obtain ⟨n, kd, rfl⟩ : ∃ x y, ps = [x, y] := by
      have l2 : us.length = 2 := by
        have := V.int.inj (of_decide_eq_true (show decide (V.int (us.length : Nat) = V.int 2) = true by simpa using c2))
        omega
      match ps, lps with
      | [x, y], _ => exact ⟨x, y, rfl⟩
      | [], l3 => rw [l2] at l3; cases l3
      | [_], l3 => rw [l2] at l3; cases l3
      | _ :: _ :: _ :: _, l3 => rw [l2] at l3; cases l3
    obtain ⟨u1, r1, rfl, hu1, u2, r2, rfl, hu2, rfl⟩ := hps
    walk_at "rd"
    refine r_ixT hp rfl ?_
    walk_at "rd"
    refine ⟨u1, n, rfl, hu1, Wd.shorts we.2.1, fun H3 k3 => ?_⟩
    walk_at "rd"
    refine if_2 (fun c3 => ?_) (fun c3 => ?_)
    · walk_at "rd"
      refine bad ?_ _ (k1.trans k3)
      show (nmD n && _) = false
      rw [show nmD n = false by simpa using c3, Bool.false_and]
    walk_at "rd"
    refine r_ixT (k3.get hp) rfl ?_
    walk_at "rd"
    have edk : (D.tup [n, kd]).dp = 1 + max n.dp (max kd.dp 0) := rfl
    refine ⟨u2, kd, W, rfl, hu2.mono k3.t0, we.2.2.1, hW, by omega, fun H4 k4 => ?_⟩
    walk_at "rd"
    refine if_2 (fun c4 => ?_) (fun c4 => ?_)
    · walk_at "rd"
      refine bad ?_ _ ((k1.trans k3).trans k4)
      show (_ && typeD kd) = false
      rw [show typeD kd = false by simpa using c4, Bool.and_false]
    · walk_at "rd"
      refine ⟨_, rfl, (k1.trans k3).trans k4, all_take he hall ?_⟩
      show (nmD n && typeD kd) = true
      rw [show nmD n = true by simpa using c3, show typeD kd = true by simpa using c4]
      rfl
  · rintro σ H1 ⟨v2, rfl, k1, hall⟩
    rw [ln, List.take_length] at hall
    walk_at "rd"
    refine ⟨_, rfl, a, rfl, ⟨_, SqT.of (k1.get ha)⟩, fun L nL => lc_it (walk_tup (K := K) (a := a) (xs := xs)) (fun i H' => Kp [] H1 H' ∧ H' L = some (.lst (((rows.map nmS).take i).map V.str))) ⟨(Kp.refl _ _).up nL, upd_same⟩ (fun i H' _ k => SqT.of (k.1.get (k1.get ha))) ?_ ?_⟩
    · rintro i u H0 H2 hi ⟨k2, hL⟩ ⟨rfl, hu⟩
      obtain ⟨e, he, hue⟩ := hs.at hu
      have rw_ : rowD e = true := List.all_eq_true.mp hall e (List.mem_of_getElem? he)
      obtain ⟨n, kd, rfl⟩ := pair_of (d := e) (by
        cases z : pairD e with
        | true => rfl
        | false =>
          rw [row_pair z] at rw_
          cases rw_)
      obtain ⟨x, rfl, hx⟩ := nm_of (d := n) (by
        have : (nmD n && typeD kd) = true := rw_
        rw [Bool.and_eq_true] at this
        exact this.1)
      obtain ⟨p, us, rfl, hp, hps⟩ := (hue.mono (k1.trans k2).t0).tup
      obtain ⟨u1, r1, rfl, hu1, u2, r2, rfl, hu2, rfl⟩ := hps
      cases hu1.str
      walk_at "rd"
      refine ⟨rfl, ?_⟩
      walk_at "rd"
      refine r_ixT hp rfl ?_
      have hb2 : (rows.map nmS)[i]? = some x := by
        rw [List.getElem?_map, he]
        rfl
      refine ⟨_, hL, ?_, k2.own nL, ?_⟩
      · rw [List.length_map]
        have n2 := List.length_take_le i (rows.map nmS)
        exact Nat.lt_of_le_of_lt (show _ ≤ 3000 by omega) (by decide)
      · rw [upd_same, take_one hb2, List.map_append]
        rfl
    · rintro H2 ⟨k2, hL⟩
      rw [ln, List.take_of_length_le (by rw [List.length_map]; exact Nat.le_refl _)] at hL
      refine ⟨L, rows.map nmS, rfl, SqL.of hL, by rw [List.length_map]; omega, ?_⟩
      walk_at "rd"
      refine ⟨a, xs, rfl, .inr (SqT.of (k2.get (k1.get ha))), ?_⟩
      walk_at "rd"
      have e : sigD (.tup rows) = decide (V.int (diff (rows.map nmS) : Nat) = V.int (xs.length : Nat)) := by
        show (rows.all rowD && _) = _
        rw [hall, Bool.true_and, ln]
        congr 1
        refine propext ⟨fun z => by rw [z], fun z => ?_⟩
        have := V.int.inj z
        omega
      exact e ▸ q H2 (k1.trans k2)
end
end K01
end

section
/-! Law k01: nodes, changes, heights. -/
namespace K01
open PySem L2 PyProof.Rows PySem.Spec Lc
local macro_rules | `(tactic| walk_at "rd") => `(tactic| repeat (first
  | with_reducible refine r_seq ?_ | with_reducible refine r_mknx ?_ | with_reducible refine r_mkrt ?_ | with_reducible refine r_asg ?_ | with_reducible refine r_name ?_ | with_reducible refine r_next ?_
  | with_reducible refine r_drop ?_ | with_reducible refine r_ret ?_ | with_reducible refine r_if ?_
  | ((with_reducible refine' r_var ?e ?_); (case e => rfl)) | with_reducible refine r_c ?_ | with_reducible refine r_op ?_ | with_reducible refine r_un ?_ | with_reducible refine r_test ?_ | with_reducible refine r_tb ?_
  | with_reducible refine r_and ?_ | with_reducible refine r_or ?_ | with_reducible refine r_not ?_ | with_reducible refine r_andV ?_ | with_reducible refine r_orV ?_ | with_reducible refine r_notV ?_ | with_reducible refine r_bl ?_
  | with_reducible refine r_cb ?_ | with_reducible refine r_cons ?_ | with_reducible refine r_nil ?_ | with_reducible refine r_tup ?_ | with_reducible refine r_lst ?_ | with_reducible refine r_call ?_
  | with_reducible refine r_i0 ?_ | with_reducible refine r_par ?_ | with_reducible refine r_two ?_ | with_reducible refine r_lc ?_ | with_reducible refine r_iL ?_ | with_reducible refine r_iT ?_ | with_reducible refine r_iS ?_ | with_reducible refine r_i1 ?_ | with_reducible refine r_yes ?_ | with_reducible refine r_chain ?_ | with_reducible refine if_t rfl ?_ | with_reducible refine if_f rfl ?_ | with_reducible refine r_nt ?_ | ((with_reducible refine r_eq ?e ?_); (case e => rfl)) | ((with_reducible refine r_ne ?e ?_); (case e => rfl))
  | with_reducible refine r_sub ?_ | with_reducible refine r_sl ?_ | with_reducible refine r_nopart ?_ | with_reducible refine r_part ?_ | with_reducible refine r_int ?_ | with_reducible refine r_bm ?_ | with_reducible refine r_bm0 ?_))
local macro_rules | `(tactic| walk_at "dt") => `(tactic| repeat' (first | (show Dt _ _ _; assumption) | exact dt_str | exact dt_int | exact dt_bl | exact dt_non | exact Dts.nil | refine' Dts.cons ?_ ?_ | (refine' Dt.mono ?kk ?_; (case kk => assumption)) | fail))
local macro_rules | `(tactic| walk_at "at") => `(tactic| repeat (first | assumption | (refine' Kp.get ?kk ?_; (case kk => assumption)) | fail))
local macro_rules | `(tactic| walk_at "kp") => `(tactic| repeat (first | assumption | exact Kp.refl _ _ | (refine' Kp.trans ?_ ?kk; (case kk => assumption)) | fail))
local macro_rules | `(tactic| walk_at "tup") => `(tactic| (refine' r_tupN ?h ?f ?k; (case h => walk_at "dt"); (case f => simp); skip))

structure Gd (W : Nat) (d : D) : Prop where
  wd : Wd okS W d
  dp : d.dp ≤ 90
  sz : d.sz ≤ 200000
theorem Gd.wide {W W' : Nat} {d : D} (g : Gd W d) (l : W ≤ W') : Gd W' d := ⟨g.wd.wide l, g.dp, g.sz⟩
theorem Gd.part {W : Nat} {ds : List D} {d : D} (g : Gd W (.tup ds)) (h : d ∈ ds) : Gd W d := by
  have e1 : (D.tup ds).dp = 1 + dps ds := rfl
  have e2 : (D.tup ds).sz = 1 + szs ds := rfl
  have h1 := g.dp
  have h2 := g.sz
  have h3 := dps_mem h
  have h4 := szs_mem h
  exact ⟨Wds.mem.mp g.wd.2 d h, by omega, by omega⟩
def Itm (H : Hp) (W : Nat) (y : V) : Prop := ∃ e, Dt H e y ∧ Gd W e
theorem Itm.mono {H H' : Hp} {W : Nat} {y : V} (t : KeepT H H') (h : Itm H W y) : Itm H' W y := by
  obtain ⟨e, h1, h2⟩ := h
  exact ⟨e, h1.mono t, h2⟩
def spNodes (n : Nat) : Sp := fun vs H Q _ => ∃ v d f xs W, vs = [v, .ref f] ∧ Dt H d v ∧ Gd W d ∧ d.dp ≤ n ∧ W ≤ 3000 ∧ H f = some (.lst xs) ∧ (∀ x ∈ xs, Itm H W x) ∧ xs.length ≤ 3000 ∧
  ∀ H' ys, Kp [f] H H' → H' f = some (.lst ys) → (∀ y ∈ ys, Itm H' W y) → ys.length ≤ 3000 → ys ≠ [] → Q (.ref f) H'
def spChanged (n : Nat) : Sp := fun vs H Q _ => ∃ v d b k o e W, vs = [v, .ref b, o] ∧ Dt H d v ∧ Wd okS W d ∧ d.dp ≤ n ∧ W ≤ 3000 ∧ Dt H e o ∧ Wd okS W e ∧ H b = some (.lst [.int k]) ∧
  ∀ u d' k' H', Kp [b] H H' → H' b = some (.lst [.int k']) → Dt H' d' u → Wd okS W d' → Q u H'
def spHigh : Sp := fun vs H Q _ => ∃ v d W, vs = [v] ∧ Dt H d v ∧ Wd okS W d ∧ W ≤ 40 ∧ ∀ (r : Int) H', Kp [] H H' → (r ≤ 90 → d.dp ≤ 90 ∧ d.sz ≤ 200000) → Q (.int r) H'

abbrev s_law_nodes_of : Stmt := top 19
abbrev N_law_nodes_of : List Str := ["value", "found", "part"]
theorem sc_law_nodes_of : FnScope N_law_nodes_of ["value", "found"] (defScope s_law_nodes_of) := ⟨rfl, rfl, rfl, by decide +kernel, rfl, by decide +kernel, by decide +kernel⟩
abbrev s_law_changed : Stmt := top 20
abbrev N_law_changed : List Str := ["value", "box", "other", "part"]
theorem sc_law_changed : FnScope N_law_changed ["value", "box", "other"] (defScope s_law_changed) := ⟨rfl, rfl, rfl, by decide +kernel, rfl, by decide +kernel, by decide +kernel⟩
abbrev s_law_high : Stmt := top 21
abbrev N_law_high : List Str := ["value", "level", "high", "count", "deeper", "one"]
theorem sc_law_high : FnScope N_law_high ["value"] (defScope s_law_high) := ⟨rfl, rfl, rfl, by decide +kernel, rfl, by decide +kernel, by decide +kernel⟩
section
variable {P : Program} {w : World} {K : PySem.W.Frag} {mg : Str → Option Value} {base : Heap} {aR : Addr} {tL tF : Tok}
theorem ok_nodes {k n : Nat} (F : Df K mg "_law_nodes_of" s_law_nodes_of ["value", "found"]) (T : Txt K mg aR tL tF) (C_law_nodes_of : Cal P w K mg base "_law_nodes_of" ["value", "found"] k (spNodes n)) :
    Cal P w K mg base "_law_nodes_of" ["value", "found"] (k + 1) (spNodes (n + 1)) := by
  refine F.ok sc_law_nodes_of (fun vs H Q E h => ?_) (fun f cdv A outer s H vs Q E hr h => ?_)
  · obtain ⟨v, d, f, xs, W, rfl, _⟩ := h
    rfl
  obtain ⟨v, d, fo, xs, W, rfl, hd, g, hdp, hW, hf, hxs, lxs, q⟩ := h
  refine ⟨_, (Evl.pss_cut (ps_if (pt_cmpR op_lt (pe_callB call_len_seq (by rfl) T.z_len (by decide +kernel) (pa_cons (pv 1) pa_nil)) pe_int (nomark _)) (pss_one (ps_expr (pe_bm PySem.F.plainAttrs_list PySem.F.slot_list_append PySem.F.type_list_append mt_append (pv 1) (pa_cons (pv 0) pa_nil)))) pss_nil)
      (Evl.pss_cut (ps_if (pt_val (pe_callB call_isi (by rfl) T.z_isinstance (by decide +kernel) (pa_cons (pv 0) (pa_cons (pe_bty (T := "tuple") (by rfl) T.z_tuple (by decide +kernel)) pa_nil)))) (pss_one (ps_for PassesOwn.never rfl (pi_tup (pv 0)) (pg_name (i := 2) sc_law_nodes_of.nd rfl (.inl rfl)) (pss_one (ps_expr (pe_cal C_law_nodes_of hr rfl (pa_cons (pv 2) (pa_cons (pv 1) pa_nil))))))) pss_nil)
      (pss_one (ps_ret (pv 1))))), ?_⟩
  refine r_cut (fun σ H' => ∃ ys, σ = [some v, some (.ref fo), none] ∧ Kp [fo] H H' ∧ H' fo = some (.lst ys) ∧ (∀ y ∈ ys, Itm H' W y) ∧ ys.length ≤ 3000 ∧ ys ≠ []) ?_ ?_
  · walk_at "rd"
    refine ⟨fo, xs, rfl, .inl (SqL.of hf), ?_⟩
    walk_at "rd"
    refine if_2 (fun c => ?_) (fun c => ?_)
    · walk_at "rd"
      refine ⟨.inl ⟨rfl, _, SqL.of hf⟩, ?_⟩
      walk_at "rd"
      have few : xs.length < 3000 := by simp at c; omega
      refine ⟨fo, xs, v, rfl, rfl, hf, Nat.lt_of_lt_of_le few (by decide), ?_⟩
      walk_at "rd"
      have k1 : Kp [fo] H (upd H fo (.lst (xs ++ [v]))) := (Kp.refl _ _).at (by simp)
      have t1 : KeepT H (upd H fo (.lst (xs ++ [v]))) := k1.t1 (NoT.lst hf)
      refine ⟨xs ++ [v], rfl, k1, upd_same, ?_, by rw [List.length_append]; exact few, by simp⟩
      intro y hy
      rcases List.mem_append.mp hy with hy | hy
      · exact (hxs y hy).mono t1
      · rw [List.mem_singleton.mp hy]
        exact ⟨d, hd.mono t1, g⟩
    · walk_at "rd"
      refine ⟨xs, rfl, Kp.refl _ _, hf, hxs, lxs, ?_⟩
      rintro rfl
      simp at c
  · rintro σ H1 ⟨ys, rfl, k1, hf1, hys, lys, nys⟩
    have t1 : KeepT H H1 := k1.t1 (NoT.lst hf)
    refine r_cut (fun σ H' => ∃ ys v2, σ = [some v, some (.ref fo), v2] ∧ Kp [fo] H H' ∧ H' fo = some (.lst ys) ∧ (∀ y ∈ ys, Itm H' W y) ∧ ys.length ≤ 3000 ∧ ys ≠ []) ?_ ?_
    · walk_at "rd"
      refine r_isT (hd.mono t1) ?_
      walk_at "rd"
      refine if_2 (fun c => ?_) (fun c => ?_)
      · obtain ⟨ds, rfl⟩ := D.tup_of c
        obtain ⟨a, us, rfl, ha, hus⟩ := hd.tup
        have nea : a ≠ fo := ne_of ha hf (by intro z; cases z)
        have edp : (D.tup ds).dp = 1 + dps ds := rfl
        walk_at "rd"
        refine ⟨_, rfl, a, rfl, ⟨_, SqT.of (t1 a _ ha)⟩, for_tup (K := K) (a := a) (xs := us) (fun i σ H' => ∃ ys v2, σ = [some (.ref a), some (.ref fo), v2] ∧ Kp [fo] H H' ∧ H' fo = some (.lst ys) ∧ (∀ y ∈ ys, Itm H' W y) ∧ ys.length ≤ 3000 ∧ ys ≠ [])
          ⟨ys, none, rfl, k1, hf1, hys, lys, nys⟩ (fun i σ H' _ ⟨_, _, _, k, _⟩ => SqT.of (k a _ (by simpa using nea) ha)) ?_ ?_⟩
        · rintro i u σ H2 hi ⟨zs, v2, rfl, k2, hf2, hzs, lzs, nzs⟩
          obtain ⟨e, he, hu⟩ := hus.at hi
          have me : e ∈ ds := List.mem_of_getElem? he
          have dpe := dps_mem me
          have t2 : KeepT H H2 := k2.t1 (NoT.lst hf)
          walk_at "rd"
          refine ⟨u, e, fo, zs, W, rfl, hu.mono t2, g.part me, by omega, hW, hf2, hzs, lzs, fun H3 ws k3 hf3 hws lws nws => ?_⟩
          walk_at "rd"
          exact ⟨ws, some u, rfl, k2.trans k3, hf3, hws, lws, nws⟩
        · rintro σ H2 ⟨zs, v2, rfl, k2, hf2, hzs, lzs, nzs⟩
          exact ⟨zs, v2, rfl, k2, hf2, hzs, lzs, nzs⟩
      · walk_at "rd"
        exact ⟨ys, none, rfl, k1, hf1, hys, lys, nys⟩
    · rintro σ H2 ⟨zs, v2, rfl, k2, hf2, hzs, lzs, nzs⟩
      walk_at "rd"
      exact q H2 zs k2 hf2 hzs lzs nzs
theorem ok_changed {k n : Nat} (F : Df K mg "_law_changed" s_law_changed ["value", "box", "other"]) (T : Txt K mg aR tL tF) (C_law_changed : Cal P w K mg base "_law_changed" ["value", "box", "other"] k (spChanged n)) :
    Cal P w K mg base "_law_changed" ["value", "box", "other"] (k + 1) (spChanged (n + 1)) := by
  refine F.ok sc_law_changed (fun vs H Q E h => ?_) (fun f cdv A outer s H vs Q E hr h => ?_)
  · obtain ⟨v, d, b, k, o, e, W, rfl, _⟩ := h
    rfl
  obtain ⟨v, d, b, j, o, e, W, rfl, hd, hw, hdp, hW, ho, hwo, hb, q⟩ := h
  refine ⟨_, (pss_cons (ps_asg (pe_op op_sub (pe_ix ix_list (pv 1) pe_int (fun _ _ => rfl)) pe_int) (pg_sub (pv 1) pe_int set_list))
      (pss_cons (ps_if (pt_cmpR op_eq (pe_ix ix_list (pv 1) pe_int (fun _ _ => rfl)) pe_int (nomark _)) (pss_one (ps_ret (pv 2))) pss_nil)
      (pss_cons (ps_if (pt_not (pt_val (pe_callB call_isi (by rfl) T.z_isinstance (by decide +kernel) (pa_cons (pv 0) (pa_cons (pe_bty (T := "tuple") (by rfl) T.z_tuple (by decide +kernel)) pa_nil))))) (pss_one (ps_ret (pv 0))) pss_nil)
      (pss_one (ps_ret (pe_callTy call_tuple_of (by rfl) T.z_tuple (by decide +kernel) (pa_cons (pe_lc (own := [("part", 3)]) (g := gName 3) rfl sc_law_changed.nd (pi_tup (pv 0)) (blkOk_by (N := N_law_changed) (sc := defScope s_law_changed) (by decide +kernel)) (fun _ _ _ _ _ => (pg_name (i := 3) sc_law_changed.nd rfl (Or.inl rfl))) (fun _ _ _ _ _ => pts_nil) (fun _ _ _ _ _ => (pe_cal C_law_changed hr rfl (pa_cons (pv 3) (pa_cons (pv 1) (pa_cons (pv 2) pa_nil)))))) pa_nil))))))), ?_⟩
  walk_at "rd"
  refine r_ixL hb rfl ?_
  walk_at "rd"
  refine r_set hb rfl ?_
  have k1 : Kp [b] H (upd H b (.lst [.int (j - 1)])) := (Kp.refl _ _).at (by simp)
  have t1 : KeepT H (upd H b (.lst [.int (j - 1)])) := k1.t1 (NoT.lst hb)
  have b1 : (upd H b (.lst [.int (j - 1)])) b = some (.lst [.int (j - 1)]) := upd_same
  show (fun (H1 : Hp) => _) (upd H b (.lst [.int (j - 1)]))
  generalize (upd H b (.lst [.int (j - 1)])) = H1 at k1 t1 b1 ⊢
  walk_at "rd"
  refine r_ixL b1 rfl ?_
  walk_at "rd"
  refine if_2 (fun c => ?_) (fun c => ?_)
  · walk_at "rd"
    exact q o e _ H1 k1 b1 (ho.mono t1) hwo
  walk_at "rd"
  replace hd := hd.mono t1
  refine r_isT hd ?_
  walk_at "rd"
  refine if_2 (fun c2 => ?_) (fun c2 => ?_)
  · walk_at "rd"
    exact q v d _ H1 k1 b1 hd hw
  obtain ⟨ds, rfl⟩ := D.tup_of (by simpa using c2)
  obtain ⟨a, us, rfl, ha, hus⟩ := hd.tup
  have nea : a ≠ b := ne_of ha b1 (by intro z; cases z)
  have edp : (D.tup ds).dp = 1 + dps ds := rfl
  have wds : Wds okS W ds := hw.2
  have lds : ds.length ≤ W := hw.1
  have lus := hus.len
  walk_at "rd"
  refine ⟨a, rfl, ⟨_, SqT.of ha⟩, fun L nL => lc_it (walk_tup (K := K) (a := a) (xs := us)) (fun i H' => ∃ ys es k', H' L = some (.lst ys) ∧ Dts H' es ys ∧ es.length = i ∧ Kp [b] H1 H' ∧ H' b = some (.lst [.int k']) ∧ ∀ x ∈ es, Wd okS W x)
    ⟨[], [], j - 1, upd_same, rfl, rfl, (Kp.refl _ _).up nL, by rw [upd_ne (ne_of_none b1 nL)]; exact b1, (fun x hx => by cases hx)⟩ (fun i H' _ ⟨_, _, _, _, _, _, k, _⟩ => SqT.of (k a _ (by simpa using nea) ha)) ?_ ?_⟩
  · rintro i u H0 H2 hi ⟨ys, es, k', hL, hes, les, k2, b2, wes⟩ ⟨rfl, hu⟩
    obtain ⟨x, hx, hux⟩ := hus.at hu
    have mx : x ∈ ds := List.mem_of_getElem? hx
    have dpx := dps_mem mx
    have t2 : KeepT H1 H2 := k2.t1 (NoT.lst b1)
    have neL : L ≠ b := (ne_of_none b1 nL).symm
    walk_at "rd"
    refine ⟨rfl, ?_⟩
    walk_at "rd"
    refine ⟨u, x, b, k', o, e, W, rfl, hux.mono t2, Wds.mem.mp wds x mx, by omega, hW, (ho.mono t1).mono t2, hwo, b2, fun u3 d3 k3' H3 k3 b3 hd3 wd3 => ?_⟩
    have hL3 := k3 L _ (by simpa using neL) hL
    have t3 : KeepT H2 H3 := k3.t1 (NoT.lst b2)
    refine ⟨ys, hL3, ?_, ys ++ [u3], es ++ [d3], k3', upd_same, ?_, ?_, (k2.trans k3).own nL, by rw [upd_ne neL.symm]; exact b3, ?_⟩
    · have := hes.len
      exact Nat.lt_of_le_of_lt (show _ ≤ 3000 by omega) (by decide)
    · exact Dts.mono (fun p xs z => by rw [upd_ne (ne_of z hL3 (fun q => by cases q))]; exact z) ((hes.mono t3).snoc hd3)
    · rw [List.length_append, les]
      rfl
    · intro y hy
      rcases List.mem_append.mp hy with hy | hy
      · exact wes y hy
      · rw [List.mem_singleton.mp hy]
        exact wd3
  · rintro H2 ⟨ys, es, k', hL, hes, les, k2, b2, wes⟩
    walk_at "rd"
    refine ⟨L, ys, rfl, .inl ⟨SqL.of hL, fun l nl => ?_⟩⟩
    obtain ⟨k3, t3, d3⟩ := new_tup nl hes
    walk_at "rd"
    exact q _ (.tup es) k' _ (k1.trans (k2.trans k3.of0)) (k3.get b2) d3 ⟨by omega, Wds.mem.mpr wes⟩
theorem ok_high (F : Df K mg "_law_high" s_law_high ["value"]) (T : Txt K mg aR tL tF) : Cal P w K mg base "_law_high" ["value"] 1 spHigh := by
  refine F.ok sc_law_high (fun vs H Q E h => ?_) (fun f cdv A outer s H vs Q E hr h => ?_)
  · obtain ⟨v, d, W, rfl, _⟩ := h
    rfl
  obtain ⟨v, d, W, rfl, hd, hw, hW, q⟩ := h
  refine ⟨_, (pss_cons (ps_set (i := 1) sc_law_high.nd rfl (Or.inl rfl) (pe_lst (pa_cons (pv 0) pa_nil)))
      (pss_cons (ps_set (i := 2) sc_law_high.nd rfl (Or.inl rfl) pe_int)
      (pss_cons (ps_set (i := 3) sc_law_high.nd rfl (Or.inl rfl) pe_int)
      (pss_cons (ps_while PassesOwn.never (PW.pt (pw_and (pt_truth (pv 1) (by intro _; rfl)) (pw_and1 (pt_cmpR op_lt (pv 3) pe_int (nomark _))))) (pss_cons (ps_set (i := 2) sc_law_high.nd rfl (Or.inl rfl) (pe_op op_add (pv 2) pe_int))
      (pss_cons (ps_set (i := 3) sc_law_high.nd rfl (Or.inl rfl) (pe_op op_add (pv 3) (pe_callB call_len_seq (by rfl) T.z_len (by decide +kernel) (pa_cons (pv 1) pa_nil))))
      (pss_cons (ps_set (i := 4) sc_law_high.nd rfl (Or.inl rfl) (pe_lst pa_nil))
      (pss_cons (ps_for PassesOwn.never rfl (pi_list (pv 1)) (pg_name (i := 5) sc_law_high.nd rfl (.inl rfl)) (pss_one (ps_if (pt_val (pe_callB call_isi (by rfl) T.z_isinstance (by decide +kernel) (pa_cons (pv 5) (pa_cons (pe_bty (T := "tuple") (by rfl) T.z_tuple (by decide +kernel)) pa_nil)))) (pss_one (ps_expr (pe_bm PySem.F.plainAttrs_list PySem.F.slot_list_extend PySem.F.type_list_extend mt_extT (pv 4) (pa_cons (pv 5) pa_nil)))) pss_nil)))
      (pss_one (ps_set (i := 1) sc_law_high.nd rfl (Or.inl rfl) (pv 4))))))))
      (pss_cons (ps_if (pt_truth (pv 1) (by intro _; rfl)) (pss_one (ps_ret pe_int)) pss_nil)
      (pss_one (ps_ret (pv 2)))))))), ?_⟩
  walk_at "rd"
  refine r_lstN (by simp) fun l0 H0 k0 t0 n0 e0 => ?_
  walk_at "rd"
  refine ⟨fun m σ H' => ∃ (L : Addr) (xs : List V) (ds : List D) (h c : Nat) (v4 v5 : Option V), σ = [some v, some (.ref L), some (.int h), some (.int c), v4, v5] ∧ Kp [] H H' ∧ H L = none ∧ H' L = some (.lst xs) ∧ Dts H' ds xs ∧ Wds okS W ds ∧
      d.dp ≤ h + dps ds ∧ d.sz ≤ c + szs ds ∧ xs.length ≤ 40 * (c + 1) ∧ c ≤ 164000 ∧ m = 4000 - c,
    ⟨_, l0, [v], [d], 0, 0, none, none, rfl, k0, n0, e0, Dts.cons (hd.mono t0) Dts.nil, ⟨hw, trivial⟩, ?_, ?_, by simp, by omega, rfl⟩, ?_⟩
  · show d.dp ≤ 0 + max d.dp 0
    omega
  · show d.sz ≤ 0 + (d.sz + 0)
    omega
  rintro m σ H1 ⟨L, xs, ds, h, c, v4, v5, rfl, k1, nL, hL, hds, wds, dle, sle, lxs, cle, rfl⟩
  have lds := hds.len
  walk_at "rd"
  refine ⟨_, .inl ⟨xs, SqL.of hL, rfl⟩, if_2 (fun c1 => ?_) (fun c1 => ?_)⟩
  rotate_left
  · have e0 : xs = [] := by
      cases xs with
      | nil => rfl
      | cons _ _ => cases c1
    subst e0
    have e1 : ds = [] := List.eq_nil_of_length_eq_zero lds.symm
    subst e1
    have z1 : d.dp ≤ h := dle
    have z2 : d.sz ≤ c := sle
    walk_at "rd"
    refine ⟨_, .inl ⟨[], SqL.of hL, rfl⟩, ?_⟩
    walk_at "rd"
    exact q h H1 k1 fun r => ⟨by omega, by omega⟩
  walk_at "rd"
  refine if_2 (fun c2 => ?_) (fun c2 => ?_)
  rotate_left
  · walk_at "rd"
    refine ⟨_, .inl ⟨xs, SqL.of hL, rfl⟩, if_t c1 ?_⟩
    walk_at "rd"
    exact q 1000 H1 k1 fun r => absurd r (by decide)
  have cl : c < 4000 := by simp at c2; omega
  have px : 1 ≤ xs.length := by
    cases xs with
    | nil => cases c1
    | cons _ _ => simp
  refine ⟨_, fun _ _ z => z, ?_⟩
  walk_at "rd"
  refine ⟨L, xs, rfl, .inl (SqL.of hL), ?_⟩
  walk_at "rd"
  refine r_lstN (by simp) fun M H2 k2 t2 nM eM => ?_
  walk_at "rd"
  have neL : M ≠ L := (ne_of_none hL nM).symm
  have nM0 : H M = none := k1.none nM
  refine ⟨_, rfl, L, rfl, ⟨_, SqL.of (k2.get hL)⟩, for_list (K := K) (a := L) (xs := xs) (fun i σ H' => ∃ es ys v6, σ = [some v, some (.ref L), some (.int ((h : Int) + 1)), some (.int ((c : Int) + (xs.length : Nat))), some (.ref M), v6] ∧ Kp [] H H' ∧ H' L = some (.lst xs) ∧ Dts H' ds xs ∧ H' M = some (.lst ys) ∧ Dts H' es ys ∧ Wds okS W es ∧
      dps (ds.take i) ≤ 1 + dps es ∧ szs (ds.take i) ≤ i + szs es ∧ ys.length ≤ W * i)
    ⟨[], [], v5, rfl, k1.trans k2, k2.get hL, hds.mono t2, eM, Dts.nil, trivial, by show 0 ≤ _; omega, by show 0 ≤ _; omega, Nat.zero_le _⟩ (fun i σ H' _ ⟨_, _, _, _, _, e, _⟩ => SqL.of e) ?_ ?_⟩
  · rintro i u σ H3 hi ⟨es, ys, v6, rfl, k3, hL3, hds3, hM3, hes, wes, dl, sl, ll⟩
    obtain ⟨x, hx, hu⟩ := hds3.at hi
    have mx : x ∈ ds := List.mem_of_getElem? hx
    have wx : Wd okS W x := Wds.mem.mp wds x mx
    have ilt : i < xs.length := (List.getElem?_eq_some_iff.mp hi).1
    have dt1 : dps (ds.take (i + 1)) = max (dps (ds.take i)) (max x.dp 0) := by
      rw [take_one hx, dps_app]
      rfl
    have st1 : szs (ds.take (i + 1)) = szs (ds.take i) + (x.sz + 0) := by
      rw [take_one hx, szs_app]
      rfl
    have mul : W * (i + 1) = W * i + W := Nat.mul_succ _ _
    walk_at "rd"
    refine r_isT hu ?_
    walk_at "rd"
    refine if_2 (fun c3 => ?_) (fun c3 => ?_)
    · obtain ⟨ps, rfl⟩ := D.tup_of c3
      obtain ⟨a, us, rfl, ha, hus⟩ := hu.tup
      have lus := hus.len
      have lps : ps.length ≤ W := wx.1
      have e1 : (D.tup ps).dp = 1 + dps ps := rfl
      have e2 : (D.tup ps).sz = 1 + szs ps := rfl
      walk_at "rd"
      refine ⟨.inl ⟨rfl, _, SqL.of hM3⟩, ?_⟩
      walk_at "rd"
      have big : W * i ≤ 40 * 160040 := Nat.mul_le_mul hW (by omega)
      refine ⟨M, a, ys, us, rfl, rfl, hM3, SqT.of ha, Nat.le_trans (show _ ≤ 16000000 by omega) (by decide), ?_⟩
      walk_at "rd"
      have tt : KeepT H3 (upd H3 M (.lst (ys ++ us))) := fun p zs z => by rw [upd_ne (ne_of z hM3 (fun q => by cases q))]; exact z
      refine ⟨es ++ ps, ys ++ us, some (.ref a), rfl, k3.own nM0, by rw [upd_ne neL.symm]; exact hL3, hds3.mono tt, upd_same, (hes.app hus).mono tt, wes.app wx.2, ?_, ?_, ?_⟩
      · rw [dt1, dps_app]
        omega
      · rw [st1, szs_app]
        omega
      · rw [List.length_append]
        omega
    · have e1 : x.dp = 1 := by cases x <;> first | rfl | cases c3
      have e2 : x.sz = 1 := by cases x <;> first | rfl | cases c3
      walk_at "rd"
      refine ⟨es, ys, some u, rfl, k3, hL3, hds3, hM3, hes, wes, ?_, ?_, by omega⟩
      · rw [dt1]
        omega
      · rw [st1]
        omega
  · rintro σ H3 ⟨es, ys, v6, rfl, k3, hL3, hds3, hM3, hes, wes, dl, sl, ll⟩
    rw [lds, List.take_length] at dl sl
    walk_at "rd"
    have big : W * xs.length ≤ 40 * xs.length := Nat.mul_le_mul_right _ hW
    refine ⟨4000 - (c + xs.length), by omega, M, ys, es, h + 1, c + xs.length, some (.ref M), v6, rfl, k3, nM0, hM3, hes, wes, by omega, by omega, by omega, by omega, rfl⟩
end
end K01
end

section
/-! Law k01: spoiling, and the law. -/
namespace K01
open PySem L2 PyProof.Rows PySem.Spec Lc
local macro_rules | `(tactic| walk_at "rd") => `(tactic| repeat (first
  | with_reducible refine r_seq ?_ | with_reducible refine r_mknx ?_ | with_reducible refine r_mkrt ?_ | with_reducible refine r_asg ?_ | with_reducible refine r_name ?_ | with_reducible refine r_next ?_
  | with_reducible refine r_drop ?_ | with_reducible refine r_ret ?_ | with_reducible refine r_if ?_
  | ((with_reducible refine' r_var ?e ?_); (case e => rfl)) | with_reducible refine r_c ?_ | with_reducible refine r_op ?_ | with_reducible refine r_un ?_ | with_reducible refine r_test ?_ | with_reducible refine r_tb ?_
  | with_reducible refine r_and ?_ | with_reducible refine r_or ?_ | with_reducible refine r_not ?_ | with_reducible refine r_andV ?_ | with_reducible refine r_orV ?_ | with_reducible refine r_notV ?_ | with_reducible refine r_bl ?_
  | with_reducible refine r_cb ?_ | with_reducible refine r_cons ?_ | with_reducible refine r_nil ?_ | with_reducible refine r_tup ?_ | with_reducible refine r_lst ?_ | with_reducible refine r_call ?_
  | with_reducible refine r_i0 ?_ | with_reducible refine r_par ?_ | with_reducible refine r_two ?_ | with_reducible refine r_lc ?_ | with_reducible refine r_iL ?_ | with_reducible refine r_iT ?_ | with_reducible refine r_iS ?_ | with_reducible refine r_i1 ?_ | with_reducible refine r_yes ?_ | with_reducible refine r_chain ?_ | with_reducible refine if_t rfl ?_ | with_reducible refine if_f rfl ?_ | with_reducible refine r_nt ?_ | ((with_reducible refine r_eq ?e ?_); (case e => rfl)) | ((with_reducible refine r_ne ?e ?_); (case e => rfl))
  | with_reducible refine r_sub ?_ | with_reducible refine r_sl ?_ | with_reducible refine r_nopart ?_ | with_reducible refine r_part ?_ | with_reducible refine r_int ?_ | with_reducible refine r_bm ?_ | with_reducible refine r_bm0 ?_))
local macro_rules | `(tactic| walk_at "dt") => `(tactic| repeat' (first | (show Dt _ _ _; assumption) | exact dt_str | exact dt_int | exact dt_bl | exact dt_non | exact Dts.nil | refine' Dts.cons ?_ ?_ | (refine' Dt.mono ?kk ?_; (case kk => assumption)) | fail))
local macro_rules | `(tactic| walk_at "at") => `(tactic| repeat (first | assumption | (refine' Kp.get ?kk ?_; (case kk => assumption)) | fail))
local macro_rules | `(tactic| walk_at "kp") => `(tactic| repeat (first | assumption | exact Kp.refl _ _ | (refine' Kp.trans ?_ ?kk; (case kk => assumption)) | fail))
local macro_rules | `(tactic| walk_at "tup") => `(tactic| (refine' r_tupN ?h ?f ?k; (case h => walk_at "dt"); (case f => simp); skip))

theorem okS_short {x : Str} (h : okB x = true) : okS x := okB_ok x h
/-- data that are told -/
theorem gd_of {W : Nat} {d : D} (h1 : wdB okB 3 d = true) (h2 : d.dp ≤ 90) (h3 : d.sz ≤ 200000) (hW : 3 ≤ W) : Gd W d := ⟨(wd_of okB_ok h1).wide hW, h2, h3⟩
def spSpoilt : Sp := fun vs H Q _ => ∃ (c a m : Addr) (v : V) (d : D) (W : Nat) (ms : List V), vs = [.ref c, v, .ref m] ∧ CS a H c ∧ Dt H d v ∧ Gd W d ∧ 3 ≤ W ∧ W + 1 ≤ 40 ∧ H m = some (.lst ms) ∧ m ≠ c ∧ ms.length ≤ 100 ∧ (∀ x ∈ ms, Itm H W x) ∧
  ∀ v' d' H', Kp [c] H H' → CS a H' c → Dt H' d' v' → Gd (W + 1) d' → Q v' H'
/-- what may be put in -/
def Oth (H : Hp) (W : Nat) (y : V) : Prop := ∃ e, Dt H e y ∧ Wd okS W e
theorem Itm.oth {H : Hp} {W : Nat} {y : V} (h : Itm H W y) : Oth H (W + 1) y := by
  obtain ⟨e, h1, h2⟩ := h
  exact ⟨e, h1, h2.wd.wide (Nat.le_succ W)⟩
theorem Oth.mono {H H' : Hp} {W : Nat} {y : V} (t : KeepT H H') (h : Oth H W y) : Oth H' W y := by
  obtain ⟨e, h1, h2⟩ := h
  exact ⟨e, h1.mono t, h2⟩

abbrev s_law_spoilt : Stmt := top 22
abbrev N_law_spoilt : List Str := ["c", "value", "menu", "found", "at", "one", "others", "other", "changed"]
theorem sc_law_spoilt : FnScope N_law_spoilt ["c", "value", "menu"] (defScope s_law_spoilt) := ⟨rfl, rfl, rfl, by decide +kernel, rfl, by decide +kernel, by decide +kernel⟩
abbrev s_law : Stmt := top 23
abbrev N_law : List Str := ["script", "c", "menu", "turn", "kind", "signature", "first", "k", "told"]
theorem sc_law : FnScope N_law ["script"] (defScope s_law) := ⟨rfl, rfl, rfl, by decide +kernel, rfl, by decide +kernel, by decide +kernel⟩
section
variable {P : Program} {w : World} {K : PySem.W.Frag} {mg : Str → Option Value} {base : Heap} {aR : Addr} {tL tF : Tok}
theorem ok_spoilt (F : Df K mg "_law_spoilt" s_law_spoilt ["c", "value", "menu"]) (T : Txt K mg aR tL tF) (C_law_nodes_of : Cal P w K mg base "_law_nodes_of" ["value", "found"] 110 (spNodes 91)) (C_law_take : Cal P w K mg base "_law_take" ["c", "many"] 110 spTake)
    (C_law_is_int : Cal P w K mg base "_law_is_int" ["value"] 110 spIsInt) (C_law_changed : Cal P w K mg base "_law_changed" ["value", "box", "other"] 110 (spChanged 91)) (C_law_high : Cal P w K mg base "_law_high" ["value"] 110 spHigh) :
    Cal P w K mg base "_law_spoilt" ["c", "value", "menu"] 111 spSpoilt := by
  refine F.ok sc_law_spoilt (fun vs H Q E h => ?_) (fun f cdv A outer s H vs Q E hr h => ?_)
  · obtain ⟨c, a, m, v, d, W, ms, rfl, _⟩ := h
    rfl
  obtain ⟨c, a, m, v, d, W, ms, rfl, cs, hd, g, hW3, hW, hm, nmc, lms, hms, q⟩ := h
  refine ⟨_, (pss_cons (ps_set (i := 3) sc_law_spoilt.nd rfl (Or.inl rfl) (pe_cal C_law_nodes_of hr rfl (pa_cons (pv 1) (pa_cons (pe_lst pa_nil) pa_nil))))
      (pss_cons (ps_set (i := 4) sc_law_spoilt.nd rfl (Or.inl rfl) (pe_cal C_law_take hr rfl (pa_cons (pv 0) (pa_cons (pe_callB call_len_seq (by rfl) T.z_len (by decide +kernel) (pa_cons (pv 3) pa_nil)) pa_nil))))
      (pss_cons (ps_set (i := 5) sc_law_spoilt.nd rfl (Or.inl rfl) (pe_ix ix_list (pv 3) (pv 4) (fun _ _ => rfl)))
      (pss_cons (ps_set (i := 6) sc_law_spoilt.nd rfl (Or.inl rfl) (pe_op op_cat (pe_lst (pa_cons (pe_ix ix_list (pv 3) (pe_cal C_law_take hr rfl (pa_cons (pv 0) (pa_cons (pe_callB call_len_seq (by rfl) T.z_len (by decide +kernel) (pa_cons (pv 3) pa_nil)) pa_nil))) (fun _ _ => rfl)) (pa_cons (pe_ix ix_list (pv 3) (pe_cal C_law_take hr rfl (pa_cons (pv 0) (pa_cons (pe_callB call_len_seq (by rfl) T.z_len (by decide +kernel) (pa_cons (pv 3) pa_nil)) pa_nil))) (fun _ _ => rfl)) (pa_cons pe_non (pa_cons pe_bl (pa_cons pe_bl (pa_cons pe_int (pa_cons pe_int (pa_cons (pe_op op_sub pe_int pe_int) (pa_cons pe_str (pa_cons pe_str (pa_cons (pe_tup pa_nil) (pa_cons (pe_tup (pa_cons (pe_tup pa_nil) (pa_cons pe_str pa_nil))) pa_nil))))))))))))) (pv 2)))
      (pss_cons (ps_set (i := 7) sc_law_spoilt.nd rfl (Or.inl rfl) (pe_ix ix_list (pv 6) (pe_cal C_law_take hr rfl (pa_cons (pv 0) (pa_cons (pe_callB call_len_seq (by rfl) T.z_len (by decide +kernel) (pa_cons (pv 6) pa_nil)) pa_nil))) (fun _ _ => rfl)))
      (Evl.pss_cut (ps_if (PW.pt (pw_and (pt_val (pe_callB call_isi (by rfl) T.z_isinstance (by decide +kernel) (pa_cons (pv 5) (pa_cons (pe_bty (T := "tuple") (by rfl) T.z_tuple (by decide +kernel)) pa_nil)))) (pw_and1 (pt_cmpR op_eq (pe_cal C_law_take hr rfl (pa_cons (pv 0) (pa_cons pe_int pa_nil))) pe_int (nomark _))))) (pss_one (ps_set (i := 7) sc_law_spoilt.nd rfl (Or.inl rfl) (pe_ix ix_list (pe_lst (pa_cons (pe_slice sl_tupA (pv 5) (po_some pe_int) po_none) (pa_cons (pe_op op_catA (pv 5) (pe_slice sl_tupA (pv 5) (po_some (pe_un un_neg pe_int)) po_none)) (pa_cons (pe_revT (pv 5)) (pa_cons (pe_slice sl_tupA (pv 5) po_none (po_some (pe_un un_neg pe_int))) pa_nil))))) (pe_cal C_law_take hr rfl (pa_cons (pv 0) (pa_cons pe_int pa_nil))) (fun _ _ => rfl)))) pss_nil)
      (Evl.pss_cut (ps_if (PW.pt (pw_and (pt_val (pe_cal C_law_is_int hr rfl (pa_cons (pv 5) pa_nil))) (pw_and1 (pt_cmpR op_eq (pe_cal C_law_take hr rfl (pa_cons (pv 0) (pa_cons pe_int pa_nil))) pe_int (nomark _))))) (pss_one (ps_set (i := 7) sc_law_spoilt.nd rfl (Or.inl rfl) (pe_ix ix_list (pe_lst (pa_cons (pe_op op_add (pv 5) pe_int) (pa_cons (pe_op op_sub (pv 5) pe_int) (pa_cons (pe_op op_add (pv 5) pe_int) pa_nil)))) (pe_cal C_law_take hr rfl (pa_cons (pv 0) (pa_cons pe_int pa_nil))) (fun _ _ => rfl)))) pss_nil)
      (pss_cons (ps_set (i := 8) sc_law_spoilt.nd rfl (Or.inl rfl) (pe_cal C_law_changed hr rfl (pa_cons (pv 1) (pa_cons (pe_lst (pa_cons (pe_op op_add (pv 4) pe_int) pa_nil)) (pa_cons (pv 7) pa_nil)))))
      (pss_cons (ps_if (pt_cmpR op_gt (pe_cal C_law_high hr rfl (pa_cons (pv 8) pa_nil)) pe_int (nomark _)) (pss_one (ps_ret (pv 1))) pss_nil)
      (pss_one (ps_ret (pv 8)))))))))))), ?_⟩
  walk_at "rd"
  refine r_lstN (by simp) fun fo H1 k1 t1 nf ef => ?_
  walk_at "rd"
  refine ⟨v, d, fo, [], W, rfl, hd.mono t1, g, Nat.le_trans g.dp (by decide), by omega, ef, (fun x hx => by cases hx), by simp, fun H2 ys k2 e2 hys lys nys => ?_⟩
  have kk2 : Kp [] H H2 := (k1.of0.trans k2).drop nf
  have c2 : CS a H2 c := cs.keep kk2
  have nfo := cs.ne nf
  clear k1 k2 t1 ef H1
  walk_at "rd"
  refine ⟨fo, ys, rfl, .inl (SqL.of e2), ?_⟩
  walk_at "rd"
  have pos : 0 < ys.length := List.length_pos_iff.mpr nys
  refine ⟨c, a, ys.length, rfl, c2, by omega, by omega, fun i1 H3 lo1 hi1 k3 c3 => ?_⟩
  have e3 := k3 fo _ (by simpa using nfo.1) e2
  have t3 := c2.t k3
  walk_at "rd"
  obtain ⟨one, h1, m1, _⟩ := at_mem (xs := ys) lo1 hi1
  refine r_ixL e3 h1 ?_
  walk_at "rd"
  refine ⟨fo, ys, rfl, .inl (SqL.of e3), ?_⟩
  walk_at "rd"
  refine ⟨c, a, ys.length, rfl, c3, by omega, by omega, fun i2 H4 lo2 hi2 k4 c4 => ?_⟩
  have e4 := k4 fo _ (by simpa using nfo.1) e3
  have t4 := c3.t k4
  walk_at "rd"
  obtain ⟨o1, h2, m2, _⟩ := at_mem (xs := ys) lo2 hi2
  refine r_ixL e4 h2 ?_
  walk_at "rd"
  refine ⟨fo, ys, rfl, .inl (SqL.of e4), ?_⟩
  walk_at "rd"
  refine ⟨c, a, ys.length, rfl, c4, by omega, by omega, fun i3 H5 lo3 hi3 k5 c5 => ?_⟩
  have e5 := k5 fo _ (by simpa using nfo.1) e4
  have t5 := c4.t k5
  walk_at "rd"
  obtain ⟨o2, h3, m3, _⟩ := at_mem (xs := ys) lo3 hi3
  refine r_ixL e5 h3 ?_
  walk_at "rd"
  walk_at "tup"
  intro p1 H6 k6 t6 n6 e6 d6
  walk_at "rd"
  walk_at "tup"
  intro p2 H7 k7 t7 n7 e7 d7
  walk_at "rd"
  walk_at "tup"
  intro p3 H8 k8 t8 n8 e8 d8
  walk_at "rd"
  refine r_lstN (by simp) fun l1 H9 k9 t9 n9 e9 => ?_
  walk_at "rd"
  have f1 : Dt H9 (.tup []) (.ref p1) := by walk_at "dt"
  have f3 : Dt H9 (.tup [.tup [], .str "a"]) (.ref p3) := by walk_at "dt"
  have kc : Kp [c] H H9 := ((kk2.of0.trans k3).trans (k4.trans k5)).trans (((k6.trans k7).trans k8).trans k9).of0
  have c9 : CS a H9 c := c5.keep (((k6.trans k7).trans k8).trans k9)
  have m9 : H9 m = some (.lst ms) := kc m _ (by simpa using nmc) hm
  have th : KeepT H H9 := cs.t kc
  refine r_catN e9 m9 (by simp; omega) fun l2 H10 k10 t10 n10 e10 => ?_
  walk_at "rd"
  have t210 : KeepT H2 H10 := (((t3.trans t4).trans t5).trans ((t6.trans t7).trans (t8.trans t9))).trans t10
  have good : ∀ d : D, wdB okB 3 d = true → d.dp ≤ 90 → d.sz ≤ 200000 → ∀ y, Dt H10 d y → Itm H10 W y := fun d z1 z2 z3 y hy => ⟨d, hy, gd_of z1 z2 z3 hW3⟩
  have oth : ∀ y ∈ [o1, o2, .non, .bl true, .bl false, .int 0, .int 1, .int (0 - 1), .str "", .str "a", .ref p1, .ref p3] ++ ms, Itm H10 W y := by
    intro y hy
    rcases List.mem_append.mp hy with hy | hy
    · simp only [List.mem_cons, List.not_mem_nil, or_false] at hy
      rcases hy with rfl | rfl | rfl | rfl | rfl | rfl | rfl | rfl | rfl | rfl | rfl | rfl
      · exact (hys _ m2).mono t210
      · exact (hys _ m3).mono t210
      · exact good .non rfl (by decide) (by decide) _ rfl
      · exact good (.bl true) rfl (by decide) (by decide) _ rfl
      · exact good (.bl false) rfl (by decide) (by decide) _ rfl
      · exact good (.int 0) rfl (by decide) (by decide) _ rfl
      · exact good (.int 1) rfl (by decide) (by decide) _ rfl
      · exact good (.int (0 - 1)) rfl (by decide) (by decide) _ rfl
      · exact good (.str "") (by decide +kernel) (by decide) (by decide) _ rfl
      · exact good (.str "a") (by decide +kernel) (by decide) (by decide) _ rfl
      · exact good (.tup []) (by decide +kernel) (by decide +kernel) (by decide +kernel) _ (f1.mono t10)
      · exact good (.tup [.tup [], .str "a"]) (by decide +kernel) (by decide +kernel) (by decide +kernel) _ (f3.mono t10)
    · exact ((hms y hy).mono th).mono t10
  have lo : ([o1, o2, .non, .bl true, .bl false, .int 0, .int 1, .int (0 - 1), .str "", .str "a", .ref p1, .ref p3] ++ ms).length ≤ 200 := by
    rw [List.length_append]
    show 12 + ms.length ≤ 200
    omega
  have po : 0 < ([o1, o2, .non, .bl true, .bl false, .int 0, .int 1, .int (0 - 1), .str "", .str "a", .ref p1, .ref p3] ++ ms).length := by
    rw [List.length_append]
    show 0 < 12 + ms.length
    omega
  have c10 := c9.keep k10
  have kc10 : Kp [c] H H10 := kc.trans k10.of0
  have hone : Itm H10 W one := (hys _ m1).mono t210
  generalize [o1, o2, .non, .bl true, .bl false, .int 0, .int 1, .int (0 - 1), .str "", .str "a", .ref p1, .ref p3] ++ ms = others at e10 oth lo po
  refine ⟨l2, others, rfl, .inl (SqL.of e10), ?_⟩
  walk_at "rd"
  refine ⟨c, a, others.length, rfl, c10, by omega, by omega, fun i4 H11 lo4 hi4 k11 c11 => ?_⟩
  have nl2 : l2 ≠ c := (c9.ne n10).1
  have t11 := c10.t k11
  walk_at "rd"
  obtain ⟨other, h4, m4, _⟩ := at_mem (xs := others) lo4 hi4
  refine r_ixL (k11 l2 _ (by simpa using nl2) e10) h4 ?_
  walk_at "rd"
  have kc11 : Kp [c] H H11 := kc10.trans k11
  obtain ⟨d1, hd1, g1⟩ := hone.mono t11
  have ho1 : Oth H11 (W + 1) other := ((oth _ m4).mono t11).oth
  clear k3 k4 k5 k6 k7 k8 k9 k10 k11 t3 t4 t5 t6 t7 t8 t9 t10 t11 t210 d6 d7 d8 f1 f3 kc kc10 kk2 e2 e3 e4 e5 e6 e7 e8 e9 e10 n6 n7 n8 n9 n10 c2 c3 c4 c5 c9 c10 hone oth h1 h2 h3 h4 m9 th good
  refine r_cut (fun σ H' => ∃ o, σ = [some (.ref c), some v, some (.ref m), some (.ref fo), some (.int i1), some one, some (.ref l2), some o, none] ∧ Kp [c] H11 H' ∧ CS a H' c ∧ Oth H' (W + 1) o) ?_ ?_
  · walk_at "rd"
    refine r_isT hd1 ?_
    walk_at "rd"
    refine if_2 (fun c1 => ?_) (fun c1 => ?_)
    · obtain ⟨ds, rfl⟩ := D.tup_of c1
      obtain ⟨p, us, rfl, hp, hus⟩ := hd1.tup
      have lus := hus.len
      have wds : Wds okS W ds := g1.wd.2
      have lds : ds.length ≤ W := g1.wd.1
      walk_at "rd"
      refine ⟨c, a, 2, rfl, c11, by decide, by decide, fun i5 G1 lo5 hi5 k1 c1 => ?_⟩
      walk_at "rd"
      have tg1 := c11.t k1
      refine if_2 (fun _ => ?_) (fun _ => ?_)
      · walk_at "rd"
        refine r_slT (tg1 p _ hp) (hus.mono tg1) fun u1 es1 G2 k2 t2 hu1 s1 l1 => ?_
        walk_at "rd"
        refine ⟨1, rfl, ?_⟩
        walk_at "rd"
        refine r_slT (t2 p _ (tg1 p _ hp)) ((hus.mono tg1).mono t2) fun u2 es2 G3 k3 t3 hu2 s2 l2 => ?_
        have l2' := last_cut us
        obtain ⟨p2, us2, rfl, hp2, hus2⟩ := hu2.tup
        have lus2 := hus2.len
        refine r_catT (t3 p _ (t2 p _ (tg1 p _ hp))) hp2 (((hus.mono tg1).mono t2).mono t3) hus2 (by omega) fun u3 G4 k4 t4 hu3 => ?_
        walk_at "rd"
        refine r_back ?_
        walk_at "rd"
        refine ⟨p, us, rfl, SqT.of (t4 p _ (t3 p _ (t2 p _ (tg1 p _ hp)))), fun p4 np4 => ?_⟩
        obtain ⟨k5, t5, hu4⟩ := new_tup np4 (((((hus.mono tg1).mono t2).mono t3).mono t4).rev)
        show (fun (G5 : Hp) => _) (upd G4 p4 (.tup us.reverse))
        generalize (upd G4 p4 (.tup us.reverse)) = G5 at k5 t5 hu4 ⊢
        walk_at "rd"
        refine ⟨1, rfl, ?_⟩
        walk_at "rd"
        refine r_slT (t5 p _ (t4 p _ (t3 p _ (t2 p _ (tg1 p _ hp))))) (((((hus.mono tg1).mono t2).mono t3).mono t4).mono t5) fun u5 es5 G6 k6 t6 hu5 s5 l5 => ?_
        have w1 : Oth G6 (W + 1) u1 := ⟨_, (((hu1.mono t3).mono t4).mono t5).mono t6, ⟨by have := cutV_length us (some 1) none; omega, Wds.mono (fun _ z => z) (Nat.le_succ W) (wds.sub s1)⟩⟩
        have w2 : Oth G6 (W + 1) u3 := ⟨_, (hu3.mono t5).mono t6, ⟨by rw [List.length_append]; omega, Wds.mono (fun _ z => z) (Nat.le_succ W) (wds.app (wds.sub s2))⟩⟩
        have w3 : Oth G6 (W + 1) (.ref p4) := ⟨_, hu4.mono t6, ⟨by rw [List.length_reverse]; omega, Wds.mono (fun _ z => z) (Nat.le_succ W) (wds.sub fun e he => List.mem_reverse.mp he)⟩⟩
        have w4 : Oth G6 (W + 1) u5 := ⟨_, hu5, ⟨by have := cutV_length us none (some (-1)); omega, Wds.mono (fun _ z => z) (Nat.le_succ W) (wds.sub s5)⟩⟩
        have k16 : Kp [] G1 G6 := (((k2.trans k3).trans k4).trans k5).trans k6
        walk_at "rd"
        refine r_lstN (by simp) fun l6 G7 k7 t7 n7 e7 => ?_
        walk_at "rd"
        have cG7 := c1.keep (k16.trans k7)
        refine ⟨c, a, 4, rfl, cG7, by decide, by decide, fun i6 G8 lo6 hi6 k8 c8 => ?_⟩
        have nl6 : l6 ≠ c := ((c1.keep k16).ne n7).1
        walk_at "rd"
        obtain ⟨o, h5, m5, _⟩ := at_mem (xs := [u1, u3, .ref p4, u5]) lo6 hi6
        refine r_ixL (k8 l6 _ (by simpa using nl6) e7) h5 ?_
        walk_at "rd"
        have t8 := cG7.t k8
        refine ⟨o, rfl, (k1.trans (k16.trans k7).of0).trans k8, c8, ?_⟩
        simp only [List.mem_cons, List.not_mem_nil, or_false] at m5
        rcases m5 with rfl | rfl | rfl | rfl
        · exact (w1.mono t7).mono t8
        · exact (w2.mono t7).mono t8
        · exact (w3.mono t7).mono t8
        · exact (w4.mono t7).mono t8
      · walk_at "rd"
        exact ⟨other, rfl, k1, c1, ho1.mono tg1⟩
    · walk_at "rd"
      exact ⟨other, rfl, Kp.refl _ _, c11, ho1⟩
  · rintro σ G0 ⟨o0, rfl, kG0, cG0, hoG0⟩
    have tG0 := c11.t kG0
    refine r_cut (fun σ H' => ∃ o, σ = [some (.ref c), some v, some (.ref m), some (.ref fo), some (.int i1), some one, some (.ref l2), some o, none] ∧ Kp [c] H11 H' ∧ CS a H' c ∧ Oth H' (W + 1) o) ?_ ?_
    · walk_at "rd"
      refine ⟨one, d1, rfl, hd1.mono tG0, fun G1 k1 => ?_⟩
      walk_at "rd"
      have cG1 := cG0.keep k1
      refine if_2 (fun c1 => ?_) (fun c1 => ?_)
      · obtain ⟨n1, rfl⟩ : ∃ n1, d1 = .int n1 := by
          cases d1 <;> first | exact ⟨_, rfl⟩ | cases c1
        cases hd1.int
        walk_at "rd"
        refine ⟨c, a, 2, rfl, cG1, by decide, by decide, fun i5 G2 lo5 hi5 k2 c2 => ?_⟩
        walk_at "rd"
        have t2 := cG1.t k2
        have kk : Kp [c] H11 G2 := (kG0.trans k1.of0).trans k2
        refine if_2 (fun _ => ?_) (fun _ => ?_)
        · walk_at "rd"
          refine r_lstN (by simp) fun l6 G7 k7 t7 n7 e7 => ?_
          walk_at "rd"
          have cG7 := c2.keep k7
          refine ⟨c, a, 3, rfl, cG7, by decide, by decide, fun i6 G8 lo6 hi6 k8 c8 => ?_⟩
          have nl6 : l6 ≠ c := (c2.ne n7).1
          walk_at "rd"
          obtain ⟨o, h5, m5, _⟩ := at_mem (xs := [.int (n1 + 1), .int (n1 - 1), .int (n1 + 2)]) lo6 hi6
          refine r_ixL (k8 l6 _ (by simpa using nl6) e7) h5 ?_
          walk_at "rd"
          refine ⟨o, rfl, (kk.trans k7.of0).trans k8, c8, ?_⟩
          simp only [List.mem_cons, List.not_mem_nil, or_false] at m5
          rcases m5 with rfl | rfl | rfl
          all_goals exact ⟨.int _, rfl, trivial⟩
        · walk_at "rd"
          exact ⟨o0, rfl, kk, c2, (hoG0.mono k1.t0).mono t2⟩
      · walk_at "rd"
        exact ⟨o0, rfl, kG0.trans k1.of0, cG1, hoG0.mono k1.t0⟩
    · rintro σ G1 ⟨o, rfl, k1, cG1, hoG1⟩
      have t1 := c11.t k1
      have kc1 : Kp [c] H G1 := kc11.trans k1
      have tc1 : KeepT H G1 := cs.t kc1
      obtain ⟨e, he, we⟩ := hoG1
      walk_at "rd"
      refine r_lstN (by simp) fun b G2 k2 t2 nb eb => ?_
      walk_at "rd"
      refine ⟨v, d, b, i1 + 1, o, e, W + 1, rfl, (hd.mono tc1).mono t2, g.wd.wide (Nat.le_succ W), Nat.le_trans g.dp (by decide), by omega, he.mono t2, we, eb, fun u d' k' G3 k3 eb3 hd' wd' => ?_⟩
      have k13 : Kp [] G1 G3 := (k2.of0.trans k3).drop nb
      have cG3 := cG1.keep k13
      walk_at "rd"
      refine ⟨u, d', W + 1, rfl, hd', wd', hW, fun r G4 k4 hr4 => ?_⟩
      have kc4 : Kp [c] H G4 := kc1.trans (k13.trans k4).of0
      have cG4 := cG3.keep k4
      walk_at "rd"
      refine if_2 (fun c1 => ?_) (fun c1 => ?_)
      · walk_at "rd"
        exact q v d G4 kc4 cG4 (hd.mono (cs.t kc4)) (g.wide (Nat.le_succ W))
      · have rle : r ≤ 90 := by simp at c1; omega
        obtain ⟨z1, z2⟩ := hr4 rle
        walk_at "rd"
        exact q u d' G4 kc4 cG4 (hd'.mono k4.t0) ⟨wd', z1, z2⟩
end
end K01
end

section
/-! Law k01: the law. -/
namespace K01
open PySem L2 PyProof.Rows PySem.Spec Lc
local macro_rules | `(tactic| walk_at "rd") => `(tactic| repeat (first
  | with_reducible refine r_seq ?_ | with_reducible refine r_mknx ?_ | with_reducible refine r_mkrt ?_ | with_reducible refine r_asg ?_ | with_reducible refine r_name ?_ | with_reducible refine r_next ?_
  | with_reducible refine r_drop ?_ | with_reducible refine r_ret ?_ | with_reducible refine r_if ?_
  | ((with_reducible refine' r_var ?e ?_); (case e => rfl)) | with_reducible refine r_c ?_ | with_reducible refine r_op ?_ | with_reducible refine r_un ?_ | with_reducible refine r_test ?_ | with_reducible refine r_tb ?_
  | with_reducible refine r_and ?_ | with_reducible refine r_or ?_ | with_reducible refine r_not ?_ | with_reducible refine r_andV ?_ | with_reducible refine r_orV ?_ | with_reducible refine r_notV ?_ | with_reducible refine r_bl ?_
  | with_reducible refine r_cb ?_ | with_reducible refine r_cons ?_ | with_reducible refine r_nil ?_ | with_reducible refine r_tup ?_ | with_reducible refine r_lst ?_ | with_reducible refine r_call ?_
  | with_reducible refine r_i0 ?_ | with_reducible refine r_par ?_ | with_reducible refine r_two ?_ | with_reducible refine r_lc ?_ | with_reducible refine r_iL ?_ | with_reducible refine r_iT ?_ | with_reducible refine r_iS ?_ | with_reducible refine r_i1 ?_ | with_reducible refine r_yes ?_ | with_reducible refine r_chain ?_ | with_reducible refine if_t rfl ?_ | with_reducible refine if_f rfl ?_ | with_reducible refine r_nt ?_ | ((with_reducible refine r_eq ?e ?_); (case e => rfl)) | ((with_reducible refine r_ne ?e ?_); (case e => rfl))
  | with_reducible refine r_sub ?_ | with_reducible refine r_sl ?_ | with_reducible refine r_nopart ?_ | with_reducible refine r_part ?_ | with_reducible refine r_int ?_ | with_reducible refine r_bm ?_ | with_reducible refine r_bm0 ?_))
local macro_rules | `(tactic| walk_at "dt") => `(tactic| repeat' (first | (show Dt _ _ _; assumption) | exact dt_str | exact dt_int | exact dt_bl | exact dt_non | exact Dts.nil | refine' Dts.cons ?_ ?_ | (refine' Dt.mono ?kk ?_; (case kk => assumption)) | fail))
local macro_rules | `(tactic| walk_at "at") => `(tactic| repeat (first | assumption | (refine' Kp.get ?kk ?_; (case kk => assumption)) | fail))
local macro_rules | `(tactic| walk_at "kp") => `(tactic| repeat (first | assumption | exact Kp.refl _ _ | (refine' Kp.trans ?_ ?kk; (case kk => assumption)) | fail))
local macro_rules | `(tactic| walk_at "tup") => `(tactic| (refine' r_tupN ?h ?f ?k; (case h => walk_at "dt"); (case f => simp); skip))

def spLaw (K : PySem.W.Frag) : Sp := fun vs H Q _ => ∃ (a : Addr) (ns : List Int), vs = [.ref a] ∧ SqL K H a (ns.map V.int) ∧ ns.length ≤ 63 ∧ ∀ H', Q (.bl true) H'
theorem KindOk.gd {d : D} {W : Nat} (k : KindOk 3 d) (h : 3 ≤ W) : Gd W d := ⟨k.wd.wide h, Nat.le_trans k.dp (by decide), Nat.le_trans k.sz (by decide)⟩
theorem SigRow.gd {d : D} {W : Nat} (k : SigRow d) (h : 3 ≤ W) : Gd W d := by
  obtain ⟨x, kd, rfl, ox, ok⟩ := k
  have e1 : (D.tup [.str x, kd]).dp = 1 + max 1 (max kd.dp 0) := rfl
  have e2 : (D.tup [.str x, kd]).sz = 1 + (1 + (kd.sz + 0)) := rfl
  have h1 := ok.dp
  have h2 : kd.sz ≤ 256 := ok.sz
  exact ⟨⟨by show 2 ≤ W; omega, ox, ok.wd.wide h, trivial⟩, by omega, by omega⟩
theorem sig_gd {ds : List D} {W : Nat} (all : ∀ d ∈ ds, SigRow d) (l : ds.length ≤ 31) (h : 31 ≤ W) : Gd W (.tup ds) := by
  have e1 : (D.tup ds).dp = 1 + dps ds := rfl
  have e2 : (D.tup ds).sz = 1 + szs ds := rfl
  have a1 : dps ds ≤ 20 := dps_max fun d hd => by
    obtain ⟨x, kd, rfl, ox, ok⟩ := all d hd
    have e1 : (D.tup [.str x, kd]).dp = 1 + max 1 (max kd.dp 0) := rfl
    have h1 := ok.dp
    omega
  have a2 : szs ds ≤ ds.length * 300 := szs_max fun d hd => by
    obtain ⟨x, kd, rfl, ox, ok⟩ := all d hd
    have e2 : (D.tup [.str x, kd]).sz = 1 + (1 + (kd.sz + 0)) := rfl
    have h2 : kd.sz ≤ 256 := ok.sz
    omega
  exact ⟨⟨by omega, Wds.mem.mpr fun d hd => ((all d hd).gd (by omega)).wd⟩, by omega, by omega⟩

section
variable {P : Program} {w : World} {K : PySem.W.Frag} {mg : Str → Option Value} {base : Heap} {aR : Addr} {tL tF : Tok}
theorem ok_law {fa : Addr} {fd : FuncData} (F : Fun K "law" "law" s_law fa fd) (T : Txt K mg aR tL tF) (C_law_start : Cal P w K mg base "_law_start" ["script"] 111 (spStart K)) (C_law_kind : Cal P w K mg base "_law_kind" ["c", "high"] 111 (spKind 4)) (C_law_signature : Cal P w K mg base "_law_signature" ["c"] 111 spSigDraw)
    (C_is_type : Cal P w K mg base "is_type" ["value"] 111 spType) (C_is_signature : Cal P w K mg base "is_signature" ["value"] 111 spSig) (C_law_is_type : Cal P w K mg base "_law_is_type" ["value"] 111 (spLType 90)) (C_law_is_signature : Cal P w K mg base "_law_is_signature" ["value"] 111 spLSig)
    (C_law_spoilt : Cal P w K mg base "_law_spoilt" ["c", "value", "menu"] 111 spSpoilt) : FnOk P w K mg base CX0 112 fa fd ["script"] (spLaw K) := by
  refine F.ok sc_law (fun vs H Q E h => ?_) (fun cdv A outer s H vs Q E hr h => ?_)
  · obtain ⟨a, ns, rfl, _⟩ := h
    rfl
  obtain ⟨sa, ns, rfl, hS, hl, q⟩ := h
  refine ⟨_, (pss_cons (ps_set (i := 1) sc_law.nd rfl (Or.inl rfl) (pe_cal C_law_start hr rfl (pa_cons (pv 0) pa_nil)))
      (pss_cons (ps_set (i := 2) sc_law.nd rfl (Or.inl rfl) (pe_lst (pa_cons pe_str (pa_cons pe_str (pa_cons pe_str (pa_cons pe_str (pa_cons pe_str (pa_cons pe_str (pa_cons pe_str (pa_cons pe_str (pa_cons pe_str (pa_cons (pe_tup (pa_cons (pe_tup pa_nil) (pa_cons pe_str pa_nil))) (pa_cons (pe_tup (pa_cons (pe_tup (pa_cons (pe_tup pa_nil) (pa_cons pe_str pa_nil))) (pa_cons pe_str pa_nil))) (pa_cons pe_str pa_nil))))))))))))))
      (pss_cons (ps_for PassesOwn.never rfl (pi_range1 rfl T.z_range (pa_cons pe_int pa_nil)) (pg_name (i := 3) sc_law.nd rfl (.inl rfl)) (pss_cons (ps_set (i := 4) sc_law.nd rfl (Or.inl rfl) (pe_cal C_law_kind hr rfl (pa_cons (pv 1) (pa_cons pe_int pa_nil))))
      (pss_cons (ps_set (i := 5) sc_law.nd rfl (Or.inl rfl) (pe_op op_catA (pe_cal C_law_signature hr rfl (pa_cons (pv 1) pa_nil)) (pe_tup (pa_cons (pe_tup (pa_cons pe_str (pa_cons (pv 4) pa_nil))) pa_nil))))
      (pss_cons (ps_set (i := 6) sc_law.nd rfl (Or.inl rfl) (pe_ix ix_tup (pv 5) pe_int (fun _ _ => rfl)))
      (pss_one (ps_for PassesOwn.never rfl (pi_range1 rfl T.z_range (pa_cons pe_int pa_nil)) (pg_name (i := 7) sc_law.nd rfl (.inl rfl)) (pss_cons (ps_set (i := 8) sc_law.nd rfl (Or.inl rfl) (pe_cal C_is_type hr rfl (pa_cons (pv 4) pa_nil)))
      (pss_cons (ps_if (PW.pt (pw_or (pt_not (pt_val (pe_callB call_isi (by rfl) T.z_isinstance (by decide +kernel) (pa_cons (pv 8) (pa_cons (pe_bty (T := "bool") (by rfl) T.z_bool (by decide +kernel)) pa_nil))))) (pw_or1 (pt_cmpR op_ne (pv 8) (pe_cal C_law_is_type hr rfl (pa_cons (pv 4) pa_nil)) (nomark _))))) (pss_one (ps_ret pe_bl)) pss_nil)
      (pss_cons (ps_set (i := 8) sc_law.nd rfl (Or.inl rfl) (pe_cal C_is_signature hr rfl (pa_cons (pv 5) pa_nil)))
      (pss_cons (ps_if (PW.pt (pw_or (pt_not (pt_val (pe_callB call_isi (by rfl) T.z_isinstance (by decide +kernel) (pa_cons (pv 8) (pa_cons (pe_bty (T := "bool") (by rfl) T.z_bool (by decide +kernel)) pa_nil))))) (pw_or1 (pt_cmpR op_ne (pv 8) (pe_cal C_law_is_signature hr rfl (pa_cons (pv 5) pa_nil)) (nomark _))))) (pss_one (ps_ret pe_bl)) pss_nil)
      (pss_cons (ps_set (i := 4) sc_law.nd rfl (Or.inl rfl) (pe_cal C_law_spoilt hr rfl (pa_cons (pv 1) (pa_cons (pv 4) (pa_cons (pv 2) pa_nil)))))
      (pss_one (ps_set (i := 5) sc_law.nd rfl (Or.inl rfl) (pe_cal C_law_spoilt hr rfl (pa_cons (pv 1) (pa_cons (pv 5) (pa_cons (pe_op op_cat (pv 2) (pe_lst (pa_cons (pv 6) (pa_cons (pe_ix ix_tup (pv 6) pe_int (fun _ _ => rfl)) pa_nil)))) pa_nil)))))))))))))))))
      (pss_one (ps_ret (pe_and (pe_cmpR op_isBl (pe_cal C_is_signature hr rfl (pa_cons (pe_tup pa_nil) pa_nil)) pe_bl (nomark _)) (pe_one (pe_cmpR op_isBl (pe_cal C_is_type hr rfl (pa_cons (pe_tup pa_nil) pa_nil)) pe_bl (nomark _))))))))), ?_⟩
  walk_at "rd"
  refine ⟨sa, ns, rfl, hS, hl, fun c a H1 k1 nc cs1 => ?_⟩
  walk_at "rd"
  walk_at "tup"
  intro p1 H2 k2 t2 n2 e2 d2
  walk_at "rd"
  walk_at "tup"
  intro p2 H3 k3 t3 n3 e3 d3
  walk_at "rd"
  walk_at "tup"
  intro p3 H4 k4 t4 n4 e4 d4
  walk_at "rd"
  walk_at "tup"
  intro p4 H5 k5 t5 n5 e5 d5
  walk_at "rd"
  walk_at "tup"
  intro p5 H6 k6 t6 n6 e6 d6
  walk_at "rd"
  refine r_lstN (by simp) fun m H8 k8 t8 n8 e8 => ?_
  walk_at "rd"
  have good : ∀ d : D, wdB okB 3 d = true → d.dp ≤ 90 → d.sz ≤ 200000 → ∀ y, Dt H8 d y → Itm H8 31 y := fun d z1 z2 z3 y hy => ⟨d, hy, gd_of z1 z2 z3 (by decide)⟩
  have hms : ∀ y ∈ [V.str "abcdefgh", .str "abcdefghi", .str "con", .str "rule", .str "A", .str "a1", .str "true", .str "height", .str "z", .ref p2, .ref p5, .str "if"], Itm H8 31 y := by
    intro y hy
    simp only [List.mem_cons, List.not_mem_nil, or_false] at hy
    rcases hy with rfl | rfl | rfl | rfl | rfl | rfl | rfl | rfl | rfl | rfl | rfl | rfl
    · exact good (.str _) (by decide +kernel) (by decide) (by decide) _ rfl
    · exact good (.str _) (by decide +kernel) (by decide) (by decide) _ rfl
    · exact good (.str _) (by decide +kernel) (by decide) (by decide) _ rfl
    · exact good (.str _) (by decide +kernel) (by decide) (by decide) _ rfl
    · exact good (.str _) (by decide +kernel) (by decide) (by decide) _ rfl
    · exact good (.str _) (by decide +kernel) (by decide) (by decide) _ rfl
    · exact good (.str _) (by decide +kernel) (by decide) (by decide) _ rfl
    · exact good (.str _) (by decide +kernel) (by decide) (by decide) _ rfl
    · exact good (.str _) (by decide +kernel) (by decide) (by decide) _ rfl
    · exact good (.tup [.tup [], .str "zz"]) (by decide +kernel) (by decide +kernel) (by decide +kernel) _ (by walk_at "dt")
    · exact good (.tup [.tup [.tup [], .str "a"], .str "b"]) (by decide +kernel) (by decide +kernel) (by decide +kernel) _ (by walk_at "dt")
    · exact good (.str _) (by decide +kernel) (by decide) (by decide) _ rfl
  have lms : [V.str "abcdefgh", .str "abcdefghi", .str "con", .str "rule", .str "A", .str "a1", .str "true", .str "height", .str "z", .ref p2, .ref p5, .str "if"].length ≤ 20 := by simp
  have cs7 : CS a H6 c := cs1.keep (by walk_at "kp")
  have cs8 : CS a H8 c := cs7.keep k8
  have nmc : m ≠ c := (cs7.ne n8).1
  generalize [V.str "abcdefgh", .str "abcdefghi", .str "con", .str "rule", .str "A", .str "a1", .str "true", .str "height", .str "z", .ref p2, .ref p5, .str "if"] = ms at e8 hms lms
  clear good k1 k2 k3 k4 k5 k6 k8 t2 t3 t4 t5 t6 t8 n2 n3 n4 n5 n6 n8 e2 e3 e4 e5 e6 d2 d3 d4 d5 d6 cs1 cs7
  refine ⟨2, rfl, by decide, by decide, for_range (fun i σ H' => ∃ v3 v4 v5 v6 v7 v8, σ = [some (.ref sa), some (.ref c), some (.ref m), v3, v4, v5, v6, v7, v8] ∧ Kp [c] H8 H' ∧ CS a H' c) ⟨none, none, none, none, none, none, rfl, Kp.refl _ _, cs8⟩ ?_ ?_⟩
  · rintro i σ G hi ⟨v3, v4, v5, v6, v7, v8, rfl, kG, cG⟩
    walk_at "rd"
    refine ⟨c, a, 3, rfl, by decide, cG, fun u1 d1 G1 k1 c1 hd1 ok1 => ?_⟩
    walk_at "rd"
    refine ⟨c, a, rfl, c1, fun u2 ds G2 k2 c2 hd2 nds lds sg => ?_⟩
    have t2 := c1.t k2
    walk_at "rd"
    refine r_tupN (ds := [.str "q", d1]) (Dts.cons dt_str (Dts.cons (hd1.mono t2) Dts.nil)) (by simp) fun p1 G3 k3 t3 n3 e3 d3 => ?_
    walk_at "rd"
    refine r_tupN (ds := [.tup [.str "q", d1]]) (Dts.cons d3 Dts.nil) (by simp) fun p2 G4 k4 t4 n4 e4 d4 => ?_
    walk_at "rd"
    obtain ⟨p0, us, rfl, hp0, hus⟩ := hd2.tup
    have lus := hus.len
    refine r_catT (t4 p0 _ (t3 p0 _ hp0)) e4 ((hus.mono t3).mono t4) (Dts.cons (d3.mono t4) Dts.nil) (by simp; omega) fun u3 G5 k5 t5 d5 => ?_
    walk_at "rd"
    have sg5 : ∀ d ∈ ds ++ [.tup [.str "q", d1]], SigRow d := by
      intro d hd
      rcases List.mem_append.mp hd with hd | hd
      · exact sg d hd
      · rw [List.mem_singleton.mp hd]
        exact ⟨"q", d1, rfl, okB_ok _ (by decide +kernel), ok1⟩
    have g5 : Gd 31 (.tup (ds ++ [.tup [.str "q", d1]])) := sig_gd sg5 (by rw [List.length_append]; show _ + 1 ≤ 31; omega) (by decide)
    have gk : Gd 31 d1 := ok1.gd (by decide)
    have ne5 : ds ++ [.tup [.str "q", d1]] ≠ [] := by simp
    have hk5 : Dt G5 d1 u1 := (((hd1.mono t2).mono t3).mono t4).mono t5
    have c5 : CS a G5 c := c2.keep ((k3.trans k4).trans k5)
    have kk5 : Kp [c] H8 G5 := ((kG.trans k1).trans k2).trans ((k3.trans k4).trans k5).of0
    clear hd2 hd1 d3 d4 hus k1 k2 k3 k4 k5 t2 t3 t4 t5 e3 e4 hp0
    generalize ds ++ [.tup [.str "q", d1]] = sd at d5 sg5 g5 ne5
    obtain ⟨p6, ws, rfl, hp6, hws⟩ := d5.tup
    obtain ⟨f0, fs, rfl⟩ : ∃ f0 fs, sd = f0 :: fs := by
      cases sd with
      | nil => exact absurd rfl ne5
      | cons f0 fs => exact ⟨f0, fs, rfl⟩
    obtain ⟨x0, xr, rfl, hx0, _⟩ := hws
    obtain ⟨nm0, kd0, rfl, on0, ok0⟩ := sg5 f0 (by simp)
    refine r_ixT hp6 (at_of (z := 0) (j := 0) rfl rfl) ?_
    walk_at "rd"
    refine ⟨5, rfl, by decide, by decide, for_range (fun j σ H' => ∃ (uk us : V) (dk dg : D) (v7 v8 : Option V), σ = [some (.ref sa), some (.ref c), some (.ref m), some (.int (0 + (i : Nat))), some uk, some us, some x0, v7, v8] ∧ Kp [c] G5 H' ∧ CS a H' c ∧ Dt H' dk uk ∧ Gd (31 + j) dk ∧ Dt H' dg us ∧ Gd (31 + j) dg)
      ⟨u1, .ref p6, d1, _, v7, v8, rfl, Kp.refl _ _, c5, hk5, gk, d5, g5⟩ ?_ ?_⟩
    · rintro j σ K1 hj ⟨uk, us, dk, dg, v7', v8', rfl, kK, cK, hdk, gdk, hdg, gdg⟩
      walk_at "rd"
      refine ⟨uk, dk, 31 + j, rfl, hdk, gdk.wd, Nat.le_trans gdk.sz (by decide), fun K2 k2 => ?_⟩
      walk_at "rd"
      refine r_isB (d := .bl (typeD dk)) dt_bl ?_
      walk_at "rd"
      refine ⟨uk, dk, 31 + j, rfl, hdk.mono k2.t0, gdk.wd, by omega, gdk.dp, fun K3 k3 => ?_⟩
      walk_at "rd"
      refine if_f (by simp) ?_
      walk_at "rd"
      refine ⟨us, dg, 31 + j, rfl, (hdg.mono k2.t0).mono k3.t0, gdg.wd, by omega, Nat.le_trans gdg.sz (by decide), fun K4 k4 => ?_⟩
      walk_at "rd"
      refine r_isB (d := .bl (sigD dg)) dt_bl ?_
      walk_at "rd"
      have k24 : Kp [] K1 K4 := (k2.trans k3).trans k4
      refine ⟨us, dg, 31 + j, rfl, hdg.mono k24.t0, gdg.wd, by omega, gdg.dp, fun K5 k5 => ?_⟩
      walk_at "rd"
      refine if_f (by simp) ?_
      walk_at "rd"
      have k15 : Kp [] K1 K5 := k24.trans k5
      have c5' := cK.keep k15
      have kH : Kp [c] H8 K5 := (kk5.trans kK).trans k15.of0
      have tH : KeepT H8 K5 := cs8.t kH
      have m5 : K5 m = some (.lst ms) := kH m _ (by simpa using nmc) e8
      have hms5 : ∀ x ∈ ms, Itm K5 (31 + j) x := fun x hx => by
        obtain ⟨e, h1, h2⟩ := (hms x hx).mono tH
        exact ⟨e, h1, h2.wide (Nat.le_add_right _ _)⟩
      refine ⟨c, a, m, uk, dk, 31 + j, ms, rfl, c5', hdk.mono k15.t0, gdk, by omega, by omega, m5, nmc, by omega, hms5, fun u6 d6 K6 k6 c6 hd6 g6 => ?_⟩
      walk_at "rd"
      have t6 := c5'.t k6
      have m6 := k6 m _ (by simpa using nmc) m5
      have k16 : Kp [c] G5 K6 := (kK.trans k15.of0).trans k6
      have t16 : KeepT G5 K6 := c5.t k16
      have hx6 := hx0.mono t16
      obtain ⟨p7, zs, rfl, hp7, hzs⟩ := hx6.tup
      obtain ⟨y1, r1, rfl, hy1, y2, r2, rfl, hy2, rfl⟩ := hzs
      cases hy1.str
      refine r_ixT hp7 rfl ?_
      walk_at "rd"
      refine r_lstN (by simp) fun l7 K7 k7 t7 n7 e7 => ?_
      walk_at "rd"
      refine r_catN (k7.get m6) e7 (by simp; omega) fun m8 K8 k8 t8 n8 e8' => ?_
      walk_at "rd"
      have c7 := c6.keep k7
      have c8 := c7.keep k8
      have t68 : KeepT K6 K8 := t7.trans t8
      have all8 : ∀ x ∈ ms ++ [V.ref p7, .str nm0], Itm K8 (31 + j) x := by
        intro x hx
        rcases List.mem_append.mp hx with hx | hx
        · exact ((hms5 x hx).mono t6).mono t68
        · simp only [List.mem_cons, List.not_mem_nil, or_false] at hx
          rcases hx with rfl | rfl
          · exact ⟨_, hx6.mono t68, (sg5 _ (List.mem_cons_self)).gd (by omega)⟩
          · exact ⟨.str nm0, rfl, ⟨on0, (by decide : 1 ≤ 90), (by decide : 1 ≤ 200000)⟩⟩
      refine ⟨c, a, m8, us, dg, 31 + j, _, rfl, c8, ((hdg.mono k15.t0).mono t6).mono t68, gdg, by omega, by omega, e8', (c7.ne n8).1, ?_, all8, fun u9 d9 K9 k9 c9 hd9 g9 => ?_⟩
      · rw [List.length_append]
        show _ + 2 ≤ 100
        omega
      walk_at "rd"
      exact ⟨u6, u9, d6, d9, _, _, rfl, (k16.trans (k7.trans k8).of0).trans k9, c9, (hd6.mono t68).mono (c8.t k9), g6, hd9, g9⟩
    · rintro σ K1 ⟨uk, us, dk, dg, v7', v8', rfl, kK, cK, _⟩
      exact ⟨_, _, _, _, _, _, rfl, kk5.trans kK, cK⟩
  · rintro σ G ⟨v3, v4, v5, v6, v7, v8, rfl, kG, cG⟩
    walk_at "rd"
    refine r_tupN Dts.nil (by simp) fun p1 G1 k1 t1 n1 e1 d1 => ?_
    walk_at "rd"
    refine ⟨.ref p1, .tup [], 1, rfl, d1, ⟨Nat.zero_le _, trivial⟩, by decide, by decide, fun G2 k2 => ?_⟩
    walk_at "rd"
    refine ⟨_, true, rfl, rfl, ?_⟩
    walk_at "rd"
    refine r_tupN Dts.nil (by simp) fun p2 G3 k3 t3 n3 e3 d3 => ?_
    walk_at "rd"
    refine ⟨.ref p2, .tup [], 1, rfl, d3, ⟨Nat.zero_le _, trivial⟩, by decide, fun G4 k4 => ?_⟩
    walk_at "rd"
    refine ⟨_, false, rfl, rfl, ?_⟩
    walk_at "rd"
    exact q G4
end
end K01
end

/-! Law k01: the head. -/
namespace K01
open PySem L2 PyProof.Rows PySem.Spec Lc
theorem res_vals {ts : List Tok} (h : ts.length = reserved.length) : Vals (reserved.map V.str) (List.zipWith (fun x t => Value.str x t) reserved ts) := by
  have go : ∀ (xs : List Str) (ts : List Tok), ts.length = xs.length → Vals (xs.map V.str) (List.zipWith (fun x t => Value.str x t) xs ts) := by
    intro xs
    induction xs with
    | nil => intro ts _; cases ts <;> exact .nil
    | cons x r ih =>
      intro ts h
      cases ts with
      | nil => cases h
      | cons t ts => exact .cons ⟨t, rfl⟩ (ih ts (by simpa using h))
  exact go reserved ts h
theorem all_mk {l : PySem.W.OpenLaw} {w : World} {K : PySem.W.Frag} {h : Heap} {mg : Str → Option Value} {fa aR : Addr} (X : K.In h) (G : h.Ns mainGlobals mg) (hfa : mg "law" = some (.ref fa))
    {f1 f2 f3 f4 f5 f6 f7 f8 f9 f10 f11 f12 f13 f14 f15 f16 f17 f18 f19 : Addr} {od1 an1 od2 an2 od3 an3 od4 an4 od5 an5 od6 an6 od7 an7 od8 an8 od9 an9 od10 an10 od11 an11 od12 an12 od13 an13 od14 an14 od15 an15 od16 an16 od17 an17 od18 an18 od19 an19 odR : Option Addr} {sl1 sl2 sl3 sl4 sl5 sl6 sl7 sl8 sl9 sl10 sl11 sl12 sl13 sl14 sl15 sl16 sl17 sl18 sl19 slR : Array (Option Value)} {oc1 kV1 dc1 pm1 cd1 ct1 oc2 kV2 dc2 pm2 cd2 ct2 oc3 kV3 dc3 pm3 cd3 ct3 oc4 kV4 dc4 pm4 cd4 ct4 oc5 kV5 dc5 pm5 cd5 ct5 oc6 kV6 dc6 pm6 cd6 ct6 oc7 kV7 dc7 pm7 cd7 ct7 oc8 kV8 dc8 pm8 cd8 ct8 oc9 kV9 dc9 pm9 cd9 ct9 oc10 kV10 dc10 pm10 cd10 ct10 oc11 kV11 dc11 pm11 cd11 ct11 oc12 kV12 dc12 pm12 cd12 ct12 oc13 kV13 dc13 pm13 cd13 ct13 oc14 kV14 dc14 pm14 cd14 ct14 oc15 kV15 dc15 pm15 cd15 ct15 oc16 kV16 dc16 pm16 cd16 ct16 oc17 kV17 dc17 pm17 cd17 ct17 oc18 kV18 dc18 pm18 cd18 ct18 oc19 kV19 dc19 pm19 cd19 ct19 : Value} {nR : Nat} {t0 t1 t2 t3 t4 t5 t6 t7 t8 t9 t10 t11 t12 tL tF : Tok}
    (a1 : PySem.W.nsIn K mainGlobals "is_name" = some (some (.ref f1))) (l1 : K.lookup f1 = some ⟨oc1, od1, .func (PySem.W.fnOf "is_name" "is_name" (defArgs s_is_name) (defBody s_is_name) (defScope s_is_name) .none kV1 dc1 pm1 an1 cd1 ct1), sl1⟩) (c1 : PySem.W.codeIn K cd1 "is_name" = true) (k1 : PySem.W.keepIn K (.ref f1) = true)
    (a2 : PySem.W.nsIn K mainGlobals "is_pair" = some (some (.ref f2))) (l2 : K.lookup f2 = some ⟨oc2, od2, .func (PySem.W.fnOf "is_pair" "is_pair" (defArgs s_is_pair) (defBody s_is_pair) (defScope s_is_pair) .none kV2 dc2 pm2 an2 cd2 ct2), sl2⟩) (c2 : PySem.W.codeIn K cd2 "is_pair" = true) (k2 : PySem.W.keepIn K (.ref f2) = true)
    (a3 : PySem.W.nsIn K mainGlobals "has_type_form" = some (some (.ref f3))) (l3 : K.lookup f3 = some ⟨oc3, od3, .func (PySem.W.fnOf "has_type_form" "has_type_form" (defArgs s_has_type_form) (defBody s_has_type_form) (defScope s_has_type_form) .none kV3 dc3 pm3 an3 cd3 ct3), sl3⟩) (c3 : PySem.W.codeIn K cd3 "has_type_form" = true) (k3 : PySem.W.keepIn K (.ref f3) = true)
    (a4 : PySem.W.nsIn K mainGlobals "is_type" = some (some (.ref f4))) (l4 : K.lookup f4 = some ⟨oc4, od4, .func (PySem.W.fnOf "is_type" "is_type" (defArgs s_is_type) (defBody s_is_type) (defScope s_is_type) .none kV4 dc4 pm4 an4 cd4 ct4), sl4⟩) (c4 : PySem.W.codeIn K cd4 "is_type" = true) (k4 : PySem.W.keepIn K (.ref f4) = true)
    (a5 : PySem.W.nsIn K mainGlobals "is_signature" = some (some (.ref f5))) (l5 : K.lookup f5 = some ⟨oc5, od5, .func (PySem.W.fnOf "is_signature" "is_signature" (defArgs s_is_signature) (defBody s_is_signature) (defScope s_is_signature) .none kV5 dc5 pm5 an5 cd5 ct5), sl5⟩) (c5 : PySem.W.codeIn K cd5 "is_signature" = true) (k5 : PySem.W.keepIn K (.ref f5) = true)
    (a6 : PySem.W.nsIn K mainGlobals "_law_start" = some (some (.ref f6))) (l6 : K.lookup f6 = some ⟨oc6, od6, .func (PySem.W.fnOf "_law_start" "_law_start" (defArgs s_law_start) (defBody s_law_start) (defScope s_law_start) .none kV6 dc6 pm6 an6 cd6 ct6), sl6⟩) (c6 : PySem.W.codeIn K cd6 "_law_start" = true) (k6 : PySem.W.keepIn K (.ref f6) = true)
    (a7 : PySem.W.nsIn K mainGlobals "_law_fill" = some (some (.ref f7))) (l7 : K.lookup f7 = some ⟨oc7, od7, .func (PySem.W.fnOf "_law_fill" "_law_fill" (defArgs s_law_fill) (defBody s_law_fill) (defScope s_law_fill) .none kV7 dc7 pm7 an7 cd7 ct7), sl7⟩) (c7 : PySem.W.codeIn K cd7 "_law_fill" = true) (k7 : PySem.W.keepIn K (.ref f7) = true)
    (a8 : PySem.W.nsIn K mainGlobals "_law_take" = some (some (.ref f8))) (l8 : K.lookup f8 = some ⟨oc8, od8, .func (PySem.W.fnOf "_law_take" "_law_take" (defArgs s_law_take) (defBody s_law_take) (defScope s_law_take) .none kV8 dc8 pm8 an8 cd8 ct8), sl8⟩) (c8 : PySem.W.codeIn K cd8 "_law_take" = true) (k8 : PySem.W.keepIn K (.ref f8) = true)
    (a9 : PySem.W.nsIn K mainGlobals "_law_signature" = some (some (.ref f9))) (l9 : K.lookup f9 = some ⟨oc9, od9, .func (PySem.W.fnOf "_law_signature" "_law_signature" (defArgs s_law_signature) (defBody s_law_signature) (defScope s_law_signature) .none kV9 dc9 pm9 an9 cd9 ct9), sl9⟩) (c9 : PySem.W.codeIn K cd9 "_law_signature" = true) (k9 : PySem.W.keepIn K (.ref f9) = true)
    (a10 : PySem.W.nsIn K mainGlobals "_law_kind" = some (some (.ref f10))) (l10 : K.lookup f10 = some ⟨oc10, od10, .func (PySem.W.fnOf "_law_kind" "_law_kind" (defArgs s_law_kind) (defBody s_law_kind) (defScope s_law_kind) .none kV10 dc10 pm10 an10 cd10 ct10), sl10⟩) (c10 : PySem.W.codeIn K cd10 "_law_kind" = true) (k10 : PySem.W.keepIn K (.ref f10) = true)
    (a11 : PySem.W.nsIn K mainGlobals "_law_is_int" = some (some (.ref f11))) (l11 : K.lookup f11 = some ⟨oc11, od11, .func (PySem.W.fnOf "_law_is_int" "_law_is_int" (defArgs s_law_is_int) (defBody s_law_is_int) (defScope s_law_is_int) .none kV11 dc11 pm11 an11 cd11 ct11), sl11⟩) (c11 : PySem.W.codeIn K cd11 "_law_is_int" = true) (k11 : PySem.W.keepIn K (.ref f11) = true)
    (a12 : PySem.W.nsIn K mainGlobals "_law_is_name" = some (some (.ref f12))) (l12 : K.lookup f12 = some ⟨oc12, od12, .func (PySem.W.fnOf "_law_is_name" "_law_is_name" (defArgs s_law_is_name) (defBody s_law_is_name) (defScope s_law_is_name) .none kV12 dc12 pm12 an12 cd12 ct12), sl12⟩) (c12 : PySem.W.codeIn K cd12 "_law_is_name" = true) (k12 : PySem.W.keepIn K (.ref f12) = true)
    (a13 : PySem.W.nsIn K mainGlobals "_law_is_type" = some (some (.ref f13))) (l13 : K.lookup f13 = some ⟨oc13, od13, .func (PySem.W.fnOf "_law_is_type" "_law_is_type" (defArgs s_law_is_type) (defBody s_law_is_type) (defScope s_law_is_type) .none kV13 dc13 pm13 an13 cd13 ct13), sl13⟩) (c13 : PySem.W.codeIn K cd13 "_law_is_type" = true) (k13 : PySem.W.keepIn K (.ref f13) = true)
    (a14 : PySem.W.nsIn K mainGlobals "_law_is_signature" = some (some (.ref f14))) (l14 : K.lookup f14 = some ⟨oc14, od14, .func (PySem.W.fnOf "_law_is_signature" "_law_is_signature" (defArgs s_law_is_signature) (defBody s_law_is_signature) (defScope s_law_is_signature) .none kV14 dc14 pm14 an14 cd14 ct14), sl14⟩) (c14 : PySem.W.codeIn K cd14 "_law_is_signature" = true) (k14 : PySem.W.keepIn K (.ref f14) = true)
    (a15 : PySem.W.nsIn K mainGlobals "_law_nodes_of" = some (some (.ref f15))) (l15 : K.lookup f15 = some ⟨oc15, od15, .func (PySem.W.fnOf "_law_nodes_of" "_law_nodes_of" (defArgs s_law_nodes_of) (defBody s_law_nodes_of) (defScope s_law_nodes_of) .none kV15 dc15 pm15 an15 cd15 ct15), sl15⟩) (c15 : PySem.W.codeIn K cd15 "_law_nodes_of" = true) (k15 : PySem.W.keepIn K (.ref f15) = true)
    (a16 : PySem.W.nsIn K mainGlobals "_law_changed" = some (some (.ref f16))) (l16 : K.lookup f16 = some ⟨oc16, od16, .func (PySem.W.fnOf "_law_changed" "_law_changed" (defArgs s_law_changed) (defBody s_law_changed) (defScope s_law_changed) .none kV16 dc16 pm16 an16 cd16 ct16), sl16⟩) (c16 : PySem.W.codeIn K cd16 "_law_changed" = true) (k16 : PySem.W.keepIn K (.ref f16) = true)
    (a17 : PySem.W.nsIn K mainGlobals "_law_high" = some (some (.ref f17))) (l17 : K.lookup f17 = some ⟨oc17, od17, .func (PySem.W.fnOf "_law_high" "_law_high" (defArgs s_law_high) (defBody s_law_high) (defScope s_law_high) .none kV17 dc17 pm17 an17 cd17 ct17), sl17⟩) (c17 : PySem.W.codeIn K cd17 "_law_high" = true) (k17 : PySem.W.keepIn K (.ref f17) = true)
    (a18 : PySem.W.nsIn K mainGlobals "_law_spoilt" = some (some (.ref f18))) (l18 : K.lookup f18 = some ⟨oc18, od18, .func (PySem.W.fnOf "_law_spoilt" "_law_spoilt" (defArgs s_law_spoilt) (defBody s_law_spoilt) (defScope s_law_spoilt) .none kV18 dc18 pm18 an18 cd18 ct18), sl18⟩) (c18 : PySem.W.codeIn K cd18 "_law_spoilt" = true) (k18 : PySem.W.keepIn K (.ref f18) = true)
    (a19 : PySem.W.nsIn K mainGlobals "law" = some (some (.ref f19))) (l19 : K.lookup f19 = some ⟨oc19, od19, .func (PySem.W.fnOf "law" "law" (defArgs s_law) (defBody s_law) (defScope s_law) .none kV19 dc19 pm19 an19 cd19 ct19), sl19⟩) (c19 : PySem.W.codeIn K cd19 "law" = true) (k19 : PySem.W.keepIn K (.ref f19) = true)
    (aRes : PySem.W.nsIn K mainGlobals "RESERVED" = some (some (.ref aR))) (lRes : K.lookup aR = some ⟨.type "tuple", odR, .seq #[.str "con" t0, .str "rule" t1, .str "ask" t2, .str "if" t3, .str "true" t4, .str "some" t5, .str "all" t6, .str "given" t7, .str "same" t8, .str "match" t9, .str "steps" t10, .str "many" t11, .str "height" t12] nR, slR⟩)
    (aLet : PySem.W.nsIn K mainGlobals "LETTERS" = some (some (.str "abcdefghijklmnopqrstuvwxyz" tL))) (aFor : PySem.W.nsIn K mainGlobals "FORMULAS" = some (some (.str "o" tF)))
    (z_type : PySem.W.nsIn K mainGlobals "type" = some none) (z_str : PySem.W.nsIn K mainGlobals "str" = some none) (z_len : PySem.W.nsIn K mainGlobals "len" = some none) (z_all : PySem.W.nsIn K mainGlobals "all" = some none) (z_tuple : PySem.W.nsIn K mainGlobals "tuple" = some none) (z_list : PySem.W.nsIn K mainGlobals "list" = some none) (z_set : PySem.W.nsIn K mainGlobals "set" = some none) (z_int : PySem.W.nsIn K mainGlobals "int" = some none) (z_max : PySem.W.nsIn K mainGlobals "max" = some none) (z_range : PySem.W.nsIn K mainGlobals "range" = some none) (z_isinstance : PySem.W.nsIn K mainGlobals "isinstance" = some none) (z_bool : PySem.W.nsIn K mainGlobals "bool" = some none) :
    ∃ fd : FuncData, (∀ (s : Shared) (v : Value), BindsTo s fd ⟨[v], []⟩ [("script", v)]) ∧ ∀ base : Heap, K.In base → base.Ns mainGlobals mg → FnOk l.prog w K mg base CX0 112 fa fd ["script"] (spLaw K) := by
  have e := hfa.symm.trans (PySem.W.mg_of X G a19)
  cases e
  have D1 := df_mk (st := s_is_name) (ps := ["value"]) X G a1 l1 c1 k1 fun _ _ _ _ _ _ us hl => match us, hl with | [_], _ => rfl
  have D2 := df_mk (st := s_is_pair) (ps := ["value"]) X G a2 l2 c2 k2 fun _ _ _ _ _ _ us hl => match us, hl with | [_], _ => rfl
  have D3 := df_mk (st := s_has_type_form) (ps := ["value"]) X G a3 l3 c3 k3 fun _ _ _ _ _ _ us hl => match us, hl with | [_], _ => rfl
  have D4 := df_mk (st := s_is_type) (ps := ["value"]) X G a4 l4 c4 k4 fun _ _ _ _ _ _ us hl => match us, hl with | [_], _ => rfl
  have D5 := df_mk (st := s_is_signature) (ps := ["value"]) X G a5 l5 c5 k5 fun _ _ _ _ _ _ us hl => match us, hl with | [_], _ => rfl
  have D6 := df_mk (st := s_law_start) (ps := ["script"]) X G a6 l6 c6 k6 fun _ _ _ _ _ _ us hl => match us, hl with | [_], _ => rfl
  have D7 := df_mk (st := s_law_fill) (ps := ["c"]) X G a7 l7 c7 k7 fun _ _ _ _ _ _ us hl => match us, hl with | [_], _ => rfl
  have D8 := df_mk (st := s_law_take) (ps := ["c", "many"]) X G a8 l8 c8 k8 fun _ _ _ _ _ _ us hl => match us, hl with | [_, _], _ => rfl
  have D9 := df_mk (st := s_law_signature) (ps := ["c"]) X G a9 l9 c9 k9 fun _ _ _ _ _ _ us hl => match us, hl with | [_], _ => rfl
  have D10 := df_mk (st := s_law_kind) (ps := ["c", "high"]) X G a10 l10 c10 k10 fun _ _ _ _ _ _ us hl => match us, hl with | [_, _], _ => rfl
  have D11 := df_mk (st := s_law_is_int) (ps := ["value"]) X G a11 l11 c11 k11 fun _ _ _ _ _ _ us hl => match us, hl with | [_], _ => rfl
  have D12 := df_mk (st := s_law_is_name) (ps := ["value"]) X G a12 l12 c12 k12 fun _ _ _ _ _ _ us hl => match us, hl with | [_], _ => rfl
  have D13 := df_mk (st := s_law_is_type) (ps := ["value"]) X G a13 l13 c13 k13 fun _ _ _ _ _ _ us hl => match us, hl with | [_], _ => rfl
  have D14 := df_mk (st := s_law_is_signature) (ps := ["value"]) X G a14 l14 c14 k14 fun _ _ _ _ _ _ us hl => match us, hl with | [_], _ => rfl
  have D15 := df_mk (st := s_law_nodes_of) (ps := ["value", "found"]) X G a15 l15 c15 k15 fun _ _ _ _ _ _ us hl => match us, hl with | [_, _], _ => rfl
  have D16 := df_mk (st := s_law_changed) (ps := ["value", "box", "other"]) X G a16 l16 c16 k16 fun _ _ _ _ _ _ us hl => match us, hl with | [_, _, _], _ => rfl
  have D17 := df_mk (st := s_law_high) (ps := ["value"]) X G a17 l17 c17 k17 fun _ _ _ _ _ _ us hl => match us, hl with | [_], _ => rfl
  have D18 := df_mk (st := s_law_spoilt) (ps := ["c", "value", "menu"]) X G a18 l18 c18 k18 fun _ _ _ _ _ _ us hl => match us, hl with | [_, _, _], _ => rfl
  have T : Txt K mg aR tL tF := {
    RESERVED := PySem.W.mg_of X G aRes
    res := fun H => .inr ⟨_, _, _, lRes, rfl, rfl, (by show 13 ≤ sizeLine; decide), res_vals (ts := [t0, t1, t2, t3, t4, t5, t6, t7, t8, t9, t10, t11, t12]) rfl⟩
    LETTERS := PySem.W.mg_of X G aLet
    FORMULAS := PySem.W.mg_of X G aFor
    z_type := PySem.W.mg_none_of X G z_type
    z_str := PySem.W.mg_none_of X G z_str
    z_len := PySem.W.mg_none_of X G z_len
    z_all := PySem.W.mg_none_of X G z_all
    z_tuple := PySem.W.mg_none_of X G z_tuple
    z_list := PySem.W.mg_none_of X G z_list
    z_set := PySem.W.mg_none_of X G z_set
    z_int := PySem.W.mg_none_of X G z_int
    z_max := PySem.W.mg_none_of X G z_max
    z_range := PySem.W.mg_none_of X G z_range
    z_isinstance := PySem.W.mg_none_of X G z_isinstance
    z_bool := PySem.W.mg_none_of X G z_bool }
  refine ⟨PySem.W.fnOf "law" "law" (defArgs s_law) (defBody s_law) (defScope s_law) .none kV19 dc19 pm19 an19 cd19 ct19, fun s v => .of_eq rfl, fun base _ _ => ?_⟩
  have c_name := ok_is_name (P := l.prog) (w := w) (base := base) D1 T
  have c_pair := ok_is_pair (P := l.prog) (w := w) (base := base) D2 T
  have c_form := ok_form D3 T c_pair c_name
  have c_type := ok_is_type D4 T c_form
  have c_sig := ok_is_signature D5 T (c_pair.mono (by decide)) (c_name.mono (by decide)) c_type
  have c_start := ok_start (P := l.prog) (w := w) (base := base) D6 T
  have c_fill := ok_fill (P := l.prog) (w := w) (base := base) D7 T
  have c_take := ok_take D8 T c_fill
  have c_draw := ok_signature D9 T c_take T.z_str
  have c_kind : ∀ n, Cal l.prog w K mg base "_law_kind" ["c", "high"] (2 + n) (spKind n) := by
    intro n
    induction n with
    | zero =>
      refine Df.no D10 fun vs H Q E q => ?_
      obtain ⟨_, _, _, _, hn, _⟩ := q
      exact absurd hn (Nat.not_lt_zero _)
    | succ n ih => exact ok_kind0 D10 T (Nat.le_add_right 2 n) c_take ih
  have c_lint := ok_lint (P := l.prog) (w := w) (base := base) D11 T
  have c_lname := ok_lname (P := l.prog) (w := w) (base := base) D12 T
  have c_ltype : ∀ n, Cal l.prog w K mg base "_law_is_type" ["value"] (1 + n) (spLType n) := by
    intro n
    induction n with
    | zero =>
      refine Df.no D13 fun vs H Q E q => ?_
      obtain ⟨_, d, _, _, _, _, _, hn, _⟩ := q
      exact absurd hn (Nat.not_le_of_lt (dp_pos d))
    | succ n ih => exact ok_ltype D13 T (Nat.le_add_right 1 n) c_lname ih
  have c_lsig := ok_lsig D14 T (c_lname.mono (by decide)) ((c_ltype 90).mono (by decide))
  have c_nodes : ∀ n, Cal l.prog w K mg base "_law_nodes_of" ["value", "found"] n (spNodes n) := by
    intro n
    induction n with
    | zero =>
      refine Df.no D15 fun vs H Q E q => ?_
      obtain ⟨_, d, _, _, _, _, _, _, hn, _⟩ := q
      exact absurd hn (Nat.not_le_of_lt (dp_pos d))
    | succ n ih => exact ok_nodes D15 T ih
  have c_changed : ∀ n, Cal l.prog w K mg base "_law_changed" ["value", "box", "other"] n (spChanged n) := by
    intro n
    induction n with
    | zero =>
      refine Df.no D16 fun vs H Q E q => ?_
      obtain ⟨_, d, _, _, _, _, _, _, _, _, hn, _⟩ := q
      exact absurd hn (Nat.not_le_of_lt (dp_pos d))
    | succ n ih => exact ok_changed D16 T ih
  have c_high := ok_high (P := l.prog) (w := w) (base := base) D17 T
  have c_spoilt := ok_spoilt D18 T ((c_nodes 91).mono (by decide)) (c_take.mono (by decide)) (c_lint.mono (by decide)) ((c_changed 91).mono (by decide)) (c_high.mono (by decide))
  exact ok_law (fun_mk (st := s_law) l19 c19 k19) T (c_start.mono (by decide)) ((c_kind 4).mono (by decide)) (c_draw.mono (by decide)) (c_type.mono (by decide)) (c_sig.mono (by decide)) ((c_ltype 90).mono (by decide)) (c_lsig.mono (by decide)) c_spoilt
theorem walk {l : PySem.W.OpenLaw} {q : Program} {loose : List Str} {XP : (Str → Option Value) → Heap → Prop} {YP : World → Heap → Prop} {d : DefRec} {K : Params → PySem.W.Frag} (hn : l.most = some 63) (hdf : d.params.defaults = [])
    (hY : ∀ (w : World) (h : Heap), YP w h → (K w.params).In h)
    (F : ∀ (w : World) (mg : Str → Option Value) (fa : Addr) (h : Heap), (K w.params).In h → h.Ns mainGlobals mg → mg d.name = some (.ref fa) →
      ∃ fd : FuncData, (∀ (s : Shared) (u : Value), BindsTo s fd ⟨[u], []⟩ [("script", u)]) ∧ ∀ base : Heap, (K w.params).In base → base.Ns mainGlobals mg → FnOk l.prog w (K w.params) mg base CX0 112 fa fd ["script"] (spLaw (K w.params))) :
    PySem.W.WalkO q loose XP YP l.row.toRowW d [] (fun f vs => PySem.call f vs) :=
  L2.walk_of (n := 63) (k := 112) (x := "script") (CX := fun _ => CX0) (sp := fun w => spLaw (K w.params)) hn (by decide) hdf ⟨rfl, by decide, by decide⟩ hY F (fun _ _ a ns hl _ hS => ⟨a, ns, rfl, hS, hl, fun _ => rfl⟩) fun _ _ _ _ _ z => z
end K01
open PySem PySem.W PyProof.Rows
set_option maxRecDepth 100000 in
set_option maxHeartbeats 0 in
theorem PySem.Challenge.cw_lacuna_k01_types_and_signatures_holds : PySem.Challenge.rw_lacuna_k01_types_and_signatures.Holds := by
  w_on; o_law; k_head; (case hw => w_witness2)
  k_fill
  refine K01.walk (l := PySem.Challenge.rw_lacuna_k01_types_and_signatures) rfl rfl (fun w h Y => PySem.W.kIn_of Y) ?F
  case F =>
    intro w mg fa h KX G hmg
    refine' K01.all_mk KX G hmg ?a1 ?l1 ?c1 ?k1 ?a2 ?l2 ?c2 ?k2 ?a3 ?l3 ?c3 ?k3 ?a4 ?l4 ?c4 ?k4 ?a5 ?l5 ?c5 ?k5 ?a6 ?l6 ?c6 ?k6 ?a7 ?l7 ?c7 ?k7 ?a8 ?l8 ?c8 ?k8 ?a9 ?l9 ?c9 ?k9 ?a10 ?l10 ?c10 ?k10 ?a11 ?l11 ?c11 ?k11 ?a12 ?l12 ?c12 ?k12 ?a13 ?l13 ?c13 ?k13 ?a14 ?l14 ?c14 ?k14 ?a15 ?l15 ?c15 ?k15 ?a16 ?l16 ?c16 ?k16 ?a17 ?l17 ?c17 ?k17 ?a18 ?l18 ?c18 ?k18 ?a19 ?l19 ?c19 ?k19 ?aRes ?lRes ?aLet ?aFor ?z_type ?z_str ?z_len ?z_all ?z_tuple ?z_list ?z_set ?z_int ?z_max ?z_range ?z_isinstance ?z_bool
    (case a1 => k_is)
    (case l1 => k_is)
    (case c1 => k_is)
    (case k1 => k_is)
    (case a2 => k_is)
    (case l2 => k_is)
    (case c2 => k_is)
    (case k2 => k_is)
    (case a3 => k_is)
    (case l3 => k_is)
    (case c3 => k_is)
    (case k3 => k_is)
    (case a4 => k_is)
    (case l4 => k_is)
    (case c4 => k_is)
    (case k4 => k_is)
    (case a5 => k_is)
    (case l5 => k_is)
    (case c5 => k_is)
    (case k5 => k_is)
    (case a6 => k_is)
    (case l6 => k_is)
    (case c6 => k_is)
    (case k6 => k_is)
    (case a7 => k_is)
    (case l7 => k_is)
    (case c7 => k_is)
    (case k7 => k_is)
    (case a8 => k_is)
    (case l8 => k_is)
    (case c8 => k_is)
    (case k8 => k_is)
    (case a9 => k_is)
    (case l9 => k_is)
    (case c9 => k_is)
    (case k9 => k_is)
    (case a10 => k_is)
    (case l10 => k_is)
    (case c10 => k_is)
    (case k10 => k_is)
    (case a11 => k_is)
    (case l11 => k_is)
    (case c11 => k_is)
    (case k11 => k_is)
    (case a12 => k_is)
    (case l12 => k_is)
    (case c12 => k_is)
    (case k12 => k_is)
    (case a13 => k_is)
    (case l13 => k_is)
    (case c13 => k_is)
    (case k13 => k_is)
    (case a14 => k_is)
    (case l14 => k_is)
    (case c14 => k_is)
    (case k14 => k_is)
    (case a15 => k_is)
    (case l15 => k_is)
    (case c15 => k_is)
    (case k15 => k_is)
    (case a16 => k_is)
    (case l16 => k_is)
    (case c16 => k_is)
    (case k16 => k_is)
    (case a17 => k_is)
    (case l17 => k_is)
    (case c17 => k_is)
    (case k17 => k_is)
    (case a18 => k_is)
    (case l18 => k_is)
    (case c18 => k_is)
    (case k18 => k_is)
    (case a19 => k_is)
    (case l19 => k_is)
    (case c19 => k_is)
    (case k19 => k_is)
    (case aRes => k_is)
    (case lRes => k_is)
    (case aLet => k_is)
    (case aFor => k_is)
    (case z_type => k_is)
    (case z_str => k_is)
    (case z_len => k_is)
    (case z_all => k_is)
    (case z_tuple => k_is)
    (case z_list => k_is)
    (case z_set => k_is)
    (case z_int => k_is)
    (case z_max => k_is)
    (case z_range => k_is)
    (case z_isinstance => k_is)
    (case z_bool => k_is)
#print axioms PySem.Challenge.cw_lacuna_k01_types_and_signatures_holds
