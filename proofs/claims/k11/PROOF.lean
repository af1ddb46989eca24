import PyProof.Rows.All
import Wide.All
import OpenK.AllK
import Wide.FinOn
import HandS.ForMost
import HandS.IsInst
import HandS.Conv
import HandS.ClsMeth
import HandS.TupAny
import HandS.Walk
import HandS.RevRange
import KE.KExcSuper
import HandS.ForExc
import HandS.ExcInit
import HandS.ExcIs
import HandS.ExcField
import HandS.TryMany
import HandS.FStr
import HandS.ExcSuper
import KE.KExcIs
import KE.GoesEnum
import KE.GoesMore
import KE.DataMinMax
import HandS.SortKw
import HandS.OwnIter
import HandS.IterVal
import HandS.TryOnly
import HandS.SlotsOwn
import HandS.RaiseMore
import HandS.Style
import HandS.TupSets
import HandS.Deep
import HandS.Iter
import HandS.TupMul
import HandS.Text
import HandS.SortInts
import HandS.Zip
import HandS.Dict
import HandS.Small
import OpenK.KMeth
import HandS.Rev
import HandS.Star
import HandS.DictComp
import HandS.SetFor
import KE.DataFind
import HandS.WordsDict
import HandS.Ends
import HandS.Head0
import HandS.Head1
import HandS.Head2
import KE.OsRunLaw
import PySem.Challenge.RW_ladderreach_k11_whole_winners_and_plan
set_option Elab.async false
set_option maxRecDepth 100000
set_option linter.all false
set_option maxHeartbeats 4000000
namespace LR
open PySem PySem.Spec PyProof.Rows L2
/-! ## defs, methods, classes that keep a promise -/
structure Cal (P : Program) (w : World) (K : PySem.W.Frag) (mg : Str → Option Value) (base : Heap) (k : Nat) (x : Str) (sp : Sp) : Prop where
  ex : ∃ (f : Addr) (fd : FuncData) (ps : List Str), FnOk P w K mg base CX0 k f fd ps sp ∧ mg x = some (.ref f) ∧ PySem.W.keepIn K (.ref f) = true ∧ Binds K fd ps []
structure Met (P : Program) (w : World) (K : PySem.W.Frag) (mg : Str → Option Value) (base : Heap) (k : Nat) (C : Addr) (m : Str) (sp : Sp) : Prop where
  ex : ∃ (f : Addr) (fd : FuncData) (ps : List Str), Cls K C ∧ Meth K C m f ∧ FnOk P w K mg base CX0 k f fd ps sp ∧ Binds K fd ps []
structure Mak (P : Program) (w : World) (K : PySem.W.Frag) (mg : Str → Option Value) (base : Heap) (k : Nat) (x : Str) (C : Addr) (sp : Sp) : Prop where
  ex : ∃ (f : Addr) (fd : FuncData) (ps : List Str), Mk K C f ∧ FnOk P w K mg base CX0 k f fd ps sp ∧ mg x = some (.ref C) ∧ Binds K fd ps []
section
variable {X : Cx} {k j : Nat} {C : Addr} {x m : Str} {sp : Sp} {p pos apos : Pos} {e o : Expr} {es : List Expr} {ta : TE} {t : TA}
theorem pe_c (c : Cal X.prog X.w X.K X.mg X.base k x sp) (hr : Room j X.A) (hk : k ≤ j) (hg : Gl X x) (ha : PA X (e :: es) t)
    (hdb : (x == ("__debug__" : Str)) = false := by decide) (he : starEach (e :: es) X.env = (false, eval e X.env) :: starEach es X.env := by rfl) (hpl : (backTo pos (starEach es X.env)).any (·.1) = false := by rfl) :
    PE X (.Call (.Name x p) (e :: es) [] pos) (tCall sp [] E0 t) := by
  obtain ⟨f, fd, ps, F, hm, kp, b⟩ := c.ex
  exact pe_call F (hr.mono hk) hg hm kp b .nil pass0 ha hdb he hpl
end
structure DefIn (K : PySem.W.Frag) (mg : Str → Option Value) (x : Str) (st : Stmt) (ps : List Str) : Prop where
  ex : ∃ (f : Addr) (fd : FuncData), Fun K x x st f fd ∧ mg x = some (.ref f) ∧ Binds K fd ps []
structure MetIn (K : PySem.W.Frag) (C : Addr) (m qual : Str) (st : Stmt) (ps : List Str) : Prop where
  ex : ∃ (f : Addr) (fd : FuncData), Fun K m qual st f fd ∧ Meth K C m f ∧ Binds K fd ps []
structure MakIn (K : PySem.W.Frag) (mg : Str → Option Value) (x : Str) (C : Addr) (qual : Str) (st : Stmt) (ps : List Str) : Prop where
  ex : ∃ (f : Addr) (fd : FuncData), Fun K "__init__" qual st f fd ∧ Mk K C f ∧ mg x = some (.ref C) ∧ Binds K fd ps []
section
variable {P : Program} {w : World} {K : PySem.W.Frag} {mg : Str → Option Value} {base : Heap}
theorem DefIn.cal {x : Str} {st : Stmt} {N ps : List Str} {k : Nat} {sp : Sp} (D : DefIn K mg x st ps) (S : FnScope N ps (defScope st)) (len : ∀ vs H Q E, sp vs H Q E → vs.length = ps.length)
    (hbody : ∀ (f : Addr) (cdv : Value) (A : Around) (outer : List Env) (s : Shared) (H : Hp) (vs : List V) (Q : VK) (E : XK), Room k (A.deeper (envOfC x (defScope st) s.heap.objs.size f cdv)) → sp vs H Q E →
      ∃ t, PSs (cxOf CX0 P w K mg base N x (defScope st) f cdv A outer s H E).nox (defBody st) t ∧ t { nx := fun _ H' => Q .non H', rt := Q } (start N vs) H) : Cal P w K mg base (k + 1) x sp := by
  obtain ⟨f, fd, F, hm, b⟩ := D.ex
  exact ⟨f, fd, ps, F.ok S len (hbody f), hm, F.kp, b⟩
theorem MetIn.met {C : Addr} {m qual : Str} {st : Stmt} {N ps : List Str} {k : Nat} {sp : Sp} (c : Cls K C) (D : MetIn K C m qual st ps) (S : FnScope N ps (defScope st)) (len : ∀ vs H Q E, sp vs H Q E → vs.length = ps.length)
    (hbody : ∀ (f : Addr) (cdv : Value) (A : Around) (outer : List Env) (s : Shared) (H : Hp) (vs : List V) (Q : VK) (E : XK), Room k (A.deeper (envOfC qual (defScope st) s.heap.objs.size f cdv)) → sp vs H Q E →
      ∃ t, PSs (cxOf CX0 P w K mg base N qual (defScope st) f cdv A outer s H E).nox (defBody st) t ∧ t { nx := fun _ H' => Q .non H', rt := Q } (start N vs) H) : Met P w K mg base (k + 1) C m sp := by
  obtain ⟨f, fd, F, hm, b⟩ := D.ex
  exact ⟨f, fd, ps, c, hm, F.ok S len (hbody f), b⟩
theorem MakIn.mak {C : Addr} {x qual : Str} {st : Stmt} {N ps : List Str} {k : Nat} {sp : Sp} (D : MakIn K mg x C qual st ps) (S : FnScope N ps (defScope st)) (len : ∀ vs H Q E, sp vs H Q E → vs.length = ps.length)
    (hbody : ∀ (f : Addr) (cdv : Value) (A : Around) (outer : List Env) (s : Shared) (H : Hp) (vs : List V) (Q : VK) (E : XK), Room k (A.deeper (envOfC qual (defScope st) s.heap.objs.size f cdv)) → sp vs H Q E →
      ∃ t, PSs (cxOf CX0 P w K mg base N qual (defScope st) f cdv A outer s H E).nox (defBody st) t ∧ t { nx := fun _ H' => Q .non H', rt := Q } (start N vs) H) : Mak P w K mg base (k + 1) x C sp := by
  obtain ⟨f, fd, F, M, hm, b⟩ := D.ex
  exact ⟨f, fd, ps, M, F.ok S len (hbody f), hm, b⟩
end
theorem Cal.mono {P w K mg base j k x sp} (c : Cal P w K mg base j x sp) (h : j ≤ k) : Cal P w K mg base k x sp := by
  obtain ⟨f, fd, ps, F, r⟩ := c.ex
  exact ⟨f, fd, ps, F.mono h, r⟩
theorem Cal.imp {P w K mg base k x sp sp'} (c : Cal P w K mg base k x sp) (h : ∀ vs H Q E, sp' vs H Q E → sp vs H Q E) : Cal P w K mg base k x sp' := by
  obtain ⟨f, fd, ps, F, r⟩ := c.ex
  exact ⟨f, fd, ps, F.imp h, r⟩
/-! ## what the built-in names stand for -/
theorem b_len : bootBuiltins "len" = some (.builtin "len") := by decide +kernel
theorem b_abs : bootBuiltins "abs" = some (.builtin "abs") := by decide +kernel
theorem b_max : bootBuiltins "max" = some (.builtin "max") := by decide +kernel
theorem b_min : bootBuiltins "min" = some (.builtin "min") := by decide +kernel
theorem b_isinstance : bootBuiltins "isinstance" = some (.builtin "isinstance") := by decide +kernel
theorem b_int : bootBuiltins "int" = some (.type "int") := by decide +kernel
theorem b_bool : bootBuiltins "bool" = some (.type "bool") := by decide +kernel
theorem b_str : bootBuiltins "str" = some (.type "str") := by decide +kernel
theorem b_list : bootBuiltins "list" = some (.type "list") := by decide +kernel
theorem b_tuple : bootBuiltins "tuple" = some (.type "tuple") := by decide +kernel
/-! ## heaps -/
/-- all that was tracked stands, but for what is at p -/
def Keep (p : Addr) (H H' : Hp) : Prop := ∀ b, b ≠ p → ∀ o, H b = some o → H' b = some o
theorem Keep.refl {p H} : Keep p H H := fun _ _ _ h => h
theorem Keep.trans {p H H1 H2} (a : Keep p H H1) (b : Keep p H1 H2) : Keep p H H2 := fun c n o h => b c n o (a c n o h)
theorem Keep.upd {p H H' o} (a : Keep p H H') : Keep p H (upd H' p o) := fun c n u h => by rw [upd_ne n]; exact a c n u h
theorem Keep.new {p H H' q o} (a : Keep p H H') (h : H' q = none) : Keep p H (L2.upd H' q o) := fun c n u h1 => by
  rw [upd_ne (ne_of_none (a c n u h1) h)]; exact a c n u h1
theorem Keep.same {p H H' H2} (a : Keep p H H') (b : Same H' H2) : Keep p H H2 := fun c n o h => b c o (a c n o h)
theorem _root_.L2.Same.keep {p H H'} (a : Same H H') : Keep p H H' := fun c _ o h => a c o h
theorem same_new {H q o} (h : H q = none) : Same H (upd H q o) := fun c u h1 => by rw [upd_ne (ne_of_none h1 h)]; exact h1
theorem _root_.L2.Same.new {H H' q o} (a : Same H H') (h : H' q = none) : Same H (upd H' q o) := a.trans (same_new h)
theorem Keep.seq {p a : Addr} {K H H' xs} (k : Keep p H H') (h : SqL K H a xs) (n : a ≠ p) : SqL K H' a xs := by
  rcases h with (h | ⟨o, h⟩) | h
  · exact .inl (.inl (k _ n _ h))
  · exact .inl (.inr ⟨o, k _ n _ h⟩)
  · exact .inr h
theorem Keep.seqT {p a : Addr} {K H H' xs} (k : Keep p H H') (h : SqT K H a xs) (n : a ≠ p) : SqT K H' a xs := by
  rcases h with (h | ⟨o, h⟩) | h
  · exact .inl (.inl (k _ n _ h))
  · exact .inl (.inr ⟨o, k _ n _ h⟩)
  · exact .inr h
theorem _root_.L2.Same.seqT {K H H' a xs} (e : Same H H') (h : SqT K H a xs) : SqT K H' a xs := by
  rcases h with (h | ⟨o, h⟩) | h
  · exact .inl (.inl (e _ _ h))
  · exact .inl (.inr ⟨o, e _ _ h⟩)
  · exact .inr h
/-- a pool of the law: a list of four ints -/
def IsPool (H : Hp) (p : Addr) : Prop := ∃ a b c d : Int, H p = some (.lst [.int a, .int b, .int c, .int d])
theorem IsPool.ne {H p b o} (h : IsPool H p) (hb : H b = some o) (ho : ∀ l, o ≠ .lst l) : b ≠ p := by
  obtain ⟨_, _, _, _, h⟩ := h
  exact ne_of hb h (ho _)
theorem IsPool.same {H H' p} (s : Same H H') (h : IsPool H p) : IsPool H' p := by
  obtain ⟨a, b, c, d, h⟩ := h; exact ⟨a, b, c, d, s _ _ h⟩
theorem IsPool.upd {H p a b c d} : IsPool (upd H p (.lst [.int a, .int b, .int c, .int d])) p := ⟨a, b, c, d, upd_same⟩
theorem Keep.free {p q H H'} (k : Keep p H H') (n : q ≠ p) (h : H' q = none) : H q = none := by
  cases e : H q with
  | none => rfl
  | some o => rw [k q n o e] at h; cases h
theorem IsPool.some {H p} (h : IsPool H p) : ∃ l, H p = some (.lst l) := by
  obtain ⟨_, _, _, _, h⟩ := h; exact ⟨_, h⟩
theorem IsPool.free {H p q} (h : IsPool H p) (hq : H q = none) : q ≠ p := by
  obtain ⟨_, _, _, _, h⟩ := h
  exact (ne_of_none h hq).symm
def spLaw (K : PySem.W.Frag) : Sp := fun vs H Q _ => ∃ (a : Addr) (ns : List Int), vs = [.ref a] ∧ SqL K H a (ns.map V.int) ∧ ∀ H', Q (.bl true) H'
theorem seq_after {K : PySem.W.Frag} {H H' : Hp} {a p : Addr} {xs : List V} (h : SqL K H a xs) (hp : H p = none) (k : Keep p H H') : SqL K H' a xs := by
  rcases h with (h | ⟨o, h⟩) | h
  · exact .inl (.inl (k _ (ne_of_none h hp) _ h))
  · exact .inl (.inr ⟨o, k _ (ne_of_none h hp) _ h⟩)
  · exact .inr h
theorem ite_b {c : Bool} {A B : Prop} (h1 : c = true → A) (h2 : c = false → B) : if c = true then A else B := by
  cases c with
  | true => exact h1 rfl
  | false => exact iteF (h2 rfl)
end LR
set_option Elab.async false
set_option maxRecDepth 100000
set_option linter.all false
set_option maxHeartbeats 4000000
namespace LR
open PySem PySem.Spec PyProof.Rows L2
/-! ## data of the law, as they lie in the heap -/
inductive Dt where
  | non | bl (b : Bool) | int (i : Int) | str (x : Str) | lst (l : List Dt) | tup (l : List Dt)
mutual
inductive At (H : Hp) : V → Dt → Prop
  | non : At H .non .non
  | bl (b : Bool) : At H (.bl b) (.bl b)
  | int (i : Int) : At H (.int i) (.int i)
  | str (x : Str) : At H (.str x) (.str x)
  | lst {p : Addr} {xs : List V} {ds : List Dt} (h : H p = some (.lst xs)) (a : Ats H xs ds) (z : xs.length ≤ 100000) : At H (.ref p) (.lst ds)
  | tup {p : Addr} {xs : List V} {ds : List Dt} (h : H p = some (.tup xs)) (a : Ats H xs ds) (z : xs.length ≤ 100000) : At H (.ref p) (.tup ds)
inductive Ats (H : Hp) : List V → List Dt → Prop
  | nil : Ats H [] []
  | cons {x : V} {d : Dt} {xs : List V} {ds : List Dt} (h : At H x d) (t : Ats H xs ds) : Ats H (x :: xs) (d :: ds)
end
mutual
def dep : Dt → Nat
  | .lst l => deps l + 1
  | .tup l => deps l + 1
  | _ => 0
def deps : List Dt → Nat
  | [] => 0
  | d :: r => max (dep d) (deps r)
end
theorem deps_mem {d : Dt} : ∀ {l : List Dt}, d ∈ l → dep d ≤ deps l
  | e :: r, h => by
    rw [deps]
    rcases List.mem_cons.mp h with rfl | h
    · exact Nat.le_max_left _ _
    · exact Nat.le_trans (deps_mem h) (Nat.le_max_right _ _)
theorem Ats.length {H : Hp} {xs ds} (h : Ats H xs ds) : xs.length = ds.length := by
  revert ds; induction xs with
  | nil => intro ds h; cases h; rfl
  | cons x xs ih => intro ds h; cases h with | cons a t => rw [List.length_cons, List.length_cons, ih t]
theorem Ats.get {H : Hp} : ∀ {xs ds} (h : Ats H xs ds) {i : Nat} {x : V}, xs[i]? = some x → ∃ d, ds[i]? = some d ∧ At H x d := by
  intro xs; induction xs with
  | nil => intro ds h i x e; simp at e
  | cons y xs ih => 
    intro ds h i x e
    cases h with
    | cons a t =>
      cases i with
      | zero => exact ⟨_, rfl, by simp at e; subst e; exact a⟩
      | succ i => exact ih t (by simpa using e)
theorem Ats.getD {H : Hp} {xs ds} (h : Ats H xs ds) {i : Nat} {d : Dt} (e : ds[i]? = some d) : ∃ x, xs[i]? = some x ∧ At H x d := by
  have hl := h.length
  have hi : i < xs.length := by rw [hl]; exact (List.getElem?_eq_some_iff.mp e).1
  obtain ⟨d', e', a⟩ := h.get (List.getElem?_eq_getElem hi)
  rw [e] at e'; cases e'
  exact ⟨_, List.getElem?_eq_getElem hi, a⟩
theorem ats_ints (H : Hp) : ∀ l : List Int, Ats H (l.map V.int) (l.map Dt.int)
  | [] => .nil
  | i :: r => .cons (.int i) (ats_ints H r)
mutual
theorem At.same {H H' : Hp} (s : Same H H') : ∀ {x d}, At H x d → At H' x d
  | _, _, .non => .non
  | _, _, .bl b => .bl b
  | _, _, .int i => .int i
  | _, _, .str x => .str x
  | _, _, .lst h a z => .lst (s _ _ h) (a.same s) z
  | _, _, .tup h a z => .tup (s _ _ h) (a.same s) z
theorem Ats.same {H H' : Hp} (s : Same H H') : ∀ {xs ds}, Ats H xs ds → Ats H' xs ds
  | _, _, .nil => .nil
  | _, _, .cons h t => .cons (h.same s) (t.same s)
end
def ty : Dt → String
  | .non => "NoneType" | .bl _ => "bool" | .int _ => "int" | .str _ => "str" | .lst _ => "list" | .tup _ => "tuple"
def isL : Dt → Bool | .lst _ => true | _ => false
def isU : Dt → Bool | .tup _ => true | _ => false
def isB : Dt → Bool | .bl _ => true | _ => false
def isI : Dt → Bool | .int _ => true | .bl _ => true | _ => false
def isN : Dt → Bool | .int _ => true | _ => false
def isS : Dt → Bool | .str _ => true | _ => false
theorem At.tyX {K H x d} (h : At H x d) : TyX K H x (.type (ty d)) := by
  cases h with
  | non => exact .base .non
  | bl b => exact .base (.bl b)
  | int i => exact .base (.int i)
  | str x => exact .base (.str x)
  | lst h _ _ => exact .base (.lst h)
  | tup h _ _ => exact .base (.tup h)
theorem kitL (d : Dt) : kitB (ty d) "list" = some (isL d) := by
  cases d with
  | non => exact (by decide +kernel : kitB "NoneType" "list" = some false)
  | bl b => exact (by decide +kernel : kitB "bool" "list" = some false)
  | int i => exact (by decide +kernel : kitB "int" "list" = some false)
  | str x => exact (by decide +kernel : kitB "str" "list" = some false)
  | lst l => exact (by decide +kernel : kitB "list" "list" = some true)
  | tup l => exact (by decide +kernel : kitB "tuple" "list" = some false)
theorem kitU (d : Dt) : kitB (ty d) "tuple" = some (isU d) := by
  cases d with
  | non => exact (by decide +kernel : kitB "NoneType" "tuple" = some false)
  | bl b => exact (by decide +kernel : kitB "bool" "tuple" = some false)
  | int i => exact (by decide +kernel : kitB "int" "tuple" = some false)
  | str x => exact (by decide +kernel : kitB "str" "tuple" = some false)
  | lst l => exact (by decide +kernel : kitB "list" "tuple" = some false)
  | tup l => exact (by decide +kernel : kitB "tuple" "tuple" = some true)
theorem kitBo (d : Dt) : kitB (ty d) "bool" = some (isB d) := by
  cases d with
  | non => exact (by decide +kernel : kitB "NoneType" "bool" = some false)
  | bl b => exact (by decide +kernel : kitB "bool" "bool" = some true)
  | int i => exact (by decide +kernel : kitB "int" "bool" = some false)
  | str x => exact (by decide +kernel : kitB "str" "bool" = some false)
  | lst l => exact (by decide +kernel : kitB "list" "bool" = some false)
  | tup l => exact (by decide +kernel : kitB "tuple" "bool" = some false)
theorem kitI (d : Dt) : kitB (ty d) "int" = some (isI d) := by
  cases d with
  | non => exact (by decide +kernel : kitB "NoneType" "int" = some false)
  | bl b => exact (by decide +kernel : kitB "bool" "int" = some true)
  | int i => exact (by decide +kernel : kitB "int" "int" = some true)
  | str x => exact (by decide +kernel : kitB "str" "int" = some false)
  | lst l => exact (by decide +kernel : kitB "list" "int" = some false)
  | tup l => exact (by decide +kernel : kitB "tuple" "int" = some false)
theorem kitS (d : Dt) : kitB (ty d) "str" = some (isS d) := by
  cases d with
  | non => exact (by decide +kernel : kitB "NoneType" "str" = some false)
  | bl b => exact (by decide +kernel : kitB "bool" "str" = some false)
  | int i => exact (by decide +kernel : kitB "int" "str" = some false)
  | str x => exact (by decide +kernel : kitB "str" "str" = some true)
  | lst l => exact (by decide +kernel : kitB "list" "str" = some false)
  | tup l => exact (by decide +kernel : kitB "tuple" "str" = some false)
end LR
set_option Elab.async false
set_option maxRecDepth 100000
set_option linter.all false
set_option maxHeartbeats 4000000
namespace LR
open PySem PySem.Spec PyProof.Rows L2
/-! ## the mathematics of a ladder -/
def cnt (lv : Int) (l : List Int) : Int := ((l.filter (fun x => decide (lv ≤ x))).length : Int)
/-- levels of at least lv below step i -/
def cn (ls : List Int) (lv : Int) (i : Nat) : Int := cnt lv (ls.take i)
def cnL (ls : List Int) (lv : Int) (n : Nat) : List V := (List.range n).map fun i => V.int (cn ls lv i)
theorem cn_succ {ls : List Int} {lv : Int} {i : Nat} {z : Int} (h : ls[i]? = some z) : cn ls lv (i + 1) = cn ls lv i + (if lv ≤ z then 1 else 0) := by
  unfold cn cnt
  rw [List.take_succ, h, List.filter_append, List.length_append]
  simp only [Option.toList]
  by_cases c : lv ≤ z
  · simp [c]
  · simp [c]
def lfs (h : Int) (tl : Addr) (n : Int) (tc : Addr) : List (Str × V) := [("height", .int h), ("levels", .ref tl), ("top", .int n), ("_counts", .ref tc)]
/-- what lies in the heap of the tuple of counts -/
def Counts (H : Hp) (ls : List Int) (tc : Addr) (h : Int) : Prop := ∃ cs : List Addr, H tc = some (.tup (cs.map V.ref)) ∧ cs.length = (h + 1).toNat ∧ ∀ (j : Nat) (a : Addr), cs[j]? = some a → H a = some (.tup (cnL ls (j + 1) (ls.length + 1)))
/-- a ladder of height h and row ls stands at x -/
def LadderAt (C : Addr) (H : Hp) (x : Addr) (h : Int) (ls : List Int) : Prop := ∃ dx tl tc, H x = some (.ins C dx (lfs h tl ls.length tc)) ∧ H tl = some (.tup (ls.map V.int)) ∧ Counts H ls tc h
theorem LadderAt.same {C H H' x h ls} (s : Same H H') (a : LadderAt C H x h ls) : LadderAt C H' x h ls := by
  obtain ⟨dx, tl, tc, h1, h2, cs, h3, h4, h5⟩ := a
  exact ⟨dx, tl, tc, s _ _ h1, s _ _ h2, cs, s _ _ h3, h4, fun j a e => s _ _ (h5 j a e)⟩
theorem LadderAt.keep {C H H' x h ls p} (s : Keep p H H') (hp : ∃ l, H p = some (.lst l)) (a : LadderAt C H x h ls) : LadderAt C H' x h ls := by
  obtain ⟨l, hp⟩ := hp
  obtain ⟨dx, tl, tc, h1, h2, cs, h3, h4, h5⟩ := a
  have k : ∀ b o, H b = some o → (∀ l, o ≠ .lst l) → H' b = some o := fun b o e n => s _ (ne_of e hp (n _)) _ e
  exact ⟨dx, tl, tc, k _ _ h1 (fun l z => by cases z), k _ _ h2 (fun l z => by cases z), cs, k _ _ h3 (fun l z => by cases z), h4, fun j a e => k _ _ (h5 j a e) (fun l z => by cases z)⟩
/-- what the ladder answers: an edge of rank p from u to w -/
def alw (ls : List Int) (u p w : Int) : Bool := if p % 2 = 0 then decide (cn ls (p / 2 + 1) w.toNat ≤ cn ls (p / 2 + 1) u.toNat) else decide (cn ls (p / 2 + 1) w.toNat < cn ls (p / 2 + 1) u.toNat)
/-! ## the mathematics of allowed edges -/
theorem cn_le_succ (ls : List Int) (lv : Int) (i : Nat) : cn ls lv i ≤ cn ls lv (i + 1) := by
  cases h : ls[i]? with
  | none =>
    have hl : ls.length ≤ i := List.getElem?_eq_none_iff.mp h
    unfold cn
    rw [List.take_of_length_le hl, List.take_of_length_le (by omega)]
    exact Int.le_refl _
  | some z =>
    rw [cn_succ h]
    split <;> omega
theorem cn_mono (ls : List Int) (lv : Int) {i k : Nat} (h : i ≤ k) : cn ls lv i ≤ cn ls lv k := by
  induction h with
  | refl => exact Int.le_refl _
  | step _ ih => exact Int.le_trans ih (cn_le_succ _ _ _)
/-- equal counts: no level of at least lv between -/
theorem cn_eq (ls : List Int) (lv : Int) {i k : Nat} (h : i ≤ k) : cn ls lv k ≤ cn ls lv i ↔ ∀ (m : Nat) (z : Int), i ≤ m → m < k → ls[m]? = some z → z < lv := by
  induction h with
  | refl => exact ⟨fun _ m z a b => by omega, fun _ => Int.le_refl _⟩
  | @step k hk ih =>
    have m1 := cn_mono ls lv hk
    have m2 := cn_le_succ ls lv k
    show cn ls lv (k + 1) ≤ cn ls lv i ↔ ∀ (m : Nat) (z : Int), i ≤ m → m < k + 1 → ls[m]? = some z → z < lv
    constructor
    · intro c m z a b e
      by_cases q : m < k
      · exact ih.mp (by omega) m z a q e
      · have : m = k := by omega
        subst this
        have e2 := cn_succ (lv := lv) e
        by_cases q2 : lv ≤ z
        · rw [if_pos q2] at e2; omega
        · omega
    · intro c
      have c1 := ih.mpr fun m z a b e => c m z a (by omega) e
      cases e : ls[k]? with
      | none =>
        have hl : ls.length ≤ k := List.getElem?_eq_none_iff.mp e
        have : cn ls lv (k + 1) = cn ls lv k := by
          unfold cn
          rw [List.take_of_length_le hl, List.take_of_length_le (by omega)]
        omega
      | some z =>
        have e2 := cn_succ (lv := lv) e
        have := c k z hk (by omega) e
        rw [if_neg (by omega)] at e2
        omega
/-- what is allowed never leads above in a higher count -/
theorem alw_count {ls : List Int} {u p v lv : Int} (h : alw ls u p v = true) (hl : p / 2 + 1 ≤ lv) : cn ls lv v.toNat ≤ cn ls lv u.toNat := by
  by_cases c : v.toNat ≤ u.toNat
  · exact cn_mono _ _ c
  have c : u.toNat ≤ v.toNat := by omega
  unfold alw at h
  have hle : cn ls (p / 2 + 1) v.toNat ≤ cn ls (p / 2 + 1) u.toNat := by
    split at h
    · exact of_decide_eq_true h
    · have := of_decide_eq_true h; omega
  rw [cn_eq _ _ c] at hle ⊢
  intro m z a b e
  have := hle m z a b e
  omega
theorem alw_step {ls : List Int} {u p v : Int} : alw ls u p v = true ↔ (p % 2 = 0 → cn ls (p / 2 + 1) v.toNat ≤ cn ls (p / 2 + 1) u.toNat) ∧ (¬ p % 2 = 0 → cn ls (p / 2 + 1) v.toNat < cn ls (p / 2 + 1) u.toNat) := by
  unfold alw
  split
  · rename_i c; exact ⟨fun h => ⟨fun _ => of_decide_eq_true h, fun q => absurd c q⟩, fun h => decide_eq_true (h.1 c)⟩
  · rename_i c; exact ⟨fun h => ⟨fun q => absurd q c, fun _ => of_decide_eq_true h⟩, fun h => decide_eq_true (h.2 c)⟩
theorem alw_trans {ls : List Int} {u p v q w : Int} (h1 : alw ls u p v = true) (h2 : alw ls v q w = true) : alw ls u (max p q) w = true := by
  by_cases c : p ≤ q
  · rw [Int.max_eq_right c]
    have k := alw_count h1 (lv := q / 2 + 1) (by omega)
    rw [alw_step] at h2 ⊢
    exact ⟨fun e => Int.le_trans (h2.1 e) k, fun e => Int.lt_of_lt_of_le (h2.2 e) k⟩
  · rw [Int.max_eq_left (by omega)]
    have k := alw_count h2 (lv := p / 2 + 1) (by omega)
    rw [alw_step] at h1 ⊢
    exact ⟨fun e => Int.le_trans k (h1.1 e), fun e => Int.lt_of_le_of_lt k (h1.2 e)⟩
theorem alw_loop {ls : List Int} {u p : Int} (h : alw ls u p u = true) : p % 2 = 0 := by
  rw [alw_step] at h
  apply Classical.byContradiction
  intro c
  exact absurd (h.2 c) (Int.lt_irrefl _)
/-- g is the greatest level from place lo to hi, 0 if there is none -/
def IsGap (ls : List Int) (lo hi : Nat) (g : Int) : Prop := 0 ≤ g ∧ (∀ (m : Nat) (z : Int), lo ≤ m → m < hi → ls[m]? = some z → z ≤ g) ∧ (g = 0 ∨ ∃ m : Nat, lo ≤ m ∧ m < hi ∧ ls[m]? = some g)
theorem IsGap.le {ls : List Int} {lo hi : Nat} {g j : Int} (h : IsGap ls lo hi g) (hj : 0 ≤ j) : g ≤ j ↔ ∀ (m : Nat) (z : Int), lo ≤ m → m < hi → ls[m]? = some z → z < j + 1 := by
  constructor
  · intro c m z a b e
    have := h.2.1 m z a b e
    omega
  · intro c
    rcases h.2.2 with e | ⟨m, a, b, e⟩
    · omega
    · have := c m g a b e
      omega
/-- what the law says of an edge is what the ladder answers -/
theorem alw_gap {ls : List Int} {u p v g : Int} (hu : 0 ≤ u) (hv : 0 ≤ v) (hp : 0 ≤ p) (h : IsGap ls (min u.toNat v.toNat) (max u.toNat v.toNat) g) :
    alw ls u p v = if p % 2 = 0 then (decide (v ≤ u) || decide (2 * g ≤ p)) else (decide (v < u) && decide (p < 2 * g)) := by
  rw [Bool.eq_iff_iff, alw_step]
  by_cases c : v ≤ u
  · have e1 : min u.toNat v.toNat = v.toNat := by omega
    have e2 : max u.toNat v.toNat = u.toNat := by omega
    rw [e1, e2] at h
    have m1 := cn_mono ls (p / 2 + 1) (show v.toNat ≤ u.toNat by omega)
    have k := cn_eq ls (p / 2 + 1) (show v.toNat ≤ u.toNat by omega)
    rw [← h.le (by omega)] at k
    split
    · rename_i e
      simp only [decide_eq_true c, Bool.true_or]
      exact ⟨fun _ => trivial, fun _ => ⟨fun _ => m1, fun q => absurd e q⟩⟩
    · rename_i e
      rw [Bool.and_eq_true, decide_eq_true_eq, decide_eq_true_eq]
      constructor
      · intro q
        have q := q.2 e
        have hg : ¬ g ≤ p / 2 := fun z => by have := k.mpr z; omega
        refine ⟨?_, by omega⟩
        rcases Int.lt_or_eq_of_le c with z | z
        · exact z
        · subst z; omega
      · intro ⟨q1, q2⟩
        have hg : ¬ g ≤ p / 2 := by omega
        refine ⟨fun z => absurd z e, fun _ => ?_⟩
        have : ¬ cn ls (p / 2 + 1) u.toNat ≤ cn ls (p / 2 + 1) v.toNat := fun z => hg (k.mp z)
        omega
  · have e1 : min u.toNat v.toNat = u.toNat := by omega
    have e2 : max u.toNat v.toNat = v.toNat := by omega
    rw [e1, e2] at h
    have m1 := cn_mono ls (p / 2 + 1) (show u.toNat ≤ v.toNat by omega)
    have k := cn_eq ls (p / 2 + 1) (show u.toNat ≤ v.toNat by omega)
    rw [← h.le (by omega)] at k
    split
    · rename_i e
      simp only [decide_eq_false c, Bool.false_or, decide_eq_true_eq]
      exact ⟨fun q => by have := k.mp (q.1 e); omega, fun q => ⟨fun _ => k.mpr (by omega), fun z => absurd e z⟩⟩
    · rename_i e
      have c2 : ¬ v < u := by omega
      simp only [decide_eq_false c2, Bool.false_and]
      exact ⟨fun q => by have := q.2 e; omega, fun q => by cases q⟩
/-- places and ranks of a walk of allowed edges -/
def Path (ls : List Int) (h : Int) (pl rk : List Int) : Prop := pl.length = rk.length + 1 ∧ (∀ z ∈ pl, 0 ≤ z ∧ z ≤ ls.length) ∧ (∀ r ∈ rk, 0 ≤ r ∧ r ≤ 2 * h) ∧ ∀ (i : Nat) (u p v : Int), pl[i]? = some u → rk[i]? = some p → pl[i + 1]? = some v → alw ls u p v = true
theorem Path.add {ls : List Int} {h : Int} {pl rk : List Int} {u p v : Int} (a : Path ls h (pl ++ [u]) rk) (hp : 0 ≤ p ∧ p ≤ 2 * h) (hv : 0 ≤ v ∧ v ≤ ls.length) (e : alw ls u p v = true) : Path ls h (pl ++ [u] ++ [v]) (rk ++ [p]) := by
  obtain ⟨a1, a2, a3, a4⟩ := a
  have a1' : pl.length = rk.length := by simpa using a1
  refine ⟨by simp [a1'], fun z hz => ?_, fun r hr => ?_, fun i u' p' v' h1 h2 h3 => ?_⟩
  · rcases List.mem_append.mp hz with q | q
    · exact a2 z q
    · have : z = v := by simpa using q
      rw [this]; exact hv
  · rcases List.mem_append.mp hr with q | q
    · exact a3 r q
    · have : r = p := by simpa using q
      rw [this]; exact hp
  · have hi : i < rk.length + 1 := by
      have := (List.getElem?_eq_some_iff.mp h2).1
      simpa using this
    by_cases q : i < rk.length
    · rw [List.getElem?_append_left (by simp; omega)] at h1 h3
      rw [List.getElem?_append_left q] at h2
      exact a4 i u' p' v' h1 h2 h3
    · have : i = rk.length := by omega
      subst this
      rw [List.getElem?_append_left (by simp; omega), ← a1', List.getElem?_append_right (Nat.le_refl _)] at h1
      rw [List.getElem?_append_right (Nat.le_refl _)] at h2
      rw [List.getElem?_append_right (by simp; omega)] at h3
      simp [a1'] at h1 h2 h3
      rw [← h1, ← h2, ← h3]; exact e
end LR
set_option Elab.async false
set_option maxRecDepth 100000
set_option linter.all false
set_option maxHeartbeats 4000000
namespace LR
open PySem PySem.Spec PyProof.Rows L2
def oD : Option Int → Dt
  | none => .non
  | some k => .int k
/-- o is the least step from which rank p is allowed to w -/
def LeastIs (ls : List Int) (p w : Int) (o : Option Int) : Prop := (∀ k, o = some k → 0 ≤ k ∧ k ≤ ls.length) ∧ ∀ u : Int, 0 ≤ u → u ≤ ls.length → (alw ls u p w = true ↔ ∃ k, o = some k ∧ k ≤ u)
def GreatestIs (ls : List Int) (u p : Int) (o : Option Int) : Prop := (∀ k, o = some k → 0 ≤ k ∧ k ≤ ls.length) ∧ ∀ w : Int, 0 ≤ w → w ≤ ls.length → (alw ls u p w = true ↔ ∃ k, o = some k ∧ w ≤ k)
theorem LeastIs.one {ls p w o o'} (a : LeastIs ls p w o) (b : LeastIs ls p w o') : o = o' := by
  have key : ∀ {x y : Option Int}, LeastIs ls p w x → LeastIs ls p w y → ∀ k, x = some k → ∃ j, y = some j ∧ j ≤ k := fun a b k e => by
    obtain ⟨k0, k1⟩ := a.1 k e
    exact (b.2 k k0 k1).mp ((a.2 k k0 k1).mpr ⟨k, e, Int.le_refl _⟩)
  cases o with
  | none => cases o' with
    | none => rfl
    | some k => obtain ⟨j, e, _⟩ := key b a k rfl; cases e
  | some k => 
    obtain ⟨j, e, h⟩ := key a b k rfl
    subst e
    obtain ⟨i, e, h2⟩ := key b a j rfl
    cases e
    rw [Int.le_antisymm h h2]
theorem GreatestIs.one {ls u p o o'} (a : GreatestIs ls u p o) (b : GreatestIs ls u p o') : o = o' := by
  have key : ∀ {x y : Option Int}, GreatestIs ls u p x → GreatestIs ls u p y → ∀ k, x = some k → ∃ j, y = some j ∧ k ≤ j := fun a b k e => by
    obtain ⟨k0, k1⟩ := a.1 k e
    exact (b.2 k k0 k1).mp ((a.2 k k0 k1).mpr ⟨k, e, Int.le_refl _⟩)
  cases o with
  | none => cases o' with
    | none => rfl
    | some k => obtain ⟨j, e, _⟩ := key b a k rfl; cases e
  | some k =>
    obtain ⟨j, e, h⟩ := key a b k rfl
    subst e
    obtain ⟨i, e, h2⟩ := key b a j rfl
    cases e
    rw [Int.le_antisymm h h2]
theorem alw_down {ls : List Int} {u p w w' : Int} (h : alw ls u p w = true) (le : w' ≤ w) : alw ls u p w' = true := by
  have m := cn_mono ls (p / 2 + 1) (show w'.toNat ≤ w.toNat by omega)
  rw [alw_step] at h ⊢
  exact ⟨fun e => Int.le_trans m (h.1 e), fun e => Int.lt_of_le_of_lt m (h.2 e)⟩
end LR
set_option Elab.async false
set_option maxRecDepth 100000
set_option linter.all false
set_option maxHeartbeats 4000000
namespace LR
open PySem PySem.Spec PyProof.Rows L2
/-! ## defs that say super(): the cell __class__ stands in the written part -/
structure CScope (N P : List Str) (sc : Scope) : Prop where
  kind : sc.kind = .function
  co : sc.isCoroutine = false
  gen : sc.isGenerator = false
  nd : N.Nodup
  pre : N.take P.length = P
  par : ∀ x ∈ P, sc.names.lookup x = some .local
  nocell : ∀ y ∈ sc.names, y.2 ≠ .cell
  free : ∀ y ∈ sc.names, y.2 = .free → y.1 = "__class__"
def cxC (CX : CXT) (P : Program) (w : World) (K : PySem.W.Frag) (mg : Str → Option Value) (base : Heap) (N : List Str) (qual : Str) (scope : Scope) (f : Addr) (cd : Value) (cc : Addr) (A : Around) (outer : List Env) (s : Shared) (H : Hp) (E : XK) : Cx where
  prog := P
  w := w
  K := K
  mg := mg
  base := base
  A := A.deeper (PySem.W.ksEnv qual scope s.heap.objs.size f cd cc)
  N := N
  s_0 := s
  H_0 := H
  env := PySem.W.ksEnv qual scope s.heap.objs.size f cd cc
  outer := outer
  stack := PySem.W.ksEnv qual scope s.heap.objs.size f cd cc :: outer
  ex := []
  calm := true
  fn := fun _ => false
  pn := []
  xe := fun e s' => wpAny (model P w) (A.deeper (PySem.W.ksEnv qual scope s.heap.objs.size f cd cc)) (leaving (PySem.W.ksEnv qual scope s.heap.objs.size f cd cc) e) (fun _ s'' => CX outer H s E e s'') (fun e' s'' => CX outer H s E e' s'') s'
/-! ### statements at the def's own node -/
structure NE (X : Cx) (body : List Stmt) (e : Expr) (t : TE) : Prop where
  run : ∀ (pins : List (Addr × Obj)) (s : Shared) (σ : L2.St) (H : Hp) (Q : VK), Inv X pins σ H s → t σ H Q → PySem.wpAt (model X.prog X.w) X.A (.func body X.env) (eval e X.env) (EP X pins σ Q) X.xe s
structure NS (X : Cx) (body : List Stmt) (st : Stmt) (t : TS) : Prop where
  run : ∀ (pins : List (Addr × Obj)) (s : Shared) (σ : L2.St) (H : Hp) (D : Ends), Inv X pins σ H s → t D σ H → PySem.wpAt (model X.prog X.w) X.A (.func body X.env) (exec st X.env) (SP X pins D) X.xe s
structure NSs (X : Cx) (body : List Stmt) (st : List Stmt) (t : TS) : Prop where
  run : ∀ (pins : List (Addr × Obj)) (s : Shared) (σ : L2.St) (H : Hp) (D : Ends), Inv X pins σ H s → t D σ H → PySem.wpAt (model X.prog X.w) X.A (.func body X.env) (execs st X.env) (SP X pins D) X.xe s
section
variable {X : Cx} {body : List Stmt} {st : Stmt} {rest : List Stmt} {t u : TS} {e : Expr} {te : TE} {pos : Pos}
theorem nss_ps (h : PSs X rest t) : NSs X body rest t := ⟨fun pins s σ H D I q => wpAt_of_wpAny (h.run pins s σ H D I q)⟩
theorem ns_ps (h : PS X st t) : NS X body st t := ⟨fun pins s σ H D I q => wpAt_of_wpAny (h.run pins s σ H D I q)⟩
theorem nss_cons (h1 : NS X body st t) (h2 : NSs X body rest u) : NSs X body (st :: rest) (tSeq t u) := by
  refine ⟨fun pins s σ H D I h => ?_⟩
  refine PySem.ks_wpAt_execs_cons (PySem.ks_wpAt_mono (h1.run pins s σ H { D with nx := u D } I h) (fun f s1 q => ?_) fun _ _ z => z)
  cases f with
  | next =>
    obtain ⟨σ', H', I', q⟩ := q
    exact h2.run pins s1 σ' H' D I' q
  | ret v => exact q
  | brk => exact q
  | cont => exact q
theorem nss_nil : NSs X body [] tNext := nss_ps pss_nil
theorem nss_one (h : NS X body st t) : NSs X body [st] (tSeq t tNext) := nss_cons h nss_nil
theorem ns_expr (h : NE X body e te) (hi : interactive X.env = false := by rfl) (hs : swapsWith e none pos.line X.env = pure false := by rfl) : NS X body (.Expr e pos) (tDrop te) := by
  refine ⟨fun pins s σ H D I q => ?_⟩
  refine PySem.ks_wpAt_Expr_any (PySem.ks_wpAt_mono (h.run pins s σ H _ I q) (fun v s1 hh => ?_) fun _ _ z => z) hi hs
  obtain ⟨x, H1, I1, r1, q1⟩ := hh
  exact ⟨σ, H1, I1, q1⟩
theorem ns_ret (h : NE X body e te) : NS X body (.Return (some e) pos) (tRet te) := by
  refine ⟨fun pins s σ H D I q => ?_⟩
  refine PySem.ks_wpAt_Return_some (PySem.ks_wpAt_mono (h.run pins s σ H _ I q) (fun v s1 hh => ?_) fun _ _ z => z)
  obtain ⟨x, H1, I1, r1, q1⟩ := hh
  exact ⟨x, σ, H1, I1, r1, q1⟩
end
theorem lk_mem {l : List (Str × Value)} {y : Str} {u : Value} (nd : (l.map (·.1)).Nodup) (h : (y, u) ∈ l) : l.lookup y = some u := by
  induction l with
  | nil => cases h
  | cons p r ih =>
    obtain ⟨z, v⟩ := p
    have hz : ((z, v) :: r).map (·.1) = z :: r.map (·.1) := rfl
    rw [hz] at nd
    obtain ⟨n1, n2⟩ := List.nodup_cons.mp nd
    rcases List.mem_cons.mp h with q | q
    · cases q
      simp [List.lookup]
    · have ne : (y == z) = false := by
        simp only [beq_eq_false_iff_ne, ne_eq]
        intro e; subst e
        exact n1 (List.mem_map_of_mem (f := (·.1)) q)
      simp only [List.lookup, ne]
      exact ih n2 q
theorem nodup_rev {α : Type} : ∀ {l : List α}, l.Nodup → l.reverse.Nodup := fun {l} h => by
  unfold List.Nodup at h ⊢
  rw [List.pairwise_reverse]
  exact h.imp fun a b => a b.symm
theorem zip_lk {ps : List Str} {us : List Value} {i : Nat} {y : Str} {u : Value} (nd : ps.Nodup) (hl : us.length = ps.length) (h1 : ps[i]? = some y) (h2 : us[i]? = some u) : (ps.zip us).reverse.lookup y = some u := by
  refine lk_mem ?_ ?_
  · rw [List.map_reverse]
    refine nodup_rev ?_
    have : (ps.zip us).map (·.1) = ps := List.map_fst_zip (by omega)
    rw [this]; exact nd
  · rw [List.mem_reverse]
    refine List.mem_of_getElem? (i := i) ?_
    rw [List.getElem?_zip_eq_some]; exact ⟨h1, h2⟩
section
variable {CX : CXT} {P : Program} {w : World} {K : PySem.W.Frag} {mg : Str → Option Value} {base : Heap} {k : Nat} {f cc D : Addr} {name qual : Str} {params : Arguments} {body : List Stmt} {scope : Scope} {dV kV doc pm cdv ct oc cl : Value} {an od cld : Option Addr}
    {osl csl : Array (Option Value)} {N ps : List Str} {sp : Sp}
theorem fn_ofC (lk : K.lookup f = some ⟨oc, od, .func (PySem.W.ksFn name qual params body scope dV kV doc pm an cdv ct cc), osl⟩) (lc : K.lookup cc = some ⟨cl, cld, .cell (some (.ref D)), csl⟩) (hcd : PySem.W.codeIn K cdv qual = true) (S : CScope N ps scope)
    (len : ∀ vs H Q E, sp vs H Q E → vs.length = ps.length)
    (hbody : ∀ (A : Around) (outer : List Env) (s : Shared) (H : Hp) (vs : List V) (Q : VK) (E : XK), Room k (A.deeper (PySem.W.ksEnv qual scope s.heap.objs.size f cdv cc)) → sp vs H Q E →
      ∃ t, NSs (cxC CX P w K mg base N qual scope f cdv cc A outer s H E) body body t ∧ t { nx := fun _ H' => Q .non H', rt := Q } (L2.start N vs) H) :
    FnOk P w K mg base CX (k + 1) f (PySem.W.ksFn name qual params body scope dV kV doc pm an cdv ct cc) ps sp := by
  refine ⟨len, fun A outer s H args us vs Q E hr e0 hb r hsp => ?_⟩
  have hl := len _ _ _ _ hsp
  have hlu : us.length = ps.length := by rw [← hl]; exact r.length.symm
  have KX : K.In s.heap := e0.mod.kin.keeps fun b o e => (e0.bs b o e).1
  have lim : s.heap.NoLimit := e0.mod.nolimit.keeps fun b o e => (e0.bs b o e).1
  have hloc : ∀ y ∈ ps.zip us, scope.names.lookup y.1 = some .local := fun ⟨n, v⟩ hy => S.par n (List.of_mem_zip hy).1
  have ndP : ps.Nodup := by rw [← S.pre]; exact S.nd.sublist (List.take_sublist _ _)
  have hpl : ps.length ≤ N.length := by have := congrArg List.length S.pre; rw [List.length_take] at this; omega
  refine PySem.ks_codeAny_call_defAt (fd := PySem.W.ksFn name qual params body scope dV kV doc pm an cdv ct cc) (body := body) (binds := ps.zip us) hr.depth (KX _ _ lk) rfl lim (PySem.W.codeRec_of KX hcd) rfl hb S.nocell hloc (fun h₀ hns hk => ?_) S.co S.gen S.kind
  obtain ⟨t, ht, hq⟩ := hbody A outer s H vs Q E (hr.deeper _) hsp
  have noA : ∀ b : Addr, b ∉ (cxC CX P w K mg base N qual scope f cdv cc A outer s H E).ex := fun b z => absurd (show b ∈ ([] : List Addr) from z) (by simp)
  have hcells : ∀ (x : Str) (c : Addr), (cxC CX P w K mg base N qual scope f cdv cc A outer s H E).env.cells.lookup x = some c → x = "__class__" ∧ c = cc := fun x c h => by
    have h : List.lookup x [(("__class__" : Str), cc)] = some c := h
    simp only [List.lookup] at h
    split at h
    · rename_i e
      exact ⟨by simpa using e, (Option.some.inj h).symm⟩
    · cases h
  have hcc : base.get? cc = some ⟨cl, cld, .cell (some (.ref D)), csl⟩ := e0.mod.kin _ _ lc
  have I : Inv (cxC CX P w K mg base N qual scope f cdv cc A outer s H E) [] (start N vs) H { s with heap := h₀, toks := s.toks + (ps.zip us).length } := by
    refine ⟨⟨e0.mod, S.kind, rfl, rfl, Nat.le_refl _, fun y z c h1 h2 => ?_, fun y hy => ?_, fun y c hf _ => absurd hf (by show ¬ false = true; decide), fun _ => hr.hd, Around.frames_deeper e0.frames, .inr ⟨rfl, rfl⟩, fun b z => absurd z (noA b), e0.bs, e0.bsz, fun b _ _ => noA b, fun b z => absurd z (noA b), e0.funs, e0.frf⟩,
      rfl, e0.bare, Un.kept hk, ⟨_, hns, fun i y v h1 h2 h3 => ?_⟩, fun y c h => ?_, e0.hok.fresh (Nat.le_refl _), fun y c h => ?_, fun p hp => absurd (show p ∈ ([] : List (Addr × Obj)) from hp) (by simp), e0.hok.kept hk, ?_⟩
    · rw [(hcells _ _ h1).1, (hcells _ _ h2).1]
    · have hy : scope.names.lookup y = some .cell ∨ scope.names.lookup y = some .free := hy
      rcases hy with hy | hy
      · exact absurd rfl (S.nocell _ (PySem.mem_of_lookup hy))
      · have e := S.free _ (PySem.mem_of_lookup hy) rfl
        have e : y = "__class__" := e
        subst e
        exact ⟨cc, rfl⟩
    · have hi : i < vs.length := by
        unfold L2.start at h2
        by_cases hi : i < vs.length
        · exact hi
        · rw [List.getElem?_append_right (by simpa using hi)] at h2
          rw [List.getElem?_replicate] at h2
          split at h2 <;> cases h2
      have ha : vs[i]? = some v := by
        unfold L2.start at h2
        rw [List.getElem?_append_left (by simpa using hi), List.getElem?_map] at h2
        cases e : vs[i]? with
        | none => rw [e] at h2; cases h2
        | some a => rw [e] at h2; cases h2; rfl
      obtain ⟨u, hu, rv⟩ := r.get ha
      have hp : ps[i]? = some y := by
        rw [← S.pre, List.getElem?_take_of_lt (by omega)]; exact h1
      exact ⟨u, rv, .inl ⟨S.par y (List.mem_of_getElem? hp), zip_lk ndP hlu hp hu⟩⟩
    · rw [(hcells _ _ h).2]
      exact ⟨_, _, hk _ _ (KX _ _ lc), rfl⟩
    · rw [(hcells _ _ h).2]
      exact (e0.bs _ _ hcc).2
    · unfold L2.start
      show _ = N.length
      rw [List.length_append, List.length_map, List.length_replicate]
      omega
  refine PySem.ks_wpAt_mono (ht.run [] _ (start N vs) H _ I hq) (fun fl s' hs => ?_) fun e s' hs => hs
  have fin : ∀ {σ' : L2.St} {H' : Hp} {v : V} {u : Value}, Inv (cxC CX P w K mg base N qual scope f cdv cc A outer s H E) [] σ' H' s' → RelV v u → Q v H' → CE outer P w H s Q u s' :=
    fun {σ' H' v u} J rv q => ⟨v, H', J.os, J.bare, J.base, J.hok, rv, q⟩
  cases fl with
  | ret u =>
    obtain ⟨v, σ', H', J, rv, q⟩ := hs
    exact fin J rv q
  | next =>
    obtain ⟨σ', H', J, q⟩ := hs
    exact fin (v := V.non) (u := Value.none) J rfl q
  | brk =>
    obtain ⟨_, _, _, q⟩ := hs
    exact False.elim q
  | cont =>
    obtain ⟨_, _, _, q⟩ := hs
    exact False.elim q
end
end LR
set_option Elab.async false
set_option maxRecDepth 100000
set_option linter.all false
set_option maxHeartbeats 4000000
namespace LR
open PySem PySem.Spec PyProof.Rows L2
/-- what the written part says of a def with super(), standing at f, of the class at D -/
structure SupIn (prog : Program) (K : PySem.W.Frag) (mg : Str → Option Value) (f cc cda D : Addr) (fd : FuncData) (me : Str) : Prop where
  fn : ∃ oc od osl, K.lookup f = some ⟨oc, od, .func fd, osl⟩
  head : ∃ ar : Arg, (fd.params.posonlyargs ++ fd.params.args).head? = some ar ∧ ar.arg = me
  code : ∃ (ccl : Value) (cdd : Option Addr) (vs : Array Value) (ccs : Array (Option Value)) (file : Str) (tf : Tok), K.lookup cda = some ⟨ccl, cdd, .fields vs, ccs⟩ ∧ vs[2]? = some (.str file tf) ∧ ((prog.main.file : Str) == file) = true
  cell : ∃ cl cld csl, K.lookup cc = some ⟨cl, cld, .cell (some (.ref D)), csl⟩
  cls : ∃ cd, PySem.W.clsIn K D = some cd
  sup : mg "super" = none
  top : (prog.main.scope.names.lookup ("super" : Str)).isSome = false
  any : PySem.W.nsIn K cStatics "thirdparty.any" = some none
theorem b_super : bootBuiltins "super" = some (.type "super") := by first | decide +kernel | rfl | kernel_rfl
theorem pin_newA {X : Cx} {pins : List (Addr × Obj)} {σ : L2.St} {H : Hp} {s : Shared} {o : Obj} {h' : Heap} {a : Addr} {t' : Nat} (I : Inv X pins σ H s) (k : ∀ b u, s.heap.get? b = some u → h'.get? b = some u) (ha : s.heap.objs.size ≤ a) (ho : h'.get? a = some o) (hc : ∀ v, o.data ≠ .cell v) :
    Inv X ((a, o) :: pins) σ H { s with heap := h', toks := t' } := ClX.pin_new I k ha ho hc
section
variable {X : Cx} {pins : List (Addr × Obj)} {σ : L2.St} {H : Hp} {s : Shared} {body : List Stmt} {f cc cda D C x : Addr} {fd : FuncData} {self attr : Str} {p0 p1 : Pos} {whole : Sem Value} {Q : Value → Shared → Prop} {i : Nat}
theorem super_base (S : SupIn X.prog X.K X.mg f cc cda D fd self) (I : Inv X pins σ H s) {ox : Obj} (hx : s.heap.get? x = some ox) (hxc : ox.cls = .ref C) (hnc : ∀ c, ox.data ≠ .cls c) (hsub : PySem.W.mroIn X.K C (.ref D) = some true)
    (hi : X.N[i]? = some self) (hσ : σ[i]? = some (some (.ref x))) (hka : X.env.kindOf self = some .local)
    (hks : X.env.kindOf "super" = some .globalImplicit) (hkc : X.env.kindOf "__class__" = some .free) (hfu : X.env.func = some f) (hco : X.env.code = .ref cda) (hcl : X.env.cells.lookup ("__class__" : Str) = some cc)
    (hat : (attr == ("__class__" : Str)) = false)
    (h : ∀ (so : Addr) (h' : Heap), h'.get? so = some (PySem.W.ks_superObj D x C) → Inv X ((so, PySem.W.ks_superObj D x C) :: pins) σ H { s with heap := h' } → (∀ b u, s.heap.get? b = some u → h'.get? b = some u) → Q (.ref so) { s with heap := h' }) {E : Value → Shared → Prop} :
    PySem.wpAt (model X.prog X.w) X.A (.func body X.env) (attributeBase (.Call (.Name "super" p0) [] [] p1) attr X.env whole) Q E s := by
  obtain ⟨oc, od, osl, hf⟩ := S.fn
  obtain ⟨ar, hp, har⟩ := S.head
  obtain ⟨ccl, cdd, vs, ccs, file, tf, hcode, hvs, hfile⟩ := S.code
  obtain ⟨cl, cld, csl, hcell⟩ := S.cell
  obtain ⟨cdD, hD⟩ := S.cls
  have KX := I.kIn
  obtain ⟨oD, hD1, hD2⟩ : ∃ oD, s.heap.get? D = some oD ∧ oD.data = .cls cdD := by
    unfold PySem.W.clsIn at hD
    split at hD
    · rename_i c d cd' sl ho
      cases hD
      exact ⟨_, KX _ _ ho, rfl⟩
    · cases hD
  subst har
  have kind := I.ok.kind
  obtain ⟨mb, hb1, hb2⟩ := I.mod.blt
  refine PySem.ks_wpAt_super_base (env := X.env) hks hkc hat hfu (KX _ _ hf) rfl hp hco (KX _ _ hcode) rfl hvs hfile S.top ?_
  refine PySem.W.ks_loadName_global kind hks (Calls.loadGlobal_builtin (by rw [I.ok.glob]; exact I.mod.glob.keeps I.bk) S.sup (by rw [I.ok.blt]; exact hb1.keeps I.bk) ((hb2 _ (by decide)).trans b_super) ⟨rfl, ?_⟩)
  refine wpAny_loadName_free kind hkc hcl ⟨_, KX _ _ hcell, rfl⟩ ?_
  obtain ⟨m, hns, hloc⟩ := id I.loc
  obtain ⟨u, ru, hlook⟩ := hloc i _ _ hi hσ (.inl hka)
  obtain rfl : u = Value.ref x := ru
  rcases hlook with ⟨_, hm⟩ | ⟨hk, _⟩
  · refine wpAny_loadName_local kind hka hns hm ?_
    obtain ⟨hh, g, d, t, os⟩ := s
    refine PySem.ks_wpAny_isType_cls hD1 hD2 ⟨rfl, ?_⟩
    refine PySem.ks_wpAny_call_super hD1 hD2 hx hxc hnc (PySem.W.looks_mroIn KX hsub) (fun h' e k => ?_)
    exact h _ h' e (pin_newA (t' := t) I k (Nat.le_refl _) e (fun v z => by cases z)) k
  · rw [hka] at hk
    rcases hk with hk | hk <;> cases hk
end
/-! ### super().__init__(..) where the built-in's __init__ is meant -/
section
open PySem.W
variable {prog : Program} {w : World} {A : Around} {E : Value → Shared → Prop} {h : Heap} {g : Array GenState} {d : Drawn} {t : Nat} {os : OsState}
variable {nm q : Str} {C N : Addr} {bs bm : List Value} {hdct : Bool} {sn : List Str} {sub : List Value} {ab : Bool} {col : Option Bool} {dd : Option Addr} {k0 k1 k2 k3 k5 : Option Value}
theorem call_mwVE {u e t0 : Addr} {rest : List Value} {Q : Value → Shared → Prop}
    (hC : h.get? C = some (excClassObj nm q C N bs bm hdct sn sub ab col dd k0 k1 k2 k3 k5 "ValueError.__new__")) (he : h.get? e = some (HandSPX.excO C t0)) (hu : h.get? u = some (kxs_mw "ValueError.__init__" e)) (hrest : rest.length ≤ sizeLine)
    (hq : ∀ h' t1, (∀ b o, b ≠ e → h.get? b = some o → h'.get? b = some o) → h'.get? e = some (HandSPX.excO C t1) → Q .none ⟨h', g, d, t, os⟩) :
    wpAny (model prog w) A (call (.ref u) rest) Q E ⟨h, g, d, t, os⟩ := by
  refine wpAny_call (codeAny_of_tree ?_)
  show wpAny _ A.in1 (callAny (.ref u) ⟨rest, []⟩) _ _ _
  simp only [callAny]
  refine wpAny_bind (wpAny_load hu ?_)
  simp only [kxs_mw, show (Value.type "method-wrapper" == Value.type "method" || Value.type "method-wrapper" == Value.type "builtin_function_or_method" || Value.type "method-wrapper" == Value.type "method-wrapper") = true by decide, if_true]
  refine KFB.if_so (by decide) ?_
  refine wpAny_bind (ESX.check_bound F.excBase_ValueError hC he rfl ?_)
  refine wpAny_bind (wpAny_pure (wpAny_pure ?_))
  refine ⟨Code.quiet_builtin _ (by decide +kernel), codeAny_builtin F.excBase_ValueError.initEntry ?_⟩
  rw [Around.under_plainId F.excBase_ValueError.init.plain _]
  wp_walk
  refine hq _ h.objs.size (fun b o hb ho => ?_) ?_
  · rw [Heap.get?_update_other _ _ (Ne.symm hb)]
    exact Heap.get?_push_of_some _ ho
  · rw [Heap.get?_update_self _ (Heap.get?_push_of_some _ he) rfl]
    rfl
end
section
variable {X : Cx} {body : List Stmt} {f cc cda D C : Addr} {fd : FuncData} {me m : Str} {p0 p1 pos apos : Pos} {i : Nat} {e : Expr} {es : List Expr} {ta : TA} {pl : Sem Bool}
/-- super().__init__(e, ..) in an exception's own __init__: nothing of it is told -/
def tSupV (C : Addr) (i : Nat) (ta : TA) : TE := fun σ H Q => ∃ x : Addr, σ[i]? = some (some (.ref x)) ∧ H x = some (exo x C none) ∧ ta σ H fun vs H1 => vs.length ≤ 1000 ∧ H1 x = some (exo x C none) ∧ Q .non H1
theorem ne_supV (S : SupIn X.prog X.K X.mg f cc cda C fd me) (T : OexC X.K C) (hm : PySem.W.ks_superIn X.K C C "__init__" = some (some (.builtin "ValueError.__init__"))) (hsub : PySem.W.mroIn X.K C (.ref C) = some true) (hB : PySem.W.subIn X.K (.ref C) (.type "ValueError") = some true)
    (ha : PA X (e :: es) ta)
    (hi : X.N[i]? = some me := by rfl) (hka : X.env.kindOf me = some .local := by rfl)
    (hks : X.env.kindOf "super" = some .globalImplicit := by rfl) (hkc : X.env.kindOf "__class__" = some .free := by rfl) (hfu : X.env.func = some f := by rfl) (hco : X.env.code = .ref cda := by rfl) (hcl : X.env.cells.lookup ("__class__" : Str) = some cc := by rfl)
    (hst : starEach (e :: es) X.env = (false, eval e X.env) :: starEach es X.env := by rfl) (hpl : (backTo pos (starEach es X.env)).any (·.1) = false := by rfl)
    (ht : eval (.Call (.Attribute (.Call (.Name "super" p0) [] [] p1) "__init__" apos) (e :: es) [] pos) X.env = (do
      let ov ← attributeBase (.Call (.Name "super" p0) [] [] p1) "__init__" X.env (eval (.Call (.Name "super" p0) [] [] p1) X.env)
      standAt apos.atName
      let (f, first) ← holding [ov] (getMethod ov "__init__" pl)
      callWith pos f first (backTo pos (starEach (e :: es) X.env)) []) := by rfl) :
    NE X body (.Call (.Attribute (.Call (.Name "super" p0) [] [] p1) "__init__" apos) (e :: es) [] pos) (tSupV C i ta) := by
  refine ⟨fun pins s σ H Q I h => ?_⟩
  obtain ⟨x, hσ, hx, q⟩ := h
  obtain ⟨t1, hox⟩ := exo_at I.hok hx
  refine PySem.ks_wpAt_MethodCall (pl := pl) (super_base S I hox rfl (fun c z => by cases z) hsub hi hσ hka hks hkc hfu hco hcl (by decide) (fun so h' hso J k => ?_)) ht
  have KX := J.kIn
  have hox' := k _ _ hox
  have IA : PySem.W.InstAt h' x { cls := .ref C, dict := none, data := .fields #[.ref t1, .none, .none, .none, .bool false, .none] } C none := ⟨hox', rfl, rfl, trivial⟩
  cases hc : PySem.W.clsIn X.K C with
  | none => unfold PySem.W.ks_superIn at hm; rw [hc] at hm; cases hm
  | some cd =>
    unfold PySem.W.ks_superIn at hm
    rw [hc] at hm
    obtain ⟨hh, g, d, t, os⟩ := s
    refine PySem.W.kxs_getMethod PySem.W.kxs_ValueError hso (PySem.W.looks_opaque KX S.any) (l₀ := cd.mro) (fun A Q E s k q => wpAny_bind ((PySem.W.looks_clsIn KX hc) A _ E s k (wpAny_pure q))) rfl KX hm (IA.type.andThen (PySem.W.looks_subIn KX hB)) (PySem.W.ks_ne KX IA hc) (by decide) ?_
    have J2 := pin_newA (t' := t + 1) J (fun b u z => Heap.get?_push_of_some (PySem.W.kxs_mw "ValueError.__init__" x) z) (Nat.le_refl _) (Heap.get?_push_at rfl rfl) (fun v z => by cases z)
    rw [hst]
    refine PySem.W.kxs_callWith (i := "ValueError.__init__") (x := x) (by show (false || (backTo pos (starEach es X.env)).any (·.1)) = false; rw [hpl]; rfl) ?_
    have ha' := fun pins s H Q I q => ha.run pos pins s σ H Q I q
    rw [hst] at ha'
    refine PySem.Calls.evalArgs_plain (thn (ha' _ _ H _ J2 q) fun us s3 ⟨vs, H1, I3, rv, hl, hx1, q1⟩ => ⟨ClX.pin_at I3, ?_⟩)
    have I4 := ClX.unpin (ClX.unpin I3)
    obtain ⟨t2, hox2⟩ := exo_at I4.hok hx1
    obtain ⟨nm, qn, N, bs, bm, sn, sub, ab, col, dd, k0, k1, k2, k3, k5, hC, hbm⟩ := T.cls
    have hmw := ClX.pin_at I3
    obtain ⟨hp, g3, d3, t3, os3⟩ := s3
    refine call_mwVE (I4.kIn _ _ hC) hox2 hmw ?_ (fun h5 t5 k5 hx5 => ?_)
    · have := rv.length
      show us.length ≤ sizeLine
      rw [← this, sizeLine_eq]; omega
    · have J5 := I4.write (t' := t3) (x := x) (e := x) (o := exo x C none) (by rw [hx1]; exact True.intro) (.inl rfl) k5 ⟨_, hx5⟩ (exo_ok hx5)
      have eu : upd H1 x (exo x C none) = H1 := by
        funext b
        by_cases hb : b = x
        · rw [hb, upd_same, hx1]
        · rw [upd_ne hb]
      rw [eu] at J5
      exact ⟨.non, H1, J5, rfl, q1⟩
end
end LR
set_option Elab.async false
set_option maxRecDepth 100000
set_option linter.all false
set_option maxHeartbeats 4000000
namespace LR
open PySem PySem.Spec PyProof.Rows L2
/-! ## isinstance of an error that a suite holds -/
structure ErrC (K : PySem.W.Frag) (C : Addr) : Prop where
  cl : (PySem.W.clsIn K C).isSome = true
  ga : PySem.W.findIn K (.ref C) "__getattribute__" = some (some (.builtin "BaseException.__getattribute__"))
  gg : PySem.W.findIn K (.ref C) "__getattr__" = some none
  sb : PySem.W.subIn K (.ref C) (.type "BaseException") = some true
  ac : PySem.W.findIn K (.ref C) "__class__" = some (some (.builtin "object.__class__"))
  mo : PySem.W.mroIn K C (.type "object") = some true
  hd : PySem.W.hasDictIn K C = true
/-- .. and of the built-in object -/
structure ObjC (K : PySem.W.Frag) : Prop where
  gt : PySem.W.specialIn K (.builtin "object.__class__") "__get__" = some (some (.builtin "getset_descriptor.__get__"))
  tk : PySem.W.takesIn K (.builtin "object.__class__") = some true
/-! ## try with several clauses, each with a name or without -/
end LR
set_option Elab.async false
set_option maxRecDepth 100000
set_option linter.all false
set_option maxHeartbeats 4000000
namespace LR
open PySem PySem.Spec PyProof.Rows L2
/-! ## f-strings of which nothing is told -/
section
variable {σ : L2.St} {H : Hp} {ts : List TE} {acc a : Str} {n i : Nat} {v : Int} {Q : Str → Hp → Prop}
theorem js_c (hn : n ≤ 100000) (hacc : acc.length ≤ n) (ha : a.length ≤ 1000) (k : ∀ acc' : Str, acc'.length ≤ n + 1000 → tJs ts acc' σ H Q) : tJs (tC (.str a) :: ts) acc σ H Q := by
  have hl : (acc ++ a).length ≤ n + 1000 := by rw [Str.length_append]; omega
  exact ⟨a, rfl, Nat.le_trans hl (by rw [sizeLine_eq]; omega), k _ hl⟩
theorem js_v {te : TE} (hn : n ≤ 100000) (hacc : acc.length ≤ n) (hv : v.natAbs.log2 < 1920) (he : ∀ Q : VK, Q (.int v) H → te σ H Q) (k : ∀ acc' : Str, acc'.length ≤ n + 1921 → tJs ts acc' σ H Q) : tJs (tFmt te :: ts) acc σ H Q := by
  have hy := PyProof.Rows.int_text_len_1921 hv
  have hl : (acc ++ Str.ofString (toString v)).length ≤ n + 1921 := by rw [Str.length_append]; omega
  refine he _ (.inr ⟨v, rfl, hv, Str.ofString (toString v), rfl, Nat.le_trans hl (by rw [sizeLine_eq]; omega), k _ hl⟩)
end
theorem log_small {v : Int} (h : v.natAbs < 2 ^ 1900) : v.natAbs.log2 < 1920 := by
  by_cases c : v.natAbs = 0
  · rw [c]; decide
  · exact Nat.lt_of_lt_of_le ((Nat.log2_lt c).mpr h) (by decide)
/-! ## an error class of the program with one field, made by its own __init__ -/
structure ErrIn (prog : Program) (K : PySem.W.Frag) (mg : Str → Option Value) (x : Str) (C : Addr) (qual : Str) (st : Stmt) (fld : Str) : Prop where
  gC : mg x = some (.ref C)
  T : OexC K C
  E : ErrC K C
  X : XfC K C
  no : PySem.W.findIn K (.ref C) fld = some none
  ini : ∃ (f cc cda : Addr) (fd : FuncData), PySem.W.findIn K (.ref C) "__init__" = some (some (.ref f)) ∧ PySem.W.typeIn K (.ref f) = some (.type "function") ∧ SupIn prog K mg f cc cda C fd "self" ∧ Binds K fd ["self", fld] [] ∧
    ∃ (oc : Value) (od an : Option Addr) (kV doc pm ct : Value) (osl : Array (Option Value)), fd = PySem.W.ksFn "__init__" qual (defArgs st) (defBody st) (defScope st) .none kV doc pm an (.ref cda) ct cc ∧ K.lookup f = some ⟨oc, od, .func fd, osl⟩ ∧ PySem.W.codeIn K (.ref cda) qual = true
  sm : PySem.W.ks_superIn K C C "__init__" = some (some (.builtin "ValueError.__init__"))
  mr : PySem.W.mroIn K C (.ref C) = some true
  sv : PySem.W.subIn K (.ref C) (.type "ValueError") = some true
/-- what its __init__ does -/
def spErr (C : Addr) (fld : Str) : Sp := fun vs H Q _ => ∃ (a : Addr) (v : Int), vs = [.ref a, .int v] ∧ H a = some (exo a C none) ∧ v.natAbs < 2 ^ 1900 ∧ ∀ dx, H dx = none → dx ≠ a → Q .non (upd (upd H dx (exd dx [(fld, .int v)])) a (exo a C (some dx)))
/-- such a class, ready to be raised -/
structure ErrOk (P : Program) (w : World) (K : PySem.W.Frag) (mg : Str → Option Value) (base : Heap) (x : Str) (C : Addr) (fld : Str) : Prop where
  gC : mg x = some (.ref C)
  T : OexC K C
  fn : ∃ (f : Addr) (fd : FuncData), PySem.W.findIn K (.ref C) "__init__" = some (some (.ref f)) ∧ PySem.W.typeIn K (.ref f) = some (.type "function") ∧ FnOk P w K mg base CX0 1 f fd ["self", fld] (spErr C fld) ∧ Binds K fd ["self", fld] []
section
variable {P : Program} {w : World} {K : PySem.W.Frag} {mg : Str → Option Value} {base : Heap}
theorem ErrIn.ok {x qual : Str} {C : Addr} {st : Stmt} {fld : Str} {N : List Str} (D : ErrIn P K mg x C qual st fld) (S : CScope N ["self", fld] (defScope st))
    (hbody : ∀ (f cc cda : Addr) (fd : FuncData) (A : Around) (outer : List Env) (s : Shared) (H : Hp) (vs : List V) (Q : VK) (E : XK), SupIn P K mg f cc cda C fd "self" → Room 0 (A.deeper (PySem.W.ksEnv qual (defScope st) s.heap.objs.size f (.ref cda) cc)) → spErr C fld vs H Q E →
      ∃ t, NSs (cxC CX0 P w K mg base N qual (defScope st) f (.ref cda) cc A outer s H E) (defBody st) (defBody st) t ∧ t { nx := fun _ H' => Q .non H', rt := Q } (L2.start N vs) H) : ErrOk P w K mg base x C fld := by
  obtain ⟨f, cc, cda, fd, i1, i2, S1, b, oc, od, an, kV, doc, pm, ct, osl, rfl, lk, hcd⟩ := D.ini
  obtain ⟨cl, cld, csl, hcell⟩ := S1.cell
  refine ⟨D.gC, D.T, f, _, i1, i2, fn_ofC lk hcell hcd S (fun vs H Q E h => ?_) (fun A outer s H vs Q E hr h => hbody f cc cda _ A outer s H vs Q E S1 hr h), b⟩
  obtain ⟨a, v, rfl, _⟩ := h; rfl
end
section
variable {X : Cx} {C : Addr} {x fld : Str} {e : Expr} {es : List Expr} {p pos pos2 : Pos} {ta : TA} {k : Nat}
/-- C(v): the error is made, its dict d holds the field -/
def tMkE (C : Addr) (fld : Str) (ta : TA) : L2.St → Hp → XK → Prop := tMkO C (spErr C fld) [] ta
theorem pmk_err (D : ErrOk X.prog X.w X.K X.mg X.base x C fld) (hr : Room k X.A) (hk : 2 ≤ k) (ha : PA X (e :: es) ta) (hg : Gl X x) (hdb : (x == ("__debug__" : Str)) = false := by decide)
    (he : starEach (e :: es) X.env = (false, eval e X.env) :: starEach es X.env := by rfl) (hpl : (backTo pos (starEach es X.env)).any (·.1) = false := by rfl) : PMk X (.Call (.Name x p) (e :: es) [] pos) (tMkE C fld ta) := by
  obtain ⟨f, fd, i1, i2, F, b⟩ := D.fn
  exact pmk_oex D.T i1 i2 F (hr.mono hk) b .nil pass0 hg D.gC ha hdb he hpl
/-- what a made error asks -/
theorem mkE {C : Addr} {fld : Str} {v : Int} {H : Hp} {Q : XK} (hv : v.natAbs < 2 ^ 1900) (h : ∀ d, H d = none → Q (.ref C) (some d) (upd H d (.xd [(fld, .int v)]))) :
    ([V.int v] : List V).length ≤ 1000 ∧ ∀ a, H a = none → spErr C fld (.ref a :: ([V.int v] ++ [])) (upd H a (exo a C none))
      (fun v' H2 => v' = .non ∧ ∃ (d : Addr) (fs : List (Str × V)), H2 a = some (exo a C (some d)) ∧ H2 d = some (exd d fs) ∧ H d = none ∧ Q (.ref C) (some d) (upd (L2.del H2 a) d (.xd fs))) (fun _ _ _ => False) := by
  refine ⟨by show 1 ≤ 1000; decide, fun a ha => ⟨a, v, rfl, upd_same, hv, fun dx h1 h2 => ⟨rfl, dx, [(fld, .int v)], upd_same, ?_, ?_, ?_⟩⟩⟩
  · rw [upd_ne h2, upd_same]
  · rw [upd_ne h2] at h1; exact h1
  · have hd : H dx = none := by rw [upd_ne h2] at h1; exact h1
    have e : upd (L2.del (upd (upd (upd H a (exo a C none)) dx (exd dx [(fld, .int v)])) a (exo a C (some dx))) a) dx (.xd [(fld, .int v)]) = upd H dx (.xd [(fld, .int v)]) := by
      funext b
      by_cases c1 : b = dx
      · rw [c1, upd_same, upd_same]
      · rw [upd_ne c1, upd_ne c1]
        by_cases c2 : b = a
        · rw [c2, del_same, ha]
        · rw [del_ne c2, upd_ne c2, upd_ne c1, upd_ne c2]
    rw [e]
    exact h dx hd
end
end LR
set_option Elab.async false
set_option maxRecDepth 100000
set_option linter.all false
set_option maxHeartbeats 4000000
namespace LR
open PySem PySem.Spec PyProof.Rows L2
/-! ## defs, methods, classes whose calls may raise -/
structure CalX (P : Program) (w : World) (K : PySem.W.Frag) (mg : Str → Option Value) (base : Heap) (k : Nat) (x : Str) (sp : Sp) : Prop where
  ex : ∃ (f : Addr) (fd : FuncData) (ps : List Str), FnOk P w K mg base (L2.CX P w) k f fd ps sp ∧ mg x = some (.ref f) ∧ PySem.W.keepIn K (.ref f) = true ∧ Binds K fd ps []
structure MetX (P : Program) (w : World) (K : PySem.W.Frag) (mg : Str → Option Value) (base : Heap) (k : Nat) (C : Addr) (m : Str) (sp : Sp) : Prop where
  ex : ∃ (f : Addr) (fd : FuncData) (ps : List Str), Cls K C ∧ Meth K C m f ∧ FnOk P w K mg base (L2.CX P w) k f fd ps sp ∧ Binds K fd ps []
structure MakX (P : Program) (w : World) (K : PySem.W.Frag) (mg : Str → Option Value) (base : Heap) (k : Nat) (x : Str) (C : Addr) (sp : Sp) : Prop where
  ex : ∃ (f : Addr) (fd : FuncData) (ps : List Str), Mk K C f ∧ FnOk P w K mg base (L2.CX P w) k f fd ps sp ∧ mg x = some (.ref C) ∧ Binds K fd ps []
def tCallT (sp : Sp) (W : WX) (t : TA) : TE := fun σ H Q => t σ H fun vs H1 => sp vs H1 Q (WE W σ)
def tMethT (C : Addr) (m : Str) (sp : Sp) (W : WX) (ta : TE) (t : TA) : TE := fun σ H Q => ta σ H fun x H1 => ∃ a dx fs, x = .ref a ∧ H1 a = some (.ins C dx fs) ∧ fs.lookup m = none ∧ t σ H1 fun vs H2 => sp (x :: vs) H2 Q (WE W σ)
def tMakeT (C : Addr) (sp : Sp) (W : WX) (t : TA) : TE := fun σ H Q => t σ H fun vs H1 => ∀ x dx, H1 x = none → H1 dx = none → dx ≠ x → sp (.ref x :: vs) (upd (upd H1 dx (.own x)) x (.ins C dx [])) (fun v H2 => v = .non ∧ Q (.ref x) H2) (WE W σ)
section
variable {X : Cx} {k j : Nat} {C : Addr} {x m : Str} {sp : Sp} {W : WX} {p pos apos : Pos} {e o : Expr} {es : List Expr} {ta : TE} {t : TA}
theorem pe_cT (c : CalX X.prog X.w X.K X.mg X.base k x sp) (hr : Room j X.A) (hk : k ≤ j) (tk : Takes X W) (hg : Gl X x) (ha : PA X (e :: es) t)
    (hdb : (x == ("__debug__" : Str)) = false := by decide) (he : starEach (e :: es) X.env = (false, eval e X.env) :: starEach es X.env := by rfl) (hpl : (backTo pos (starEach es X.env)).any (·.1) = false := by rfl) :
    PE X (.Call (.Name x p) (e :: es) [] pos) (tCallT sp W t) := by
  obtain ⟨f, fd, ps, F, hm, kp, b⟩ := c.ex
  exact pe_callS F (hr.mono hk) hg hm kp b (passAt tk) ha hdb he hpl
theorem pe_mtT {pl : Sem Bool} (c : MetX X.prog X.w X.K X.mg X.base k C m sp) (hr : Room j X.A) (hk : k ≤ j) (tk : Takes X W) (he : PE X o ta) (ha : PA X (e :: es) t)
    (hst : starEach (e :: es) X.env = (false, eval e X.env) :: starEach es X.env := by rfl) (hpl : (backTo pos (starEach es X.env)).any (·.1) = false := by rfl)
    (ht : eval (.Call (.Attribute o m apos) (e :: es) [] pos) X.env = (do
      let ov ← eval o X.env
      standAt apos.atName
      let (f, first) ← holding [ov] (getMethod ov m pl)
      callWith pos f first (backTo pos (starEach (e :: es) X.env)) (backToKw pos (keywordEach [] X.env))) := by rfl) :
    PE X (.Call (.Attribute o m apos) (e :: es) [] pos) (tMethT C m sp W ta t) := by
  obtain ⟨f, fd, ps, hc, hm, F, b⟩ := c.ex
  refine ⟨fun pins s σ H Q I h => PySem.W.methodCall_KW (pl := pl) (thn (he.run pins s σ H _ I h) fun u s1 hh => ?_) ht⟩
  obtain ⟨y, H1, I1, ry, a, dx, fs, rfl, ea, l, q⟩ := hh
  cases (show u = Value.ref a from ry)
  refine getmeth_ok I1 ea hc hm l (PySem.W.callWith_K (first := [.ref a]) (h₀ := X.base) I.ok.mod.kin hm.kp (thn (ha.run pos pins s1 σ H1 _ I1 q) fun us s2 h2 => ?_) hst hpl)
  obtain ⟨vs, H2, I2, r, q2⟩ := h2
  exact ⟨I2.kIn, run_fnS (E := WE W) F (hr.mono hk) b (passAt tk σ) I2 (.cons (show RelV (V.ref a) (.ref a) from rfl) r) q2⟩
theorem run_mkT {pins : List (Addr × Obj)} {σ : L2.St} {H : Hp} {s : Shared} {Q : VK} {us : List Value} {vs : List V} {f : Addr} {fd : FuncData} {ps : List Str} (M : Mk X.K C f) (F : FnOk X.prog X.w X.K X.mg X.base (L2.CX X.prog X.w) k f fd ps sp) (hr : Room (k + 1) X.A) (b : Binds X.K fd ps []) (tk : Takes X W)
    (I : Inv X pins σ H s) (r : Vals vs us)
    (h : ∀ x dx, H x = none → H dx = none → dx ≠ x → sp (.ref x :: vs) (upd (upd H dx (.own x)) x (.ins C dx [])) (fun v H2 => v = .non ∧ Q (.ref x) H2) (WE W σ)) :
    wpAny (model X.prog X.w) X.A (call (.ref C) us) (EP X pins σ Q) X.xe s := by
  have hq := h (s.heap.objs.size + 1) s.heap.objs.size (I.hok.fresh (Nat.le_succ _)) (I.hok.fresh (Nat.le_refl _)) (Nat.ne_of_lt (Nat.lt_succ_self _))
  have J := Inv.made (C := C) I
  have r2 : Vals (V.ref (s.heap.objs.size + 1) :: vs) (Value.ref (s.heap.objs.size + 1) :: us) := .cons rfl r
  have hl := r2.length.symm.trans (F.len _ _ _ _ hq)
  have bb := b _ _ J.kIn (by rw [List.append_nil]; exact hl)
  rw [List.append_nil] at bb
  refine wpAny_call (make_map (f := f) I.kIn M.makes M.init (beq_iff_eq.mp M.fn) (codeAny_mono (F.run _ X.stack _ _ _ _ _ _ (WE W σ) (hr.make C us []) (J.env0.make C us []) bb r2 hq) fun rr s' hq' => ?_))
  cases rr with
  | error e => exact passAt tk σ pins _ _ e s' J hq'
  | ok fl =>
    cases fl with
    | ret u =>
      obtain ⟨v, H', I3, rv, ev, q3⟩ := J.after hq'
      subst ev
      exact ⟨rv, V.ref (s.heap.objs.size + 1), H', I3, rfl, q3⟩
    | next => exact hq'.elim
    | brk => exact hq'.elim
    | cont => exact hq'.elim
theorem pe_mkT (c : MakX X.prog X.w X.K X.mg X.base k x C sp) (hr : Room j X.A) (hk : k + 1 ≤ j) (tk : Takes X W) (hg : Gl X x) (ha : PA X (e :: es) t)
    (hdb : (x == ("__debug__" : Str)) = false := by decide) (he : starEach (e :: es) X.env = (false, eval e X.env) :: starEach es X.env := by rfl) (hpl : (backTo pos (starEach es X.env)).any (·.1) = false := by rfl) :
    PE X (.Call (.Name x p) (e :: es) [] pos) (tMakeT C sp W t) := by
  obtain ⟨f, fd, ps, M, F, hm, b⟩ := c.ex
  refine ⟨fun pins s σ H Q I h => wpAny_Call_Name_kw (ld_glob I hg hm ?_ hdb)⟩
  refine PySem.W.callWith_K (h₀ := X.base) I.ok.mod.kin M.kp (thn (ha.run pos pins s σ H _ I h) fun us s1 hh => ?_) he hpl
  obtain ⟨vs, H1, I1, r, q⟩ := hh
  exact ⟨I1.kIn, run_mkT M F (hr.mono hk) b tk I1 r q⟩
end
section
variable {P : Program} {w : World} {K : PySem.W.Frag} {mg : Str → Option Value} {base : Heap}
theorem DefIn.calX {x : Str} {st : Stmt} {N ps : List Str} {k : Nat} {sp : Sp} (D : DefIn K mg x st ps) (S : FnScope N ps (defScope st)) (len : ∀ vs H Q E, sp vs H Q E → vs.length = ps.length)
    (hbody : ∀ (f : Addr) (cdv : Value) (A : Around) (outer : List Env) (s : Shared) (H : Hp) (vs : List V) (Q : VK) (E : XK), Room k (A.deeper (envOfC x (defScope st) s.heap.objs.size f cdv)) → sp vs H Q E →
      ∃ t, PSs (cxOf (L2.CX P w) P w K mg base N x (defScope st) f cdv A outer s H E) (defBody st) t ∧ t { nx := fun _ H' => Q .non H', rt := Q } (L2.start N vs) H) : CalX P w K mg base (k + 1) x sp := by
  obtain ⟨f, fd, F, hm, b⟩ := D.ex
  exact ⟨f, fd, ps, F.okX S len (hbody f), hm, F.kp, b⟩
theorem MetIn.metX {C : Addr} {m qual : Str} {st : Stmt} {N ps : List Str} {k : Nat} {sp : Sp} (c : Cls K C) (D : MetIn K C m qual st ps) (S : FnScope N ps (defScope st)) (len : ∀ vs H Q E, sp vs H Q E → vs.length = ps.length)
    (hbody : ∀ (f : Addr) (cdv : Value) (A : Around) (outer : List Env) (s : Shared) (H : Hp) (vs : List V) (Q : VK) (E : XK), Room k (A.deeper (envOfC qual (defScope st) s.heap.objs.size f cdv)) → sp vs H Q E →
      ∃ t, PSs (cxOf (L2.CX P w) P w K mg base N qual (defScope st) f cdv A outer s H E) (defBody st) t ∧ t { nx := fun _ H' => Q .non H', rt := Q } (L2.start N vs) H) : MetX P w K mg base (k + 1) C m sp := by
  obtain ⟨f, fd, F, hm, b⟩ := D.ex
  exact ⟨f, fd, ps, c, hm, F.okX S len (hbody f), b⟩
end
end LR
set_option Elab.async false
set_option maxRecDepth 100000
set_option linter.all false
set_option maxHeartbeats 4000000
namespace LR
open PySem PySem.Spec PyProof.Rows L2
/-! ## enumerate over a tuple -/
set_option maxHeartbeats 1000000 in
theorem meets_enum1 {v : Value} {o : Obj} {H : Heap → Prop} (B : Begins v o H) :
    Meets (Builtin.«enumerate.__new__» ⟨[.type "enumerate", v], []⟩) (fun _ R s => H s.heap ∧
      R (.ok (.ret (.ref (s.heap.push o).objs.size))) { s with heap := (s.heap.push o).push { cls := .type "enumerate", data := .fields #[.none, .bool false, .ref s.heap.objs.size, rawInt 0, .none, .none] } }) :=
  .of_wp fun prog w A R s h => by
    obtain ⟨hp, g, d, tk, os⟩ := s; obtain ⟨h1, h⟩ := h
    have hsub := sub_enumerate
    have q1 : ∀ {A' : Around} {E : Value → Shared → Prop} {Q : Value → Shared → Prop}, Q (.ref hp.objs.size) ⟨hp.push o, g, d, tk, os⟩ → wpAny (model prog w) A' (pyIter v) Q E ⟨hp, g, d, tk, os⟩ :=
      fun q => B.iter prog w _ _ ⟨hp, g, d, tk, os⟩ _ h1 q
    wp_walk using q1
    refine wpAny_stack_any fun st => wpAny_pure ?_
    split
    · rename_i c _ _ _ _ _
      cases (c == Value.type "enumerate")
      · wp_walk using q1
        exact ⟨_, rfl, h⟩
      · wp_walk using q1
        exact ⟨_, rfl, h⟩
    · wp_walk using q1
      exact ⟨_, rfl, h⟩
theorem enum_new1 {prog : Program} {w : World} {A : Around} {E : Value → Shared → Prop} {s : Shared} {v : Value} {o : Obj} {H : Heap → Prop} {Q : Value → Shared → Prop} (B : Begins v o H) (h1 : H s.heap)
    (h : ∀ h', IsEnum h' (s.heap.objs.size + 1) s.heap.objs.size 0 .none → h'.get? s.heap.objs.size = some o → h'.objs.size = s.heap.objs.size + 2 →
      (∀ b o, s.heap.get? b = some o → h'.get? b = some o) → Q (.ref (s.heap.objs.size + 1)) { s with heap := h' }) :
    wpAny (model prog w) A (call (.type "enumerate") [v]) Q E s := by
  refine callType_new F.called_enumerate (by decide) (F.typeCall_enumerate_1 _) (F.newCall_enumerate_1 _) (fun obj => F.args_object_init_2 obj _) F.entry_enumerate_new
    (meets_enum1 B) ⟨h1, ?_⟩
  have hz : (s.heap.push o).objs.size = s.heap.objs.size + 1 := Heap.size_push ..
  show _ ∧ _
  rw [hz]
  have he : IsEnum ((s.heap.push o).push { cls := .type "enumerate", data := .fields #[.none, .bool false, .ref s.heap.objs.size, rawInt 0, .none, .none] }) (s.heap.objs.size + 1) s.heap.objs.size 0 .none := by
    have := Heap.get?_push_size (s.heap.push o) (o := { cls := .type "enumerate", data := .fields #[.none, .bool false, .ref s.heap.objs.size, rawInt 0, .none, .none] }) rfl
    rw [hz] at this; exact this
  refine ⟨⟨_, he, rfl⟩, h _ he (Heap.get?_push_of_some _ (Heap.get?_push_size _ B.free)) (by rw [Heap.size_push, hz]) fun b o x => Heap.get?_push_of_some _ (Heap.get?_push_of_some _ x)⟩
/-- the tuple at a as it stands at each turn, the items in new pairs -/
def IteT (K : PySem.W.Frag) (a : Addr) : It :=
  ⟨fun i H => ∃ (xs : List V) (x : V), SqT K H a xs ∧ xs[i]? = some x, fun i H v H' => ∃ T x, v = .ref T ∧ H T = none ∧ H' = upd H T (.tup [.int (i : Nat), x]) ∧ ∀ xs, SqT K H a xs → xs[i]? = some x, fun i H => ∃ xs : List V, SqT K H a xs ∧ xs.length = i⟩
theorem turn_enumT {P : Program} {w : World} {K : PySem.W.Frag} {elts : List Expr} {kk : Nat} {tpos : Pos} (a e it : Addr) :
    Turn P w K (.Tuple elts kk tpos) (IteT K a) [e, it] e (fun i h => (∃ old, IsEnum h e it ((i : Nat) : Int) old) ∧ h.IsTupleIter it a i ∧ e ≠ it) where
  mem := by simp
  obj := fun i h st b hb => by
    obtain ⟨⟨old, he⟩, ⟨o, ho, hc, hd⟩, _⟩ := st
    have e' : b = e ∨ b = it := by simpa using hb
    rcases e' with z | z
    · rw [z]; exact ⟨_, he, fun v q => nomatch q⟩
    · rw [z]; exact ⟨o, ho, fun v q => by rw [hd] at q; cases q⟩
  keep := fun i h h' st k => let ⟨⟨old, he⟩, hi, hne⟩ := st; ⟨⟨old, k e (by simp) _ he⟩, hi.at fun o q => k it (by simp) o q, hne⟩
  item := by
    intro X hP hw hK hc i pins s σ H E I hf st hg
    subst hP hw hK
    obtain ⟨⟨old, he⟩, hit, hne⟩ := st
    obtain ⟨xs, x, hq, hx⟩ := hg
    obtain ⟨its, rv, p, hz⟩ := I.tuple hq
    obtain ⟨u, hu, ru⟩ := rv.get hx
    have hel : e < s.heap.objs.size := Heap.lt_size he
    have hil : it < s.heap.objs.size := by obtain ⟨_, q, _⟩ := hit; exact Heap.lt_size q
    have hT0 : s.heap.IsTuple a its.toArray := p
    have nea : a ≠ e := fun z => by
      obtain ⟨o, h1, h2, _⟩ := hT0
      rw [z, he] at h1; cases h1; injection h2 with q; exact absurd q (by decide)
    have nia : a ≠ it := fun z => by
      obtain ⟨o, h1, h2, _⟩ := hT0
      obtain ⟨o2, h3, h4, _⟩ := hit
      rw [z, h3] at h1; cases h1; rw [h4] at h2; injection h2 with q; exact absurd q (by decide)
    have D := Draws.tuple (prog := X.prog) (w := X.w) (A := X.A.in1) (I.ok.hd hc) it a nia its.toArray
    have hlt : i < its.toArray.size := by
      have := (List.getElem?_eq_some_iff.mp hu).1
      simpa using this
    refine wpAny_pyNext_enum_itemD D he ⟨hit, hT0⟩ hlt hne (by simp; exact ⟨hne, nea.symm⟩) fun x' h' tk hx' ho hst hT hsz hk => ?_
    have hx' : x' = u := by
      have : its.toArray[i]? = some u := by simpa using hu
      rw [this] at hx'; cases hx'; rfl
    subst hx'
    refine ⟨_, rfl, wpAny_letOwnedTupleGo_enum (s := { s with heap := h', toks := tk + 1 }) ho fun h'' he' sb => ?_⟩
    have hT2 : h''.get? s.heap.objs.size = some { cls := .type "tuple", data := .seq #[.int i tk, x'] } := (sb.2 _ (Nat.ne_of_gt hel)).trans hT
    have new : ObjOk X.prog X.w (upd H s.heap.objs.size (.tup [.int (i : Nat), x])) h'' s.heap.objs.size (.tup [.int (i : Nat), x]) :=
      ⟨by show 2 ≤ sizeLine; decide, [.int i tk, x'], .cons ⟨_, rfl⟩ (.cons ru .nil), ⟨_, hT2, rfl, _, rfl⟩⟩
    have I1 : Inv X pins σ (upd H s.heap.objs.size (.tup [.int (i : Nat), x])) { s with heap := h'', toks := tk + 1 } :=
      I.turnedNew (ch := [e, it]) (fun b ob hb q => (sb.2 b (fun z => hb (by simp [z]))).trans (hk b ob (fun z => hb (by simp [z])) (fun z => hb (by simp [z])) q)) hf (Nat.le_refl _) new
    refine ⟨.ref s.heap.objs.size, _, I1, rfl, ⟨_, x, rfl, I.hok.fresh (Nat.le_refl _), rfl, fun ys hy => by rw [I.tuple_inj hy hq]; exact hx⟩, ⟨⟨x', ?_⟩, hst.1.at fun o q => (sb.2 it (Ne.symm hne)).trans q, hne⟩, fun b hb => ?_⟩
    · have e1 : ((i + 1 : Nat) : Int) = (i : Int) + 1 := by omega
      rw [e1]; exact he'
    · have hb' : b < s.heap.objs.size := by
        have e' : b = e ∨ b = it := by simpa using hb
        rcases e' with z | z
        · rw [z]; exact hel
        · rw [z]; exact hil
      rw [upd_ne (Nat.ne_of_lt hb')]
      exact (hf b hb).1
  done := by
    intro X hP hw hK hc i pins s σ H E I hf st hg
    subst hP hw hK
    obtain ⟨⟨old, he⟩, hit, hne⟩ := st
    obtain ⟨xs, hq, hx⟩ := hg
    obtain ⟨its, rv, p, hz⟩ := I.tuple hq
    obtain ⟨f0, f1, f2, f3, f4, f5⟩ := hf it (by simp)
    have hl := rv.length
    have hT0 : s.heap.IsTuple a its.toArray := p
    have nia : a ≠ it := fun z => by
      obtain ⟨o, h1, h2, _⟩ := hT0
      obtain ⟨o2, h3, h4, _⟩ := hit
      rw [z, h3] at h1; cases h1; rw [h4] at h2; injection h2 with q; exact absurd q (by decide)
    have D := Draws.tuple (prog := X.prog) (w := X.w) (A := X.A.in1) (I.ok.hd hc) it a nia its.toArray
    have hn : its.toArray.size = i := by simp; omega
    exact wpAny_pyNext_enum_endD D he (by rw [hn]; exact ⟨hit, hT0⟩) fun h' eb => ⟨rfl, I.turned (t' := s.toks) (fun b o hb q => eb b o hb q) f0 f1 f3 f4 f5⟩
  self := fun A i s Q E st h => let ⟨⟨_, he⟩, _⟩ := st; wpAny_pyIter_enum he h
theorem walk_enumT {K : PySem.W.Frag} {a : Addr} {xs : List V} : Walk (IteT K a) xs.length (fun H => SqT K H a xs) (YPair (fun i => some (.int (i : Nat))) (fun i => xs[i]?)) := by
  refine ⟨fun i _ hi q => ⟨xs, xs[i], q, by simp [hi]⟩, fun _ q => ⟨xs, q, rfl⟩, fun i H v H' _ q y => ?_⟩
  obtain ⟨T, x, h1, h2, h3, h4⟩ := y
  exact ⟨T, .int (i : Nat), x, h1, h2, h3, rfl, h4 xs q⟩
/-- R of the iterator, kept whole -/
def RunIt (R : It → Hp → Prop) (J : It) (H : Hp) : Prop := R J H
def iEnumS (K : PySem.W.Frag) (ta : TA) : TI := fun σ H R => ta σ H fun vs H1 => ∃ a, vs = [.ref a] ∧ (((∃ xs, SqL K H1 a xs) ∧ RunIt R (Ite K a) H1) ∨ ((∃ xs, SqT K H1 a xs) ∧ RunIt R (IteT K a) H1))
theorem pi_enumS {X : Cx} {e : Expr} {ta : TA} {p pos tpos : Pos} {elts : List Expr} {kk : Nat} (hg : Gl X "enumerate") (hm : X.mg "enumerate" = none) (ha : PA X [e] ta) (hs : starEach [e] X.env = [(false, eval e X.env)] := by rfl) :
    PI X (.Tuple elts kk tpos) (.Call (.Name "enumerate" p) [e] [] pos) (iEnumS X.K ta) := by
  refine ⟨fun pins s σ H R I h => ?_⟩
  refine Call_ (ld_blt I hg hm boot_enumerate (PyProof.Rows.callWith_type1 (thn (ha.run pos pins s σ H _ I h) fun us s1 ⟨vs, H1, I1, r1, q1⟩ => ?_) hs rfl))
  obtain ⟨a, ex, q⟩ := q1
  subst ex
  cases r1 with
  | cons r rr =>
    cases rr
    cases r
    rcases q with ⟨⟨xs, hq⟩, q⟩ | ⟨⟨xs, hq⟩, q⟩
    · obtain ⟨its, rv, p', hz⟩ := I1.list hq
      refine call_enumerate_list p'.isList fun h' he hit hsz hk => wpAny_pyIter_enum he ?_
      have I2 : Inv X pins σ H1 { s1 with heap := h' } := I1.kept (t' := s1.toks) hk
      refine ⟨s1.heap.objs.size + 1, [s1.heap.objs.size + 1, s1.heap.objs.size], _, _, H1, rfl, I2, turn_enum a (s1.heap.objs.size + 1) s1.heap.objs.size, ⟨⟨.none, he⟩, hit, Nat.succ_ne_self _⟩, fun b hb => ?_, q⟩
      have e' : b = s1.heap.objs.size + 1 ∨ b = s1.heap.objs.size := by simpa using hb
      have hle : s1.heap.objs.size ≤ b := by
        rcases e' with z | z
        · rw [z]; exact Nat.le_add_right _ _
        · rw [z]; exact Nat.le_refl _
      exact I1.fpOk hle (I1.hok.fresh hle)
    · obtain ⟨its, rv, p', hz⟩ := I1.tuple hq
      refine enum_new1 (begins_tuple a its.toArray) (show s1.heap.IsTuple a its.toArray from p') fun h' he hit hsz hk => wpAny_pyIter_enum he ?_
      have I2 : Inv X pins σ H1 { s1 with heap := h' } := I1.kept (t' := s1.toks) hk
      refine ⟨s1.heap.objs.size + 1, [s1.heap.objs.size + 1, s1.heap.objs.size], _, _, H1, rfl, I2, turn_enumT a (s1.heap.objs.size + 1) s1.heap.objs.size, ⟨⟨.none, he⟩, ⟨_, hit, rfl, rfl⟩, Nat.succ_ne_self _⟩, fun b hb => ?_, q⟩
      have e' : b = s1.heap.objs.size + 1 ∨ b = s1.heap.objs.size := by simpa using hb
      have hle : s1.heap.objs.size ≤ b := by
        rcases e' with z | z
        · rw [z]; exact Nat.le_add_right _ _
        · rw [z]; exact Nat.le_refl _
      exact I1.fpOk hle (I1.hok.fresh hle)
/-! ## for over a list or a tuple -/
def iSeq (K : PySem.W.Frag) (tl : TE) : TI := fun σ H R => tl σ H fun x H1 => ∃ a, x = .ref a ∧ (((∃ xs, SqL K H1 a xs) ∧ RunIt R (Itl K a) H1) ∨ ((∃ xs, SqT K H1 a xs) ∧ RunIt R (Itt K a) H1))
theorem pi_seq {X : Cx} {tg l : Expr} {tl : TE} (hl : PE X l tl) : PI X tg l (iSeq X.K tl) := by
  refine ⟨fun pins s σ H R I h => ?_⟩
  refine thn (hl.run pins s σ H _ I h) fun v s1 ⟨x, H1, I1, r1, q1⟩ => ?_
  obtain ⟨a, e, q⟩ := q1
  subst e
  cases r1
  rcases q with ⟨⟨xs, hq⟩, q⟩ | ⟨⟨xs, hq⟩, q⟩
  · obtain ⟨its, rv, p, hz⟩ := I1.list hq
    refine wpAny_pyIter_list p.isList ?_
    refine ⟨s1.heap.objs.size, [s1.heap.objs.size], _, _, H1, rfl, I1.kept (t' := s1.toks) fun b o e => Heap.get?_push_of_some _ e, turn_list a _, ⟨_, Heap.get?_push_size _ rfl, rfl, rfl⟩, fun b hb => ?_, q⟩
    have e : b = s1.heap.objs.size := by simpa using hb
    subst e
    exact I1.fpOk (Nat.le_refl _) (I1.hok.fresh (Nat.le_refl _))
  · obtain ⟨its, rv, p, hz⟩ := I1.tuple hq
    refine wpAny_pyIter_tuple (show s1.heap.IsTuple a its.toArray from p) ?_
    refine ⟨s1.heap.objs.size, [s1.heap.objs.size], _, _, H1, rfl, I1.kept (t' := s1.toks) fun b o e => Heap.get?_push_of_some _ e, turn_tuple a _, ⟨_, Heap.get?_push_size _ rfl, rfl, rfl⟩, fun b hb => ?_, q⟩
    have e : b = s1.heap.objs.size := by simpa using hb
    subst e
    exact I1.fpOk (Nat.le_refl _) (I1.hok.fresh (Nat.le_refl _))
/-- a list or a tuple -/
def Sq (K : PySem.W.Frag) (H : Hp) (a : Addr) (xs : List V) : Prop := SqL K H a xs ∨ SqT K H a xs
theorem Sq.keep {K : PySem.W.Frag} {H H' : Hp} {a p : Addr} {xs : List V} (k : Keep p H H') (n : a ≠ p) (h : Sq K H a xs) : Sq K H' a xs := by
  rcases h with h | h
  · exact .inl (k.seq h n)
  · exact .inr (k.seqT h n)
theorem Sq.same {K : PySem.W.Frag} {H H' : Hp} {a : Addr} {xs : List V} (s : Same H H') (h : Sq K H a xs) : Sq K H' a xs :=
  h.keep (p := a + 1) (fun b _ o e => s b o e) (Nat.ne_of_lt (Nat.lt_succ_self a))
theorem seqT_after {K : PySem.W.Frag} {H H' : Hp} {a p : Addr} {xs : List V} (h : SqT K H a xs) (hp : H p = none) (k : Keep p H H') : SqT K H' a xs := by
  rcases h with (h | ⟨o, h⟩) | h
  · exact .inl (.inl (k _ (ne_of_none h hp) _ h))
  · exact .inl (.inr ⟨o, k _ (ne_of_none h hp) _ h⟩)
  · exact .inr h
theorem Sq.after {K : PySem.W.Frag} {H H' : Hp} {a p : Addr} {xs : List V} (h : Sq K H a xs) (hp : H p = none) (k : Keep p H H') : Sq K H' a xs := by
  rcases h with h | h
  · exact .inl (seq_after h hp k)
  · exact .inr (seqT_after h hp k)
/-- the walk over a list or a tuple, in one -/
theorem Sq.walk {K : PySem.W.Frag} {H0 H : Hp} {a : Addr} {xs : List V} {R : It → Hp → Prop} (h : Sq K H0 a xs) (s0 : Same H0 H) (k : ∀ (J : It) (G : Hp → Prop), Walk J xs.length G (YAt xs) → (∀ H', Same H0 H' → G H') → (∀ H' p, H0 p = none → Keep p H0 H' → G H') → R J H) :
    ((∃ xs, SqL K H a xs) ∧ RunIt R (Itl K a) H) ∨ ((∃ xs, SqT K H a xs) ∧ RunIt R (Itt K a) H) := by
  rcases h with h | h
  · exact .inl ⟨⟨_, s0.seq h⟩, k _ _ walk_list (fun H' s => s.seq h) fun H' p n q => seq_after h n q⟩
  · exact .inr ⟨⟨_, s0.seqT h⟩, k _ _ walk_tup (fun H' s => s.seqT h) fun H' p n q => seqT_after h n q⟩
theorem Sq.enum {K : PySem.W.Frag} {H0 H : Hp} {a : Addr} {xs : List V} {R : It → Hp → Prop} (h : Sq K H0 a xs) (s0 : Same H0 H) (k : ∀ (J : It) (G : Hp → Prop), Walk J xs.length G (YPair (fun i => some (.int (i : Nat))) (fun i => xs[i]?)) → (∀ H', Same H0 H' → G H') → (∀ H' p, H0 p = none → Keep p H0 H' → G H') → R J H) :
    ((∃ xs, SqL K H a xs) ∧ RunIt R (Ite K a) H) ∨ ((∃ xs, SqT K H a xs) ∧ RunIt R (IteT K a) H) := by
  rcases h with h | h
  · exact .inl ⟨⟨_, s0.seq h⟩, k _ _ walk_enum (fun H' s => s.seq h) fun H' p n q => seq_after h n q⟩
  · exact .inr ⟨⟨_, s0.seqT h⟩, k _ _ walk_enumT (fun H' s => s.seqT h) fun H' p n q => seqT_after h n q⟩
end LR
set_option Elab.async false
set_option maxRecDepth 100000
set_option linter.all false
set_option maxHeartbeats 4000000
namespace LR
open PySem PySem.Spec PyProof.Rows L2
/-! ## max(t, default=d), t a tuple of whole numbers -/
def mx (a b : Int) : Int := if a < b then b else a
def maxOr (d : Int) : List Int → Int
  | [] => d
  | x :: r => r.foldl mx x
def loI (u w : Int) : Int := if w < u then w else u
def hiI (u w : Int) : Int := if w > u then w else u
/-- the levels between two steps, and the greatest of them -/
def gapL (ls : List Int) (u w : Int) : List Int := (ls.drop (loI u w).toNat).take ((hiI u w).toNat - (loI u w).toNat)
def gapI (ls : List Int) (u w : Int) : Int := maxOr 0 (gapL ls u w)
end LR
set_option Elab.async false
set_option maxRecDepth 100000
set_option linter.all false
set_option maxHeartbeats 4000000
set_option Elab.async false
set_option maxRecDepth 100000
set_option linter.all false
set_option maxHeartbeats 4000000
namespace LR
open PySem PySem.Spec PyProof.Rows L2
theorem foldl_mx : ∀ (r : List Int) (x : Int), x ≤ r.foldl mx x ∧ (∀ y ∈ r, y ≤ r.foldl mx x) ∧ (r.foldl mx x = x ∨ r.foldl mx x ∈ r)
  | [], x => ⟨Int.le_refl _, (fun y h => nomatch h), .inl rfl⟩
  | a :: r, x => by
    obtain ⟨h1, h2, h3⟩ := foldl_mx r (mx x a)
    rw [List.foldl_cons]
    have m1 : x ≤ mx x a := by unfold mx; split <;> omega
    have m2 : a ≤ mx x a := by unfold mx; split <;> omega
    have m3 : mx x a = x ∨ mx x a = a := by unfold mx; split; exact .inr rfl; exact .inl rfl
    refine ⟨Int.le_trans m1 h1, fun y hy => ?_, ?_⟩
    · rcases List.mem_cons.mp hy with rfl | hy
      · exact Int.le_trans m2 h1
      · exact h2 y hy
    · rcases h3 with h3 | h3
      · rcases m3 with m3 | m3
        · exact .inl (h3.trans m3)
        · exact .inr (by rw [h3, m3]; exact List.mem_cons_self)
      · exact .inr (List.mem_cons_of_mem _ h3)
theorem loI_nat {u w : Int} (hu : 0 ≤ u) (hw : 0 ≤ w) : (loI u w).toNat = min u.toNat w.toNat := by unfold loI; split <;> omega
theorem hiI_nat {u w : Int} (hu : 0 ≤ u) (hw : 0 ≤ w) : (hiI u w).toNat = max u.toNat w.toNat := by unfold hiI; split <;> omega
theorem isGap_gapI {ls : List Int} {u w : Int} (hb : ∀ l ∈ ls, 1 ≤ l) (hu : 0 ≤ u) (hw : 0 ≤ w) : IsGap ls (min u.toNat w.toNat) (max u.toNat w.toNat) (gapI ls u w) := by
  unfold gapI gapL
  rw [loI_nat hu hw, hiI_nat hu hw]
  generalize min u.toNat w.toNat = lo
  generalize max u.toNat w.toNat = hi
  have get : ∀ j, j < hi - lo → ((ls.drop lo).take (hi - lo))[j]? = ls[lo + j]? := fun j hj => by rw [List.getElem?_take, if_pos hj, List.getElem?_drop]
  have mem : ∀ m z, lo ≤ m → m < hi → ls[m]? = some z → z ∈ (ls.drop lo).take (hi - lo) := fun m z a b e => by
    have := get (m - lo) (by omega)
    rw [show lo + (m - lo) = m by omega, e] at this
    exact List.mem_of_getElem? this
  cases hl : (ls.drop lo).take (hi - lo) with
  | nil =>
    refine ⟨Int.le_refl _, fun m z a b e => ?_, .inl rfl⟩
    have := mem m z a b e
    rw [hl] at this; cases this
  | cons x r =>
    obtain ⟨h1, h2, h3⟩ := foldl_mx r x
    have inl : ∀ y ∈ x :: r, y ≤ r.foldl mx x := fun y hy => by
      rcases List.mem_cons.mp hy with rfl | hy
      · exact h1
      · exact h2 y hy
    have inm : r.foldl mx x ∈ (ls.drop lo).take (hi - lo) := by
      rw [hl]
      rcases h3 with h3 | h3
      · rw [h3]; exact List.mem_cons_self
      · exact List.mem_cons_of_mem _ h3
    show IsGap ls lo hi (r.foldl mx x)
    obtain ⟨j, hj, ej⟩ := List.mem_iff_getElem.mp inm
    have hj' : j < hi - lo := by rw [List.length_take] at hj; omega
    have e2 : ls[lo + j]? = some (r.foldl mx x) := by rw [← get j hj', List.getElem?_eq_getElem hj, ej]
    have := hb _ (List.mem_of_getElem? e2)
    refine ⟨by omega, fun m z a b e => ?_, .inr ⟨lo + j, by omega, by omega, e2⟩⟩
    have := mem m z a b e
    rw [hl] at this
    exact inl z this
theorem IsGap.one {ls : List Int} {lo hi : Nat} {g k : Int} (a : IsGap ls lo hi g) (b : IsGap ls lo hi k) : g = k := by
  have key : ∀ {x y : Int}, IsGap ls lo hi x → IsGap ls lo hi y → x ≤ y := fun {x y} a b => by
    obtain ⟨a0, a1, a2⟩ := a
    obtain ⟨b0, b1, b2⟩ := b
    rcases a2 with e | ⟨m, h1, h2, e⟩
    · omega
    · exact b1 m x h1 h2 e
  exact Int.le_antisymm (key a b) (key b a)
/-! ## answers of the law -/
abbrev Chk := Str × Int × Int × Int
def Chk.ok (e : Chk) : Prop := e.2.2.1 ≤ e.2.1 ∧ e.2.1 ≤ e.2.2.2
end LR
set_option Elab.async false
set_option maxRecDepth 100000
set_option linter.all false
set_option maxHeartbeats 4000000
namespace LR
open PySem PySem.Spec PyProof.Rows L2
/-! ## rules inside the block of a comprehension: K is that of the def -/
theorem ix_tupK {X : Cx} {K : PySem.W.Frag} (hk : X.K = K) : IxR X (rIxT K) := hk ▸ ix_tup
/-! ## operators of an own class: == by __eq__, + by __add__ -/
end LR
set_option Elab.async false
set_option maxRecDepth 100000
set_option linter.all false
set_option maxHeartbeats 4000000
/-! t[::-1] of a tuple: always a new one -/
set_option Elab.async false
set_option maxRecDepth 100000
set_option linter.all false
set_option maxHeartbeats 4000000
/-! pieces, flips, sums of ladders -/
namespace LR
open PySem PySem.Spec PyProof.Rows L2
/-- what lies ahead of the pieces behind P, and behind those ahead of S -/
def pre (h : Int) (P : List (List Int)) : List Int := P.flatMap fun q => q ++ [h]
theorem get_split {α : Type} {l : List α} {k : Nat} {a : α} (h : l[k]? = some a) : l = l.take k ++ a :: l.drop (k + 1) := by
  obtain ⟨hk, e⟩ := List.getElem?_eq_some_iff.mp h
  rw [← e, List.getElem_cons_drop, List.take_append_drop]
/-- the length of the pieces ahead of place k, with the levels behind each of them -/
def off (h : Int) (ps : List (List Int)) (k : Nat) : Nat := (pre h (ps.take k)).length
theorem gapI_of {ls : List Int} {u w g : Int} (hb : ∀ l ∈ ls, 1 ≤ l) (hu : 0 ≤ u) (hw : 0 ≤ w) (h : IsGap ls (min u.toNat w.toNat) (max u.toNat w.toNat) g) : gapI ls u w = g := (isGap_gapI hb hu hw).one h
/-- places a to b of the row -/
def cut (ls : List Int) (a b : Nat) : List Int := (ls.drop a).take (b - a)
/-- lists of tuples in the heap -/
def PartsAt (H : Hp) (a : Addr) (ps : List (List Int)) : Prop := ∃ ts : List Addr, H a = some (.lst (ts.map V.ref)) ∧ ts.length = ps.length ∧ ∀ (k : Nat) (t : Addr) (p : List Int), ts[k]? = some t → ps[k]? = some p → H t = some (.tup (p.map V.int))
theorem PartsAt.same {H H' a ps} (s : Same H H') (h : PartsAt H a ps) : PartsAt H' a ps := by
  obtain ⟨ts, h1, h2, h3⟩ := h
  exact ⟨ts, s _ _ h1, h2, fun k t p e1 e2 => s _ _ (h3 k t p e1 e2)⟩
theorem PartsAt.keep {H H' a ps q} (s : Keep q H H') (hq : ∃ l, H q = some (.lst l)) (n : a ≠ q) (h : PartsAt H a ps) : PartsAt H' a ps := by
  obtain ⟨ts, h1, h2, h3⟩ := h
  obtain ⟨l, hq⟩ := hq
  exact ⟨ts, s _ n _ h1, h2, fun k t p e1 e2 => s _ (ne_of (h3 k t p e1 e2) hq (by intro z; cases z)) _ (h3 k t p e1 e2)⟩
theorem PartsAt.push {H D ps q p} (h : PartsAt H D ps) (hq : H q = some (.tup (p.map V.int))) : ∃ xs, H D = some (.lst xs) ∧ xs.length = ps.length ∧ PartsAt (upd H D (.lst (xs ++ [.ref q]))) D (ps ++ [p]) := by
  obtain ⟨ts, h1, h2, h3⟩ := h
  refine ⟨_, h1, by rw [List.length_map, h2], ts ++ [q], by rw [upd_same, List.map_append]; rfl, by rw [List.length_append, List.length_append, h2]; rfl, fun k t r e1 e2 => ?_⟩
  have key : H t = some (.tup (r.map V.int)) := by
    by_cases c : k < ts.length
    · rw [List.getElem?_append_left c] at e1
      rw [List.getElem?_append_left (by omega)] at e2
      exact h3 k t r e1 e2
    · rw [List.getElem?_append_right (by omega)] at e1
      rw [List.getElem?_append_right (by omega)] at e2
      have : k = ts.length := by
        have := (List.getElem?_eq_some_iff.mp e1).1
        simp at this; omega
      subst this
      rw [Nat.sub_self] at e1
      rw [h2, Nat.sub_self] at e2
      cases e1; cases e2
      exact hq
  rw [upd_ne (ne_of key h1 (by intro z; cases z))]
  exact key
def tupD (p : List Int) : Dt := .tup (p.map Dt.int)
theorem ats_of {H : Hp} : ∀ {ts : List Addr} {ps : List (List Int)}, ts.length = ps.length → (∀ p ∈ ps, p.length ≤ 100000) → (∀ (k : Nat) (t : Addr) (p : List Int), ts[k]? = some t → ps[k]? = some p → H t = some (.tup (p.map V.int))) → Ats H (ts.map V.ref) (ps.map tupD)
  | [], [], _, _, _ => .nil
  | t :: ts, p :: ps, hl, hz, h => .cons (.tup (h 0 t p rfl rfl) (ats_ints H p) (by rw [List.length_map]; exact hz p List.mem_cons_self)) (ats_of (by simpa using hl) (fun q hq => hz q (List.mem_cons_of_mem _ hq)) fun k t' p' e1 e2 => h (k + 1) t' p' (by simpa using e1) (by simpa using e2))
  | [], _ :: _, hl, _, _ => by simp at hl
  | _ :: _, [], hl, _, _ => by simp at hl
theorem PartsAt.at {H a ps} (h : PartsAt H a ps) (hz : ps.length ≤ 100000) (hp : ∀ p ∈ ps, p.length ≤ 100000) : At H (.ref a) (.lst (ps.map tupD)) := by
  obtain ⟨ts, h1, h2, h3⟩ := h
  exact .lst h1 (ats_of h2 hp h3) (by rw [List.length_map, h2]; exact hz)
theorem PartsAt.get {H a ps} (h : PartsAt H a ps) {k : Nat} {p : List Int} (e : ps[k]? = some p) : ∃ t xs, H a = some (.lst xs) ∧ xs.length = ps.length ∧ xs[k]? = some (.ref t) ∧ H t = some (.tup (p.map V.int)) := by
  obtain ⟨ts, h1, h2, h3⟩ := h
  have hk : k < ts.length := by rw [h2]; exact (List.getElem?_eq_some_iff.mp e).1
  exact ⟨ts[k], _, h1, by rw [List.length_map, h2], by rw [List.getElem?_map, List.getElem?_eq_getElem hk]; rfl, h3 k _ p (List.getElem?_eq_getElem hk) e⟩
theorem PartsAt.len {H a ps} (h : PartsAt H a ps) : ∃ xs, H a = some (.lst xs) ∧ xs.length = ps.length := by
  obtain ⟨ts, h1, h2, _⟩ := h
  exact ⟨_, h1, by rw [List.length_map, h2]⟩
end LR
set_option Elab.async false
set_option maxRecDepth 100000
set_option linter.all false
set_option maxHeartbeats 4000000
/-! sets of tuples of ints: asked, added to, made empty; sorted of a tuple of such -/
namespace LR
open PySem PySem.Spec PyProof.Rows L2
theorem nth_dum (m : Nat) : ∀ (n : Nat) (p : SetTable.Probe), p.dummy = none → (nth m p n).dummy = none
  | 0, _, h => h
  | n + 1, p, h => nth_dum m n _ (by unfold adv; split <;> exact h)
section
variable {P : Program} {w : World} {A : Around} {E : Value → Shared → Prop} {s : Shared} {a : Addr} {L : List (Addr × List Int)} {es : Array (Int × Value)} {ep : Nat} {t : SetTable}
/-- the search that adds nothing, from the c-th place of the way on -/
theorem seek (R : SetTR P w s.heap a L es ep t) {x : Addr} {k : List Int} (hx : IsT P w s.heap k x) (hu : A.units < cLine) {K : Nat} {p0 : SetTable.Probe} (start : t.probeStart (thash P w k) = p0) (d0 : p0.dummy = none)
    (lim : K < 10 * SetTable.turns t.mask) (stop : (nth t.mask p0 K).j ∉ t.place.toList) (full : ∀ c, c < K → (nth t.mask p0 c).j ∈ t.place.toList) {Q : SetFound → Shared → Prop}
    (yes : k ∈ L.map (·.2) → ∀ i, Q (.there (some i)) s) (no : k ∉ L.map (·.2) → ∀ j, Q (.free j false) s) :
    ∀ (f c : Nat) (st : Option SetTable.Probe), st.getD p0 = nth t.mask p0 c → c ≤ K → K - c < f →
      (∀ (i : Nat) q, L[i]? = some q → q.2 = k → ∃ d, c ≤ d ∧ d < K ∧ t.place.toList[i]? = some (nth t.mask p0 d).j) →
      wpAny (model P w) A (setSearchFrom a (.ref x) (thash P w k) false f st) Q E s := by
  intro f
  induction f with
  | zero => intro c st _ _ z _; omega
  | succ f ih =>
    intro c st hst cK lt left
    obtain ⟨ob, hob, _, dob⟩ := R.ob
    have to : ∀ q, nth t.mask (nth t.mask p0 c) q = nth t.mask p0 (c + q) := fun q => (nth_add t.mask c p0 q).symm
    have hashOf : ∀ (i : Nat) q, L[i]? = some q → (es[i]?.map (·.1)).getD 0 = thash P w q.2 := fun i q e => by rw [R.entry e]; rfl
    have gs := go_spec t R.tab.ris R.tab.dm (fun i => (es[i]?.map (·.1)).getD 0) (thash P w k) (10 * SetTable.turns t.mask) (K - c) (nth t.mask p0 c) (nth_dum _ _ _ d0) (by omega)
      (fun q hq => by rw [to]; exact full _ (by omega)) (by rw [to, Nat.add_sub_cancel' cK]; exact stop)
    rw [setSearchFrom_succ]
    refine wpAny_bind (wpAny_setState_of hob dob R.fits ?_)
    show wpAny _ _ (if t.gaveWay = true then _ else _) _ _ _
    refine wp_if_neg R.gw ?_
    simp only [start, hst]
    rcases gs with ⟨q, i, q1, pi, hi, before, pr⟩ | ⟨before, pr⟩
    · rw [show t.probe (fun i => (es[i]?.map (·.1)).getD 0) (thash P w k) (nth t.mask p0 c) = _ from pr]
      rw [to] at pi
      have il : i < L.length := by
        have z1 := (List.getElem?_eq_some_iff.mp pi).1
        have z2 := R.tab.sz
        rw [List.length_map] at z2
        rw [Array.length_toList] at z1
        omega
      obtain ⟨e, he⟩ : ∃ e, L[i]? = some e := ⟨_, List.getElem?_eq_getElem il⟩
      have em := List.mem_of_getElem? he
      have main : wpAny (model P w) A (searchRest a (.ref x) (thash P w k) false f es t (nth t.mask p0 (c + q)).j i (nth t.mask p0 (c + (q + 1)))) Q E s := by
        unfold searchRest
        rw [R.entry he]
        refine wpAny_bind (wpAny_holding (wpAny_eqBool_tuple hu (R.tup e em) hx ?_))
        refine wpAny_bind (wpAny_setState_of hob dob R.fits ?_)
        refine wp_if_neg (by simp) ?_
        refine wpAny_bind (wpAny_pure ?_)
        rw [sameMem]
        have live : t.slot (nth t.mask p0 (c + q)).j = .live i := slot_live R.tab.ris pi
        simp only [if_true, live, R.entry he]
        refine wpAny_bind (wpAny_isSame_ref_self (wpAny_bind (wpAny_pure ?_)))
        simp only [if_true]
        by_cases same : e.2 = k
        · exact wp_if_pos (by simp [same]) (wpAny_pure (yes (List.mem_map.mpr ⟨e, em, same⟩) i))
        · refine wp_if_neg (by simp [same]) (ih (c + (q + 1)) _ rfl (by omega) (by omega) fun i' e' h1 h2 => ?_)
          obtain ⟨d, d1, d2, d3⟩ := left i' e' h1 h2
          refine ⟨d, ?_, d2, d3⟩
          apply Classical.byContradiction
          intro small
          by_cases at_ : d = c + q
          · have s1 := slot_live R.tab.ris d3
            rw [at_, live] at s1
            cases s1
            rw [he] at h1; cases h1
            exact same h2
          · refine before (d - c) i' (by omega) (by rw [to, Nat.add_sub_cancel' d1]; exact d3) ?_
            rw [hashOf i' e' h1, h2]
      rw [to, to]
      by_cases led : t.led = true
      · refine wp_if_neg (by rw [led]; decide) ?_
        exact wpAny_bind (wpAny_pure main)
      · refine wp_if_pos (by simpa using led) (wpAny_bind (seen_tup hx (fun y hy => ?_) (wp_if_neg (by decide) (wpAny_bind (wpAny_pure main)))))
        obtain ⟨v, hv, rfl⟩ := List.mem_map.mp hy
        have v2 : v ∈ es.toList := by
          simp at hv
          simpa using hv.1
        rw [R.rows] at v2
        obtain ⟨u, hu2, rfl⟩ := List.mem_map.mp v2
        exact ⟨u.2, u.1, rfl, R.tup u hu2⟩
    · rw [show t.probe (fun i => (es[i]?.map (·.1)).getD 0) (thash P w k) (nth t.mask p0 c) = _ from pr]
      refine wpAny_pure (no (fun hm => ?_) _)
      obtain ⟨e, em, ek⟩ := List.mem_map.mp hm
      obtain ⟨i, hi, ei⟩ := List.getElem_of_mem em
      have h1 : L[i]? = some e := by rw [List.getElem?_eq_getElem hi, ei]
      obtain ⟨d, d1, d2, d3⟩ := left i e h1 ek
      refine before (d - c) i (by omega) (by rw [to, Nat.add_sub_cancel' d1]; exact d3) ?_
      rw [hashOf i e h1, ek]
theorem find_t (R : SetTR P w s.heap a L es ep t) {x : Addr} {k : List Int} (hx : IsT P w s.heap k x) (hu : A.units < cLine) {Q : Option Nat → Shared → Prop}
    (yes : k ∈ L.map (·.2) → ∀ i, Q (some i) s) (no : k ∉ L.map (·.2) → Q none s) : wpAny (model P w) A (setFind a (.ref x) (thash P w k)) Q E s := by
  obtain ⟨ob, hob, _, dob⟩ := R.ob
  have room := R.room
  obtain ⟨K, lim, stop, full⟩ := R.tab.first (by rw [List.length_map]; omega) (thash P w k)
  have lim2 : K < 100000 := by
    have : SetTable.turns t.mask ≤ 142 := by
      unfold SetTable.turns
      rcases R.tab.mok with e | e | e <;> omega
    omega
  show wpAny (model P w) A (setFindIn a (.ref x) (thash P w k) (99999 + 1)) Q E s
  unfold setFindIn
  refine wpAny_bind (wpAny_setState_of hob dob R.fits (wp_if_neg (by simp [byScan, Value.scannable]) ?_))
  refine wpAny_bind ?_
  refine seek R hx hu (start_run t _) rfl lim stop full (fun m i => wpAny_pure (yes m i)) (fun m j => wpAny_pure (no m)) 100000 0 none rfl (Nat.zero_le _) (by omega) fun i q e ek => ?_
  have hi : (L.map fun p => thash P w p.2)[i]? = some (thash P w k) := by rw [List.getElem?_map, e, ← ek]; rfl
  have il : i < t.place.toList.length := by
    have z1 := (List.getElem?_eq_some_iff.mp e).1
    have z2 := R.tab.sz
    rw [List.length_map] at z2
    rw [Array.length_toList]; omega
  have pj := List.getElem?_eq_getElem il
  obtain ⟨d, d1, d2⟩ := R.tab.before stop hi pj
  exact ⟨d, Nat.zero_le _, d1, pj.trans (congrArg some d2.symm)⟩
end
section
variable {P : Program} {w : World} {A : Around} {E : Value → Shared → Prop} {s : Shared}
/-- the items of a list or a tuple, gathered -/
theorem gather {p : Addr} {T : String} {o : Obj} {vs : List Value} {n : Nat} {Q : List Value → Shared → Prop} (hT : T = "list" ∨ T = "tuple") (ho : s.heap.get? p = some o) (hc : o.cls = .type T) (hd : o.data = .seq vs.toArray n) (hz : vs.length ≤ sizeLine)
    (h : ∀ h', (∀ b u, s.heap.get? b = some u → h'.get? b = some u) → s.heap.objs.size ≤ h'.objs.size → Q vs { s with heap := h' }) : wpAny (model P w) A (collect (.ref p)) Q E s := by
  have new0 : (s.heap.push (seqObj "list" #[] 0)).get? s.heap.objs.size = some (seqObj "list" #[] 0) := Heap.get?_push_size _ rfl
  have old : (s.heap.push (seqObj "list" #[] 0)).get? p = some o := Heap.get?_push_of_some _ ho
  have keep : ∀ b u, s.heap.get? b = some u → ((s.heap.push (seqObj "list" #[] 0)).update s.heap.objs.size (Obj.mapSeq (· ++ vs.toArray))).get? b = some u := fun b u e =>
    (Heap.get?_update_other _ _ (Ne.symm (Nat.ne_of_lt (Heap.lt_size e)))).trans (Heap.get?_push_of_some _ e)
  unfold collect
  refine wpAny_bind (wpAny_runValue (codeAny_builtin entry_proto_collect' ?_))
  refine wpAny_bind (wpAny_newList (wpAny_pure ⟨Code.quiet_builtin _ (by decide +kernel), codeAny_builtin entry_list_iadd' ?_⟩))
  show wpAny (model P w) _ (Builtin.List.listExtendWith (.ref s.heap.objs.size) (.ref p) (.ref s.heap.objs.size)) _ _ { s with heap := s.heap.push (seqObj "list" #[] 0) }
  unfold Builtin.List.listExtendWith
  refine wpAny_bind (wpAny_typeOf (T := T) ⟨o, old, hc⟩ ?_)
  rw [if_pos (by rcases hT with rfl | rfl <;> simp)]
  refine wpAny_bind (listItems_at old hd (wpAny_bind (listItems_at (xs := #[]) (n := 0) new0 rfl ?_)))
  rw [if_neg (by simp)]
  refine wpAny_bind (listUpdate_at (xs := #[]) (n := 0) new0 rfl ?_ (Nat.zero_le _) (by show (#[] ++ vs.toArray).size ≤ sizeLine + 1; simp only [Array.size_append, List.size_toArray, List.length_nil]; omega))
  refine wpAny_pure (wpAny_bind (wpAny_load (get?_update_seq new0 _) ?_))
  show wpAny (model P w) _ (pure ((#[] : Array Value) ++ vs.toArray).toList) Q E _
  rw [show ((#[] : Array Value) ++ vs.toArray).toList = vs by simp]
  exact wpAny_pure (h _ keep (by rw [Heap.size_update, size_push']; omega))
/-- sorted(xs) of a list or a tuple of tuples of ints -/
theorem sorted_seq {p : Addr} {T : String} {o : Obj} {vs : List Value} {n d : Nat} {B : Int} {Q : Value → Shared → Prop} (hT : T = "list" ∨ T = "tuple") (ho : s.heap.get? p = some o) (hc : o.cls = .type T) (hd : o.data = .seq vs.toArray n) (h64 : vs.length < 64) (hd1 : 1 ≤ d) (x : TS.TupsOk s.heap d B vs)
    (h : ∀ h' q (out : Array Value) c, (∀ b u, s.heap.get? b = some u → h'.get? b = some u) → h'.get? q = some (seqObj "list" out c) → s.heap.objs.size ≤ q → out.toList.Perm vs → out.toList.Pairwise (fun u v => TS.code B (TS.intsOf s.heap u) ≤ TS.code B (TS.intsOf s.heap v)) → Q (.ref q) { s with heap := h' }) :
    wpAny (model P w) A (call (.builtin "sorted") [.ref p]) Q E s := by
  refine Calls.call_function_entry kind_sorted plain_sorted entry_sorted (args_sorted1 _) ?_
  unfold Builtin.«sorted»
  refine wpAny_bind (m := checkCount "sorted" 1 1 _) (wpAny_pure (wpAny_bind (gather hT ho hc hd (by rw [sizeLine_eq]; omega) fun h1 k1 z1 => wpAny_bind (wpAny_newList ?_ (by rw [sizeLine_eq]; omega)))))
  have at1 : (h1.push (seqObj "list" vs.toArray 0)).get? h1.objs.size = some (seqObj "list" vs.toArray 0) := Heap.get?_push_size _ rfl
  have k2 : ∀ b u, s.heap.get? b = some u → (h1.push (seqObj "list" vs.toArray 0)).get? b = some u := fun b u e => Heap.get?_push_of_some _ (k1 b u e)
  have x2 : TS.TupsOk (h1.push (seqObj "list" vs.toArray 0)) d B vs := x.keeps fun b u e _ => k2 b u e
  refine wpAny_bind (wpAny_holding (TS.call_sort_tups (s := { s with heap := h1.push (seqObj "list" vs.toArray 0) }) at1 h64 hd1 x2 fun out o1 o2 => ?_))
  obtain ⟨c, hcq⟩ := sortedHeap_at (vs := vs) (out := out) at1
  refine wpAny_pure ⟨_, rfl, h _ h1.objs.size out c (fun b u e => ?_) hcq z1 o1 ?_⟩
  · have lt := Heap.lt_size (k1 b u e)
    rw [sortedHeap_old (Nat.ne_of_lt lt) (by rw [size_push']; exact Nat.lt_succ_of_lt lt)]
    exact k2 b u e
  · refine List.Pairwise.imp_of_mem (fun {u v} mu mv le => ?_) o2
    have same : ∀ v ∈ out.toList, TS.intsOf (h1.push (seqObj "list" vs.toArray 0)) v = TS.intsOf s.heap v := fun v mv => by
      obtain ⟨ns, tn, _⟩ := x v (o1.mem_iff.mp mv)
      rw [tn.ints, (tn.keeps fun b u e _ => k2 b u e).ints]
    rw [← same u mu, ← same v mv]
    exact le
end
section
variable {X : Cx}
/-- set() that will hold tuples of ints -/
def rSet0T (P : Program) (w : World) : List V → Hp → VK → Prop := fun xs H Q => xs = [] ∧ ∀ p, H p = none → Q (.ref p) (upd H p (SetTO P w p []))
theorem cr_set0T : CallR X (.type "set") (rSet0T X.prog X.w) := by
  intro pins s σ H xs us Q I r h
  obtain ⟨rfl, q⟩ := h
  cases r
  refine setR_new fun _ => ?_
  exact ⟨.ref _, _, I.laid (t' := s.toks) (fun b u e => Heap.get?_push_of_some _ e) (Nat.le_refl _) (setTO_new (setTR_fresh (w := X.w) (P := X.prog) (Heap.get?_push_size _ rfl)).t0), rfl, q _ (I.hok.fresh (Nat.le_refl _))⟩
theorem setT_full {pins : List (Addr × Obj)} {σ : L2.St} {H : Hp} {s : Shared} (I : Inv X pins σ H s) {a : Addr} {L : List (Addr × List Int)} (ha : H a = some (SetTO X.prog X.w a L)) (hL : ∀ p ∈ L, SqT X.K H p.1 (p.2.map V.int)) : ∃ es ep t, SetTR X.prog X.w s.heap a L es ep t :=
  SetT0.full (I.hok a _ ha).1 fun p m => I.isT (hL p m)
/-- x in a, x a tuple of ints, a a set of such -/
def rInT (K : PySem.W.Frag) (P : Program) (w : World) : R2 := fun x y H Q => ∃ (b a : Addr) (k : List Int) (L : List (Addr × List Int)), x = V.ref b ∧ y = V.ref a ∧ SqT K H b (k.map V.int) ∧ H a = some (SetTO P w a L) ∧ (∀ p ∈ L, SqT K H p.1 (p.2.map V.int)) ∧ Q (.bl (decide (k ∈ L.map (·.2)))) H
theorem or_inT (hu : X.A.units + 64 < cLine) : OpR X (compareOp .In) (rInT X.K X.prog X.w) := by
  intro pins s σ H x y v u Q I rx ry h
  obtain ⟨b, a, k, L, rfl, rfl, hb, ha, hL, q⟩ := h
  cases rx
  cases ry
  obtain ⟨es, ep, t, R⟩ := setT_full I ha hL
  obtain ⟨ob, hob, hex, hd⟩ := R.ob
  have isSet : s.TypeIs (.ref a) "set" := ⟨ob, hob, hex.1⟩
  show wpAny (model X.prog X.w) X.A (do return Value.bool (← contains (.ref a) (.ref b))) _ _ s
  refine wpAny_bind ?_
  unfold contains
  try with_reducible refine wpAny_holding ?_
  refine wpAny_bind (wpAny_specialOf isSet F.slot_set_contains.lookup ?_)
  show wpAny _ _ (if (some (Value.builtin "set.__contains__") == some Value.none) = true then _ else _) _ _ s
  rw [if_neg (by rw [beq_builtin_none]; exact Bool.false_ne_true)]
  refine wpAny_bind (wpAny_callSpecialUnlessNone?_slot (name := Str.ofString "__contains__") isSet F.slot_set_contains (wpAny_call_entry F.slot_set_contains isSet entry_set_contains ?_ (F.args_set_contains_2 _ _)))
  unfold Builtin.«frozenset.__contains__» Builtin.Frozenset.oneOther
  simp only [List.isEmpty_nil, bind_assoc]
  unfold Builtin.Frozenset.addrOf Builtin.Frozenset.withSetAsKey setContains
  refine wpAny_bind (wpAny_pure (wpAny_bind (wpAny_pure (wpAny_bind (wpAny_tryCatch (wpAny_holding ?_))))))
  have small : X.A.in1.units < cLine := by show X.A.units + 1 < cLine; omega
  refine wpAny_bind (wpAny_pyHash_tuple small (I.isT hb) ?_)
  have R2 : SetTR X.prog X.w ({ s with toks := s.toks + (k.length + 1) } : Shared).heap a L es ep t := R
  have fin : ∀ r : Bool, r = decide (k ∈ L.map (·.2)) → EP X pins σ Q (Value.bool r) { s with toks := s.toks + (k.length + 1) } := fun r e => ⟨.bl r, H, I.tok _, rfl, by rw [e]; exact q⟩
  refine wpAny_bind (find_t R2 (I.isT hb) small (fun m i => wpAny_pure ?_) fun m => wpAny_pure ?_)
  · exact wpAny_pure ⟨_, rfl, wpAny_truthy_bool (wpAny_pure (fin true (decide_eq_true m).symm))⟩
  · exact wpAny_pure ⟨_, rfl, wpAny_truthy_bool (wpAny_pure (fin false (decide_eq_false m).symm))⟩
/-- a.add(x) -/
def rAddT (K : PySem.W.Frag) (P : Program) (w : World) : V → List V → Hp → VK → Prop := fun x xs H Q => ∃ (a b : Addr) (k : List Int) (L : List (Addr × List Int)), x = V.ref a ∧ xs = [V.ref b] ∧ SqT K H b (k.map V.int) ∧ H a = some (SetTO P w a L) ∧ (∀ p ∈ L, SqT K H p.1 (p.2.map V.int)) ∧ L.length + 1 < 64 ∧
  ∀ L', (k ∈ L.map (·.2) → L' = L) → (k ∉ L.map (·.2) → L'.Perm ((b, k) :: L)) → Q .non (upd H a (SetTO P w a L'))
theorem mt_addT (hu : X.A.units + 64 < cLine) : MtR X "set.add" (rAddT X.K X.prog X.w) := by
  intro pins s σ H x xs v us Q I rx rxs h
  obtain ⟨a, b, k, L, rfl, rfl, hb, ha, hL, few, q⟩ := h
  cases rx
  obtain rfl := Vals.ref1 rxs
  obtain ⟨es, ep, t, R⟩ := setT_full I ha hL
  obtain ⟨ob, hob, hex, hd⟩ := R.ob
  refine wpAny_call_entry F.slot_set_add ⟨ob, hob, hex.1⟩ F.entry_set_add ?_ (F.args_set_add_2 _ _)
  unfold Builtin.«set.add» Builtin.Frozenset.oneOther
  simp only [List.isEmpty_nil, bind_assoc]
  unfold Builtin.Frozenset.addrOf setAdd
  have small : X.A.in1.units < cLine := by show X.A.units + 1 < cLine; omega
  refine wpAny_bind (wpAny_pure (wpAny_bind (wpAny_pure (wpAny_bind (wpAny_holding (wpAny_bind (wpAny_pyHash_tuple small (I.isT hb) ?_)))))))
  refine add_at (s := { s with toks := s.toks + (k.length + 1) }) R (I.isT hb) small few fun r h' L' es' ep' t' sb R' e1 e2 => ?_
  have he : ∃ u, h'.get? a = some u := by
    obtain ⟨o, ho, _⟩ := R'.ob
    exact ⟨o, ho⟩
  exact wpAny_pure ⟨_, rfl, .non, _, I.write (e := a) (t' := s.toks + (k.length + 1)) (by rw [ha]; trivial) (.inl rfl) (fun b u hb hu => (sb.2 b hb).trans hu) he (setTO_new R'.t0), rfl, q L' e1 e2⟩
/-- sorted(xs), xs a list or a tuple of tuples of ints -/
def rSortQ (K : PySem.W.Frag) (d : Nat) (B : Int) : List V → Hp → VK → Prop := fun vs H Q => ∃ (a : Addr) (xs : List V), vs = [V.ref a] ∧ (SqL K H a xs ∨ SqT K H a xs) ∧ xs.length < 64 ∧ (∀ x ∈ xs, ∃ ns, TupI K H x ns ∧ ns.length = d ∧ TS.Bd B ns) ∧
  ∀ (ys : List V) (p : Addr), ys.Perm xs → ys.Pairwise (fun x y => ∀ n m, TupI K H x n → TupI K H y m → TS.code B n ≤ TS.code B m) → H p = none → Q (.ref p) (upd H p (.lst ys))
theorem cr_sortQ {d : Nat} {B : Int} (hd : 1 ≤ d) : CallR X (.builtin "sorted") (rSortQ X.K d B) := by
  intro pins s σ H vs us Q I r h
  obtain ⟨a, xs, rfl, hs, h64, hx, q⟩ := h
  obtain rfl := Vals.ref1 r
  have main : ∀ (its : List Value) (T : String) (o : Obj) (n : Nat), Vals xs its → xs.length ≤ sizeLine → (T = "list" ∨ T = "tuple") → s.heap.get? a = some o → o.cls = .type T → o.data = .seq its.toArray n → wpAny (model X.prog X.w) X.A (call (.builtin "sorted") [.ref a]) (EP X pins σ Q) X.xe s := by
    intro its T o n rv hz hT ho hc hdt
    obtain ⟨e1, e2⟩ := bkV_refs rv fun x m => by
      obtain ⟨ns, ⟨t, e, _⟩, _⟩ := hx x m
      exact ⟨t, e⟩
    refine sorted_seq (d := d) (B := B) hT ho hc hdt (by rw [← rv.length]; exact h64) hd (fun v hv => ?_) fun h' p out c keep at_ big o1 o2 => ?_
    · obtain ⟨t, rfl⟩ := e2 v hv
      obtain ⟨ns, ⟨t', e, ht⟩, hn, hb⟩ := hx (V.ref t) (by rw [e1]; exact List.mem_map.mpr ⟨_, hv, rfl⟩)
      cases e
      exact ⟨ns, tupI_raw I ht, hn, hb⟩
    · have o3 : ∀ u ∈ out.toList, ∃ a, u = Value.ref a := fun u hu => e2 u (o1.mem_iff.mp hu)
      have perm : (out.toList.map bkV).Perm xs := by rw [e1]; exact o1.map bkV
      have fresh : H p = none := I.hok.fresh big
      refine ⟨.ref p, upd H p (.lst (out.toList.map bkV)), I.laid (t' := s.toks) keep big ⟨by rw [perm.length_eq]; exact hz, out.toList, c, bkV_vals o3, at_⟩, rfl, q _ _ perm ?_ fresh⟩
      rw [List.pairwise_map]
      refine List.Pairwise.imp (fun {u v} le n m hn hm => ?_) o2
      obtain ⟨t1, q1, w1⟩ := hn
      obtain ⟨t2, q2, w2⟩ := hm
      rw [bkV_ref q1, bkV_ref q2, (tupI_raw I w1).ints, (tupI_raw I w2).ints] at le
      exact le
  rcases hs with hs | hs
  · obtain ⟨its, rv, pl, hz⟩ := I.list hs
    obtain ⟨o, ho, hc, n, hdt⟩ := pl.isList
    exact main its "list" o n rv hz (.inl rfl) ho hc hdt
  · obtain ⟨its, rv, pl, hz⟩ := I.tuple hs
    obtain ⟨o, ho, hc, n, hdt⟩ := pl
    exact main its "tuple" o n rv hz (.inr rfl) ho hc hdt
def tAddT (K : PySem.W.Frag) (P : Program) (w : World) (to : TE) (t : TA) : TE := fun σ H Q => to σ H fun x H1 => (∃ a L, x = V.ref a ∧ H1 a = some (SetTO P w a L)) ∧ t σ H1 fun xs H2 => rAddT K P w x xs H2 Q
theorem pe_addT {o e : Expr} {es : List Expr} {to : TE} {t : TA} {apos cpos : Pos} (hu : X.A.units + 64 < cLine) (ho : PE X o to) (ha : PA X (e :: es) t) (base : attributeBase o "add" X.env (eval o X.env) = eval o X.env := by rfl)
    (few : ((backTo cpos (starEach (e :: es) X.env)).all (fun x => !x.1) && (backToKw cpos (keywordEach [] X.env)).all (fun x => x.1.isSome) && decide ((e :: es).length + ([] : List Keyword).length + (if ([] : List Keyword).isEmpty then 0 else 1) < 30)) = true := by rfl)
    (line : (apos.endLine == cpos.line) = true := by rfl) (star : starEach (e :: es) X.env = (false, eval e X.env) :: starEach es X.env := by rfl) (plain : (backTo cpos (starEach es X.env)).any (·.1) = false := by rfl) :
    PE X (.Call (.Attribute o "add" apos) (e :: es) [] cpos) (tAddT X.K X.prog X.w to t) := by
  refine ⟨fun pins s σ H Q I h => wpAny_Call_method_late base few line rfl (thn (ho.run pins s σ H _ I h) fun v s1 ⟨x, H1, I1, r1, ⟨a, L, ex, hL⟩, q1⟩ => ?_)⟩
  subst ex
  cases r1
  have S0 : SetT0 X.prog X.w s1.heap a L := (I1.hok a _ hL).1
  obtain ⟨_, _, _, ⟨ob, hob, hex, hd⟩, _⟩ := S0.ex
  refine ⟨"set", "set.add", F.plainAttrs_set, F.slot_set_add, F.type_set_add, ⟨ob, hob, hex.1⟩, (fun b e => by injection e with e; subst e; exact ⟨ob, hob, hex.2.1⟩), ?_⟩
  have args := ha.run cpos pins s1 σ H1 _ I1 q1
  rw [star] at args ⊢
  refine Calls.callWith_builtin (by show (false || (backTo cpos (starEach es X.env)).any (·.1)) = false; rw [plain]; rfl) (Calls.evalArgs_plain (thn args fun us s2 ⟨vs, H2, I2, r2, q2⟩ => ?_))
  exact mt_addT hu pins s2 σ H2 (.ref a) vs (.ref a) us Q I2 rfl r2 q2
end
end LR
set_option Elab.async false
set_option maxRecDepth 100000
set_option linter.all false
set_option maxHeartbeats 4000000
/-! webs: edges as rows of three ints -/
namespace LR
open PySem PySem.Spec PyProof.Rows L2
theorem Room.u65 {k : Nat} {A : Around} (r : Room k A) : A.units + 65 < cLine := by have := r.un; omega
theorem b_sorted : bootBuiltins "sorted" = some (.builtin "sorted") := by decide +kernel
theorem b_set : bootBuiltins "set" = some (.type "set") := by decide +kernel
/-- an edge in range -/
def EdgeOk (h n : Int) (e : List Int) : Prop := ∃ s r t, e = [s, r, t] ∧ (0 ≤ s ∧ s < n) ∧ (0 ≤ r ∧ r ≤ 2 * h) ∧ (0 ≤ t ∧ t < n)
/-- the order of edges -/
def elt (e f : List Int) : Prop := ∃ s r t s' r' t', e = [s, r, t] ∧ f = [s', r', t'] ∧ (s < s' ∨ (s = s' ∧ (r < r' ∨ (r = r' ∧ t < t'))))
theorem code3 (s r t : Int) : TS.code 64 [s, r, t] = s * 4096 + (r * 64 + t) := by
  show s * 64 ^ 2 + (r * 64 ^ 1 + (t * 64 ^ 0 + 0)) = _
  rw [show (64 : Int) ^ 2 = 4096 by decide, show (64 : Int) ^ 1 = 64 by decide, show (64 : Int) ^ 0 = 1 by decide]
  omega
theorem elt_code {h n : Int} {e f : List Int} (hh : h ≤ 3) (hn : n ≤ 9) (a : EdgeOk h n e) (b : EdgeOk h n f) (le : TS.code 64 e ≤ TS.code 64 f) (ne : e ≠ f) : elt e f := by
  obtain ⟨s, r, t, rfl, hs, hr, ht⟩ := a
  obtain ⟨s', r', t', rfl, hs', hr', ht'⟩ := b
  rw [code3, code3] at le
  refine ⟨s, r, t, s', r', t', rfl, rfl, ?_⟩
  by_cases c1 : s < s'
  · exact .inl c1
  have c2 : s = s' := by omega
  refine .inr ⟨c2, ?_⟩
  by_cases c3 : r < r'
  · exact .inl c3
  have c4 : r = r' := by omega
  refine .inr ⟨c4, ?_⟩
  by_cases c5 : t < t'
  · exact c5
  have c6 : t = t' := by omega
  subst c2 c4 c6
  exact absurd rfl ne
theorem edge_bd {h n : Int} {e : List Int} (hh : h ≤ 3) (hn : n ≤ 9) (a : EdgeOk h n e) : e.length = 3 ∧ TS.Bd 64 e := by
  obtain ⟨s, r, t, rfl, hs, hr, ht⟩ := a
  refine ⟨rfl, fun m hm => ?_⟩
  rcases List.mem_cons.mp hm with q | hm
  · subst q; omega
  rcases List.mem_cons.mp hm with q | hm
  · subst q; omega
  rcases List.mem_cons.mp hm with q | hm
  · subst q; omega
  cases hm
/-- at these addresses lie these tuples -/
def RowsH (H : Hp) (ts : List Addr) (es : List (List Int)) : Prop := ts.length = es.length ∧ ∀ (k : Nat) (t : Addr) (e : List Int), ts[k]? = some t → es[k]? = some e → H t = some (.tup (e.map V.int))
theorem RowsH.same {H H' ts es} (s : Same H H') (h : RowsH H ts es) : RowsH H' ts es := ⟨h.1, fun k t e a b => s _ _ (h.2 k t e a b)⟩
theorem RowsH.keep {H H' ts es q} (s : Keep q H H') (hq : ∃ l, H q = some (.lst l)) (h : RowsH H ts es) : RowsH H' ts es := by
  obtain ⟨l, hq⟩ := hq
  exact ⟨h.1, fun k t e a b => s _ (ne_of (h.2 k t e a b) hq (by intro z; cases z)) _ (h.2 k t e a b)⟩
theorem RowsH.nil {H : Hp} : RowsH H [] [] := ⟨rfl, fun k t e a _ => by simp at a⟩
theorem RowsH.snoc {H ts es t e} (h : RowsH H ts es) (ht : H t = some (.tup (e.map V.int))) : RowsH H (ts ++ [t]) (es ++ [e]) := by
  refine ⟨by rw [List.length_append, List.length_append, h.1]; rfl, fun k t' e' a b => ?_⟩
  by_cases c : k < ts.length
  · rw [List.getElem?_append_left c] at a
    rw [List.getElem?_append_left (by have := h.1; omega)] at b
    exact h.2 k t' e' a b
  · rw [List.getElem?_append_right (by omega)] at a
    rw [List.getElem?_append_right (by have := h.1; omega), ← h.1] at b
    have : k = ts.length := by
      have := (List.getElem?_eq_some_iff.mp a).1
      simp at this; omega
    subst this
    rw [Nat.sub_self] at a b
    cases a; cases b
    exact ht
theorem RowsH.get {H ts es} (h : RowsH H ts es) {k : Nat} {e : List Int} (a : es[k]? = some e) : ∃ t, ts[k]? = some t ∧ H t = some (.tup (e.map V.int)) := by
  have hk : k < ts.length := by rw [h.1]; exact (List.getElem?_eq_some_iff.mp a).1
  exact ⟨_, List.getElem?_eq_getElem hk, h.2 k _ e (List.getElem?_eq_getElem hk) a⟩
theorem RowsH.getT {H ts es} (h : RowsH H ts es) {k : Nat} {t : Addr} (a : ts[k]? = some t) : ∃ e, es[k]? = some e ∧ H t = some (.tup (e.map V.int)) := by
  have hk : k < es.length := by rw [← h.1]; exact (List.getElem?_eq_some_iff.mp a).1
  exact ⟨_, List.getElem?_eq_getElem hk, h.2 k t _ a (List.getElem?_eq_getElem hk)⟩
def unI : V → Int
  | .int i => i
  | _ => 0
def unR : V → Addr
  | .ref a => a
  | _ => 0
def rowH (H : Hp) (t : Addr) : List Int := match H t with
  | some (.tup xs) => xs.map unI
  | _ => []
theorem rowH_of {H : Hp} {t : Addr} {e : List Int} (h : H t = some (.tup (e.map V.int))) : rowH H t = e := by
  unfold rowH
  rw [h]
  show (e.map V.int).map unI = e
  rw [List.map_map]
  exact List.map_id' e
theorem RowsH.rows {H ts es} (h : RowsH H ts es) : es = ts.map (rowH H) := by
  apply List.ext_getElem?
  intro k
  rw [List.getElem?_map]
  cases a : ts[k]? with
  | none =>
    have : ts.length ≤ k := List.getElem?_eq_none_iff.mp a
    rw [h.1] at this
    rw [List.getElem?_eq_none_iff.mpr this]; rfl
  | some t =>
    obtain ⟨e, b, c⟩ := h.getT a
    rw [b]
    show some e = some (rowH H t)
    rw [rowH_of c]
theorem RowsH.of {H ts es} (h : RowsH H ts es) {us : List Addr} (hu : ∀ u ∈ us, u ∈ ts) : RowsH H us (us.map (rowH H)) := by
  refine ⟨by rw [List.length_map], fun k t e a b => ?_⟩
  rw [List.getElem?_map, a] at b
  cases b
  have hm := hu t (List.mem_of_getElem? a)
  obtain ⟨j, hj⟩ := List.mem_iff_getElem?.mp hm
  obtain ⟨e, _, c⟩ := h.getT hj
  rw [rowH_of c]; exact c
/-- what sorted leaves: the same addresses in another order -/
theorem RowsH.perm {H ts es} (h : RowsH H ts es) {ys : List V} (p : ys.Perm (ts.map V.ref)) : ∃ us, ys = us.map V.ref ∧ us.Perm ts ∧ RowsH H us (us.map (rowH H)) ∧ (us.map (rowH H)).Perm es := by
  have e1 : (ts.map V.ref).map unR = ts := by rw [List.map_map]; exact List.map_id' ts
  have p1 : (ys.map unR).Perm ts := by have := p.map unR; rwa [e1] at this
  have e2 : ys = (ys.map unR).map V.ref := by
    rw [List.map_map]
    refine (List.map_congr_left (fun y hy => ?_)).trans (List.map_id' ys) |>.symm
    obtain ⟨t, _, rfl⟩ := List.mem_map.mp (p.mem_iff.mp hy)
    rfl
  refine ⟨ys.map unR, e2, p1, h.of fun u hu => p1.mem_iff.mp hu, ?_⟩
  have := p1.map (rowH H)
  rwa [← h.rows] at this
/-- a web of height h, n nodes and these edges stands at x; ss: its edges in order -/
def WebAt (C : Addr) (H : Hp) (x : Addr) (h n : Int) (ss : List (List Int)) : Prop := ∃ dx te us, H x = some (.ins C dx [("height", .int h), ("size", .int n), ("edges", .ref te)]) ∧ H te = some (.tup (us.map V.ref)) ∧ RowsH H us ss
theorem WebAt.same {C H H' x h n ss} (s : Same H H') (a : WebAt C H x h n ss) : WebAt C H' x h n ss := by
  obtain ⟨dx, te, us, h1, h2, h3⟩ := a
  exact ⟨dx, te, us, s _ _ h1, s _ _ h2, h3.same s⟩
theorem WebAt.keep {C H H' x h n ss q} (s : Keep q H H') (hq : ∃ l, H q = some (.lst l)) (a : WebAt C H x h n ss) : WebAt C H' x h n ss := by
  obtain ⟨dx, te, us, h1, h2, h3⟩ := a
  obtain ⟨l, hl⟩ := id hq
  exact ⟨dx, te, us, s _ (ne_of h1 hl (by intro z; cases z)) _ h1, s _ (ne_of h2 hl (by intro z; cases z)) _ h2, h3.keep s hq⟩
theorem nodup_take {α : Type} {es : List α} (nd : es.Nodup) {i : Nat} {e : α} (h : es[i]? = some e) : e ∉ es.take i := by
  intro hm
  have := get_split h
  rw [this] at nd
  exact (List.nodup_append.mp nd).2.2 e hm e List.mem_cons_self rfl
theorem take_mem {α : Type} {es : List α} {i : Nat} {e k : α} (h : es[i]? = some e) : k ∈ es.take (i + 1) ↔ k = e ∨ k ∈ es.take i := by
  rw [List.take_succ, h]
  show k ∈ es.take i ++ [e] ↔ _
  rw [List.mem_append, List.mem_singleton]
  exact Or.comm
end LR
set_option Elab.async false
set_option maxRecDepth 100000
set_option linter.all false
set_option maxHeartbeats 4000000
/-! super().m(..) where a def of the program is meant -/
namespace LR
open PySem PySem.Spec PyProof.Rows L2
/-- the def that super().m means in the class at D, for an instance of the class at C -/
structure SupTo (P : Program) (w : World) (K : PySem.W.Frag) (mg : Str → Option Value) (base : Heap) (CX : CXT) (k : Nat) (C D : Addr) (m : Str) (sp : Sp) : Prop where
  ex : ∃ (f : Addr) (fd : FuncData) (ps : List Str), PySem.W.ks_superIn K C D m = some (some (.ref f)) ∧ PySem.W.typeIn K (.ref f) = some (.type "function") ∧ PySem.W.fnIn K f = true ∧ FnOk P w K mg base CX k f fd ps sp ∧ Binds K fd ps []
  sub : PySem.W.mroIn K C (.ref D) = some true
  at_ : (m == ("__class__" : Str)) = false
structure SupAt (K : PySem.W.Frag) (C D : Addr) (m qual name : Str) (st : Stmt) (ps : List Str) : Prop where
  ex : ∃ (f : Addr) (fd : FuncData), PySem.W.ks_superIn K C D m = some (some (.ref f)) ∧ PySem.W.typeIn K (.ref f) = some (.type "function") ∧ PySem.W.fnIn K f = true ∧ Fun K name qual st f fd ∧ Binds K fd ps []
  sub : PySem.W.mroIn K C (.ref D) = some true
  at_ : (m == ("__class__" : Str)) = false
def tSupM (C : Addr) (i : Nat) (sp : Sp) (E : XK) (ta : TA) : TE := fun σ H Q => ∃ (x dx : Addr) (fs : List (Str × V)), σ[i]? = some (some (.ref x)) ∧ H x = some (.ins C dx fs) ∧ ta σ H fun vs H1 => sp (.ref x :: vs) H1 Q E
section
variable {X : Cx} {body : List Stmt} {f cc cda D C : Addr} {fd : FuncData} {me m : Str} {p0 p1 pos apos : Pos} {i k j : Nat} {e : Expr} {es : List Expr} {ta : TA} {pl : Sem Bool} {sp : Sp} {CX : CXT} {E : XK}
theorem ne_supM (S : SupIn X.prog X.K X.mg f cc cda D fd me) (T : SupTo X.prog X.w X.K X.mg X.base CX k C D m sp) (hr : Room j X.A) (hk : k ≤ j) (hx : Passes CX X E) (ha : PA X (e :: es) ta)
    (hi : X.N[i]? = some me := by rfl) (hka : X.env.kindOf me = some .local := by rfl)
    (hks : X.env.kindOf "super" = some .globalImplicit := by rfl) (hkc : X.env.kindOf "__class__" = some .free := by rfl) (hfu : X.env.func = some f := by rfl) (hco : X.env.code = .ref cda := by rfl) (hcl : X.env.cells.lookup ("__class__" : Str) = some cc := by rfl)
    (hst : starEach (e :: es) X.env = (false, eval e X.env) :: starEach es X.env := by rfl) (hpl : (backTo pos (starEach es X.env)).any (·.1) = false := by rfl)
    (ht : eval (.Call (.Attribute (.Call (.Name "super" p0) [] [] p1) m apos) (e :: es) [] pos) X.env = (do
      let ov ← attributeBase (.Call (.Name "super" p0) [] [] p1) m X.env (eval (.Call (.Name "super" p0) [] [] p1) X.env)
      standAt apos.atName
      let (f, first) ← holding [ov] (getMethod ov m pl)
      callWith pos f first (backTo pos (starEach (e :: es) X.env)) []) := by rfl) :
    NE X body (.Call (.Attribute (.Call (.Name "super" p0) [] [] p1) m apos) (e :: es) [] pos) (tSupM C i sp E ta) := by
  refine ⟨fun pins s σ H Q I h => ?_⟩
  obtain ⟨x, dx, fs, hσ, hxI, q⟩ := h
  obtain ⟨g, fd2, ps2, sIn, sTy, sFn, F, sB⟩ := T.ex
  obtain ⟨mA, J0, _⟩ := ins_get I.hok hxI
  obtain ⟨od, J0, _⟩ := J0.look
  refine PySem.ks_wpAt_MethodCall (pl := pl) (super_base S I J0.at_ J0.cls (fun c z => ?_) T.sub hi hσ hka hks hkc hfu hco hcl T.at_ (fun so h' hso J k2 => ?_)) ht
  · have := J0.no
    unfold PySem.W.notCls at this
    rw [z] at this
    cases this
  have KX := J.kIn
  obtain ⟨mB, J1, _⟩ := ins_get J.hok hxI
  obtain ⟨od2, IA, _⟩ := J1.look
  cases hc : PySem.W.clsIn X.K C with
  | none => unfold PySem.W.ks_superIn at sIn; rw [hc] at sIn; cases sIn
  | some cd =>
    unfold PySem.W.ks_superIn at sIn
    rw [hc] at sIn
    obtain ⟨ofn, hofn, hcfn⟩ : ∃ ofn, h'.get? g = some ofn ∧ ofn.cls = .type "function" := by
      have t1 : (X.K.lookup g).map (·.cls) = some (.type "function") := sTy
      cases z : X.K.lookup g with
      | none => rw [z] at t1; cases t1
      | some ofn => rw [z] at t1; exact ⟨ofn, KX _ _ z, Option.some.inj t1⟩
    obtain ⟨hh, gg, d, t, os⟩ := s
    refine PySem.ks_wpAny_getMethod_super hso (PySem.W.looks_opaque KX S.any) (l₀ := cd.mro) (fun A Q E s k q => wpAny_bind ((PySem.W.looks_clsIn KX hc) A _ E s k (wpAny_pure q))) rfl KX sIn hofn hcfn (PySem.W.ks_ne KX IA hc) T.at_ ?_
    have J2 := pin_newA (t' := t + 1) J (fun b u z => Heap.get?_push_of_some (PySem.W.methodObj (.ref g) (.ref x)) z) (Nat.le_refl _) (Heap.get?_push_at rfl rfl) (fun v z => by cases z)
    have hq := ClX.pin_at J2
    have hL : h'.objs.size ≠ X.env.locals := (J2.pin (h'.objs.size, PySem.W.methodObj (.ref g) (.ref x)) (List.mem_append_right _ List.mem_cons_self)).2.2.1
    refine PySem.W.callWith_M (K := X.K) (h₀ := X.base) (first := []) I.ok.mod.kin (news_at hL (ClX.base_none J (Nat.le_refl _)) hq) List.mem_cons_self sFn (thn (ha.run pos _ _ σ H _ J2 q) fun us s3 ⟨vs, H1, I3, rv, q1⟩ => ⟨⟨ClX.pin_at I3, I3.kIn⟩, ?_⟩) hst hpl
    have z : wpAny (model X.prog X.w) X.A (call (.ref h'.objs.size) us) (EP X ((h'.objs.size, PySem.W.methodObj (.ref g) (.ref x)) :: (so, PySem.W.ks_superObj D x C) :: pins) σ Q) X.xe s3 :=
      wpAny_call (PySem.W.method_call (ClX.pin_at I3) (codeAny_mono (F.run X.A X.stack s3 H1 ⟨.ref x :: us, []⟩ (.ref x :: us) (.ref x :: vs) Q E (hr.mono hk) I3.env0 ?_ (.cons rfl rv) q1) fun r s' hq' => ?_))
    · refine thn z fun v s4 hh => ?_
      obtain ⟨y, H4, I4, ry, q4⟩ := hh
      exact ⟨y, H4, ClX.unpin (ClX.unpin I4), ry, q4⟩
    · have hl := F.len _ _ _ _ q1
      have rl : (Value.ref x :: us).length = ps2.length := by rw [← hl, List.length_cons, List.length_cons, rv.length]
      have b := sB s3 (.ref x :: us) I3.kIn (by rw [List.append_nil]; exact rl)
      rw [List.append_nil] at b
      exact b
    · cases r with
      | error e => exact hx _ σ _ _ e s' I3 hq'
      | ok fl =>
        cases fl with
        | ret u => exact I3.after hq'
        | next => exact hq'.elim
        | brk => exact hq'.elim
        | cont => exact hq'.elim
end
structure MakInC (P : Program) (K : PySem.W.Frag) (mg : Str → Option Value) (x : Str) (C : Addr) (qual : Str) (st : Stmt) (ps : List Str) : Prop where
  ini : ∃ (f cc cda : Addr) (fd : FuncData), SupIn P K mg f cc cda C fd "self" ∧ Mk K C f ∧ mg x = some (.ref C) ∧ Binds K fd ps [] ∧
    ∃ (oc : Value) (od an : Option Addr) (kV doc pm ct : Value) (osl : Array (Option Value)), fd = PySem.W.ksFn "__init__" qual (defArgs st) (defBody st) (defScope st) .none kV doc pm an (.ref cda) ct cc ∧ K.lookup f = some ⟨oc, od, .func fd, osl⟩ ∧ PySem.W.codeIn K (.ref cda) qual = true
structure MetInC (P : Program) (K : PySem.W.Frag) (mg : Str → Option Value) (C : Addr) (m qual : Str) (st : Stmt) (ps : List Str) : Prop where
  ini : ∃ (f cc cda : Addr) (fd : FuncData), SupIn P K mg f cc cda C fd "self" ∧ Meth K C m f ∧ Binds K fd ps [] ∧
    ∃ (oc : Value) (od an : Option Addr) (kV doc pm ct : Value) (osl : Array (Option Value)), fd = PySem.W.ksFn m qual (defArgs st) (defBody st) (defScope st) .none kV doc pm an (.ref cda) ct cc ∧ K.lookup f = some ⟨oc, od, .func fd, osl⟩ ∧ PySem.W.codeIn K (.ref cda) qual = true
section
variable {P : Program} {w : World} {K : PySem.W.Frag} {mg : Str → Option Value} {base : Heap}
theorem MakInC.mak {x qual : Str} {C : Addr} {st : Stmt} {N ps : List Str} {k : Nat} {sp : Sp} (D : MakInC P K mg x C qual st ps) (S : CScope N ps (defScope st)) (len : ∀ vs H Q E, sp vs H Q E → vs.length = ps.length)
    (hbody : ∀ (f cc cda : Addr) (fd : FuncData) (A : Around) (outer : List Env) (s : Shared) (H : Hp) (vs : List V) (Q : VK) (E : XK), SupIn P K mg f cc cda C fd "self" → Room k (A.deeper (PySem.W.ksEnv qual (defScope st) s.heap.objs.size f (.ref cda) cc)) → sp vs H Q E →
      ∃ t, NSs (cxC CX0 P w K mg base N qual (defScope st) f (.ref cda) cc A outer s H E) (defBody st) (defBody st) t ∧ t { nx := fun _ H' => Q .non H', rt := Q } (L2.start N vs) H) : Mak P w K mg base (k + 1) x C sp := by
  obtain ⟨f, cc, cda, fd, S1, M, hm, b, oc, od, an, kV, doc, pm, ct, osl, rfl, lk, hcd⟩ := D.ini
  obtain ⟨cl, cld, csl, hcell⟩ := S1.cell
  exact ⟨f, _, ps, M, fn_ofC lk hcell hcd S len (fun A outer s H vs Q E hr h => hbody f cc cda _ A outer s H vs Q E S1 hr h), hm, b⟩
theorem MetInC.met {m qual : Str} {C : Addr} {st : Stmt} {N ps : List Str} {k : Nat} {sp : Sp} (c : Cls K C) (D : MetInC P K mg C m qual st ps) (S : CScope N ps (defScope st)) (len : ∀ vs H Q E, sp vs H Q E → vs.length = ps.length)
    (hbody : ∀ (f cc cda : Addr) (fd : FuncData) (A : Around) (outer : List Env) (s : Shared) (H : Hp) (vs : List V) (Q : VK) (E : XK), SupIn P K mg f cc cda C fd "self" → Room k (A.deeper (PySem.W.ksEnv qual (defScope st) s.heap.objs.size f (.ref cda) cc)) → sp vs H Q E →
      ∃ t, NSs (cxC CX0 P w K mg base N qual (defScope st) f (.ref cda) cc A outer s H E) (defBody st) (defBody st) t ∧ t { nx := fun _ H' => Q .non H', rt := Q } (L2.start N vs) H) : Met P w K mg base (k + 1) C m sp := by
  obtain ⟨f, cc, cda, fd, S1, M, b, oc, od, an, kV, doc, pm, ct, osl, rfl, lk, hcd⟩ := D.ini
  obtain ⟨cl, cld, csl, hcell⟩ := S1.cell
  exact ⟨f, _, ps, c, M, fn_ofC lk hcell hcd S len (fun A outer s H vs Q E hr h => hbody f cc cda _ A outer s H vs Q E S1 hr h), b⟩
theorem SupAt.to {m qual name : Str} {C D : Addr} {st : Stmt} {N ps : List Str} {k : Nat} {sp : Sp} (T : SupAt K C D m qual name st ps) (S : FnScope N ps (defScope st)) (len : ∀ vs H Q E, sp vs H Q E → vs.length = ps.length)
    (hbody : ∀ (f : Addr) (cdv : Value) (A : Around) (outer : List Env) (s : Shared) (H : Hp) (vs : List V) (Q : VK) (E : XK), Room k (A.deeper (envOfC qual (defScope st) s.heap.objs.size f cdv)) → sp vs H Q E →
      ∃ t, PSs (cxOf CX0 P w K mg base N qual (defScope st) f cdv A outer s H E).nox (defBody st) t ∧ t { nx := fun _ H' => Q .non H', rt := Q } (L2.start N vs) H) : SupTo P w K mg base CX0 (k + 1) C D m sp := by
  obtain ⟨f, fd, s1, s2, s3, F, b⟩ := T.ex
  exact ⟨⟨f, fd, ps, s1, s2, s3, F.ok S len (hbody f), b⟩, T.sub, T.at_⟩
end
end LR
set_option Elab.async false
set_option maxRecDepth 100000
set_option linter.all false
set_option maxHeartbeats 4000000
/-! games: a web with owners; true stands for A -/
namespace LR
open PySem PySem.Spec PyProof.Rows L2
theorem op_notInK {X : Cx} {K : PySem.W.Frag} (hk : X.K = K) : OpR X (compareOp .NotIn) (rIn K true) := hk ▸ op_notIn_seq
theorem b_any : bootBuiltins "any" = some (.builtin "any") := by decide +kernel
def ltr (b : Bool) : Nat := if b then 65 else 66
def strO (os : List Bool) : Str := ⟨(os.map ltr).toArray⟩
theorem strO_len (os : List Bool) : (strO os).length = os.length := by
  show (strO os).cps.size = _
  unfold strO
  simp
theorem strO_getN {os : List Bool} {i : Nat} {c : Nat} (h : (strO os).cps[i]? = some c) : ∃ b, os[i]? = some b ∧ c = ltr b := by
  have h : (os.map ltr)[i]? = some c := by
    have h1 : (os.map ltr).toArray[i]? = some c := h
    rwa [List.getElem?_toArray] at h1
  rw [List.getElem?_map] at h
  obtain ⟨b, h1, h2⟩ := Option.map_eq_some_iff.mp h
  exact ⟨b, h1, h2.symm⟩
theorem strO_snoc (os : List Bool) (b : Bool) : strO os ++ (⟨#[ltr b]⟩ : Str) = strO (os ++ [b]) := by
  show (⟨(strO os).cps ++ #[ltr b]⟩ : Str) = _
  unfold strO
  simp
def GameAt (C : Addr) (H : Hp) (x : Addr) (h : Int) (os : List Bool) (ss : List (List Int)) : Prop := ∃ dx te us, H x = some (.ins C dx [("height", .int h), ("size", .int os.length), ("edges", .ref te), ("owners", .str (strO os))]) ∧ H te = some (.tup (us.map V.ref)) ∧ RowsH H us ss
theorem GameAt.same {C H H' x h n ss} (s : Same H H') (a : GameAt C H x h n ss) : GameAt C H' x h n ss := by
  obtain ⟨dx, te, us, h1, h2, h3⟩ := a
  exact ⟨dx, te, us, s _ _ h1, s _ _ h2, h3.same s⟩
theorem GameAt.keep {C H H' x h n ss q} (s : Keep q H H') (hq : ∃ l, H q = some (.lst l)) (a : GameAt C H x h n ss) : GameAt C H' x h n ss := by
  obtain ⟨dx, te, us, h1, h2, h3⟩ := a
  obtain ⟨l, hl⟩ := id hq
  exact ⟨dx, te, us, s _ (ne_of h1 hl (by intro z; cases z)) _ h1, s _ (ne_of h2 hl (by intro z; cases z)) _ h2, h3.keep s hq⟩
end LR
set_option Elab.async false
set_option maxRecDepth 100000
set_option linter.all false
set_option maxHeartbeats 4000000
namespace LR
open PySem PySem.Spec PyProof.Rows L2
/-! # the data layer: values as data, a def's slots as an environment of data -/
inductive D where
  | non | bl (b : Bool) | int (i : Int) | str (x : Str) | lst (l : List D) | tup (l : List D)
  | ins (C : Addr) (ks : List Str) (ds : List D) | cls (a : Addr) | ty (n : String) | dic (ks : List Int) (ds : List D)
mutual
inductive Is (K : PySem.W.Frag) (B : Hp) : V → D → Prop
  | non : Is K B .non .non
  | bl (b : Bool) : Is K B (.bl b) (.bl b)
  | int (i : Int) : Is K B (.int i) (.int i)
  | str (x : Str) : Is K B (.str x) (.str x)
  | lst {p : Addr} {xs : List V} {ds : List D} (h : B p = some (.lst xs)) (a : Iss K B xs ds) (z : xs.length ≤ 100000) : Is K B (.ref p) (.lst ds)
  | tup {p : Addr} {xs : List V} {ds : List D} (h : B p = some (.tup xs)) (a : Iss K B xs ds) (z : xs.length ≤ 100000) : Is K B (.ref p) (.tup ds)
  | ins {p C dx : Addr} {fs : List (Str × V)} {ks : List Str} {ds : List D} (h : B p = some (.ins C dx fs)) (k : fs.map (·.1) = ks) (a : Iss K B (fs.map (·.2)) ds) (cl : Cls K C) (na : ∀ f ∈ ks, NoAttr K C f) : Is K B (.ref p) (.ins C ks ds)
  | cls (a : Addr) : Is K B (.ref a) (.cls a)
  | ty (n : String) : Is K B (.ty n) (.ty n)
  | dic {p : Addr} {kvs : List (Key × V)} {ks : List Int} {ds : List D} (h : B p = some (.dK kvs)) (k : kvs.map (·.1) = ks.map Sum.inl) (a : Iss K B (kvs.map (·.2)) ds) (z : kvs.length ≤ 100000) : Is K B (.ref p) (.dic ks ds)
inductive Iss (K : PySem.W.Frag) (B : Hp) : List V → List D → Prop
  | nil : Iss K B [] []
  | cons {x : V} {d : D} {xs : List V} {ds : List D} (h : Is K B x d) (t : Iss K B xs ds) : Iss K B (x :: xs) (d :: ds)
end
section
variable {K : PySem.W.Frag} {B B' : Hp}
mutual
theorem Is.mono (s : Same B B') : ∀ {x d}, Is K B x d → Is K B' x d
  | _, _, .non => .non
  | _, _, .bl b => .bl b
  | _, _, .int i => .int i
  | _, _, .str x => .str x
  | _, _, .lst h a z => .lst (s _ _ h) (a.mono s) z
  | _, _, .tup h a z => .tup (s _ _ h) (a.mono s) z
  | _, _, .ins h k a c n => .ins (s _ _ h) k (a.mono s) c n
  | _, _, .cls a => .cls a
  | _, _, .ty n => .ty n
  | _, _, .dic h k a z => .dic (s _ _ h) k (a.mono s) z
theorem Iss.mono (s : Same B B') : ∀ {xs ds}, Iss K B xs ds → Iss K B' xs ds
  | _, _, .nil => .nil
  | _, _, .cons h t => .cons (h.mono s) (t.mono s)
end
theorem Iss.length {xs ds} (h : Iss K B xs ds) : xs.length = ds.length := by
  revert ds; induction xs with
  | nil => intro ds h; cases h; rfl
  | cons x xs ih => intro ds h; cases h with | cons a t => rw [List.length_cons, List.length_cons, ih t]
theorem Iss.get : ∀ {xs ds} (h : Iss K B xs ds) {i : Nat} {x : V}, xs[i]? = some x → ∃ d, ds[i]? = some d ∧ Is K B x d := by
  intro xs; induction xs with
  | nil => intro ds h i x e; simp at e
  | cons y xs ih =>
    intro ds h i x e
    cases h with
    | cons a t =>
      cases i with
      | zero => exact ⟨_, rfl, by simp at e; subst e; exact a⟩
      | succ i => exact ih t (by simpa using e)
theorem Iss.getD {xs ds} (h : Iss K B xs ds) {i : Nat} {d : D} (e : ds[i]? = some d) : ∃ x, xs[i]? = some x ∧ Is K B x d := by
  have hl := h.length
  have hi : i < xs.length := by rw [hl]; exact (List.getElem?_eq_some_iff.mp e).1
  obtain ⟨d', e', a⟩ := h.get (List.getElem?_eq_getElem hi)
  rw [e] at e'; cases e'
  exact ⟨_, List.getElem?_eq_getElem hi, a⟩
theorem Iss.append : ∀ {xs ds ys es}, Iss K B xs ds → Iss K B ys es → Iss K B (xs ++ ys) (ds ++ es)
  | _, _, _, _, .nil, h => h
  | _, _, _, _, .cons a t, h => .cons a (t.append h)
theorem Iss.one {x d} (h : Is K B x d) : Iss K B [x] [d] := .cons h .nil
theorem Iss.take {xs ds} (n : Nat) (h : Iss K B xs ds) : Iss K B (xs.take n) (ds.take n) := by
  induction n generalizing xs ds with
  | zero => exact .nil
  | succ n ih => cases h with
    | nil => exact .nil
    | cons a t => exact .cons a (ih t)
theorem Iss.drop {xs ds} (n : Nat) (h : Iss K B xs ds) : Iss K B (xs.drop n) (ds.drop n) := by
  induction n generalizing xs ds with
  | zero => exact h
  | succ n ih => cases h with
    | nil => exact .nil
    | cons a t => exact ih t
theorem Iss.set {xs ds} (h : Iss K B xs ds) {y e} (n : Nat) (a : Is K B y e) : Iss K B (xs.set n y) (ds.set n e) := by
  induction n generalizing xs ds with
  | zero => cases h with
    | nil => exact .nil
    | cons b t => exact .cons a t
  | succ n ih => cases h with
    | nil => exact .nil
    | cons b t => exact .cons b (ih t)
theorem Iss.reverse {xs ds} (h : Iss K B xs ds) : Iss K B xs.reverse ds.reverse := by
  induction xs generalizing ds with
  | nil => cases h; exact .nil
  | cons x xs ih => cases h with
    | cons a t => rw [List.reverse_cons, List.reverse_cons]; exact (ih t).append (.one a)
theorem iss_ints : ∀ l : List Int, Iss K B (l.map V.int) (l.map D.int)
  | [] => .nil
  | i :: r => .cons (.int i) (iss_ints r)
theorem Is.lstE {v l} (h : Is K B v (.lst l)) : ∃ p xs, v = .ref p ∧ B p = some (.lst xs) ∧ Iss K B xs l ∧ xs.length ≤ 100000 := by
  cases h with | lst h a z => exact ⟨_, _, rfl, h, a, z⟩
theorem Is.tupE {v l} (h : Is K B v (.tup l)) : ∃ p xs, v = .ref p ∧ B p = some (.tup xs) ∧ Iss K B xs l ∧ xs.length ≤ 100000 := by
  cases h with | tup h a z => exact ⟨_, _, rfl, h, a, z⟩
theorem Is.intE {v i} (h : Is K B v (.int i)) : v = .int i := by cases h; rfl
theorem Is.blE {v b} (h : Is K B v (.bl b)) : v = .bl b := by cases h; rfl
theorem Is.strE {v b} (h : Is K B v (.str b)) : v = .str b := by cases h; rfl
theorem Is.nonE {v} (h : Is K B v .non) : v = .non := by cases h; rfl
end
/-! ## the environment -/
/-- what a def may change: a list, a dict with ints for keys, nested lists (da: a part that is data, tr: a list, tu: a tuple that holds lists) -/
inductive Ow where
  | ls (xs : List D) | dk (ks : List Int) (ds : List D) | da (x : D) | tr (ts : List Ow) | tu (ts : List Ow)
mutual
def Ow.d : Ow → D
  | .ls l => .lst l
  | .dk ks ds => .dic ks ds
  | .da x => x
  | .tr ts => .lst (owds ts)
  | .tu ts => .tup (owds ts)
def owds : List Ow → List D
  | [] => []
  | t :: ts => t.d :: owds ts
end
mutual
inductive OwIs (K : PySem.W.Frag) (B H : Hp) : V → Ow → List Addr → Prop
  | l {p : Addr} {xs : List V} {l : List D} (h : H p = some (.lst xs)) (i : Iss K B xs l) (z : xs.length ≤ 100000) : OwIs K B H (.ref p) (.ls l) [p]
  | dk {p : Addr} {kvs : List (Key × V)} {ks : List Int} {ds : List D} (h : H p = some (.dK kvs)) (k : kvs.map (·.1) = ks.map Sum.inl) (i : Iss K B (kvs.map (·.2)) ds) (z : kvs.length ≤ 100000) : OwIs K B H (.ref p) (.dk ks ds) [p]
  | da {v : V} {x : D} (i : Is K B v x) : OwIs K B H v (.da x) []
  | tr {p : Addr} {vs : List V} {ts : List Ow} {fs : List Addr} (h : H p = some (.lst vs)) (a : OwIss K B H vs ts fs) (z : vs.length ≤ 100000) : OwIs K B H (.ref p) (.tr ts) (p :: fs)
  | tu {p : Addr} {vs : List V} {ts : List Ow} {fs : List Addr} (h : B p = some (.tup vs)) (a : OwIss K B H vs ts fs) (z : vs.length ≤ 100000) : OwIs K B H (.ref p) (.tu ts) fs
inductive OwIss (K : PySem.W.Frag) (B H : Hp) : List V → List Ow → List Addr → Prop
  | nil : OwIss K B H [] [] []
  | cons {v : V} {t : Ow} {fs : List Addr} {vs : List V} {ts : List Ow} {gs : List Addr} (h : OwIs K B H v t fs) (r : OwIss K B H vs ts gs) : OwIss K B H (v :: vs) (t :: ts) (fs ++ gs)
end
section
variable {K : PySem.W.Frag} {B B' H H' : Hp}
mutual
theorem OwIs.mono (s : Same B B') : ∀ {v o fs}, OwIs K B H v o fs → (∀ a ∈ fs, H' a = H a) → OwIs K B' H' v o fs
  | _, _, _, .l h i z, k => .l (by rw [k _ List.mem_cons_self]; exact h) (i.mono s) z
  | _, _, _, .dk h q i z, k => .dk (by rw [k _ List.mem_cons_self]; exact h) q (i.mono s) z
  | _, _, _, .da i, _ => .da (i.mono s)
  | _, _, _, .tr h a z, k => .tr (by rw [k _ List.mem_cons_self]; exact h) (a.mono s fun b hb => k b (List.mem_cons_of_mem _ hb)) z
  | _, _, _, .tu h a z, k => .tu (s _ _ h) (a.mono s k) z
theorem OwIss.mono (s : Same B B') : ∀ {v o fs}, OwIss K B H v o fs → (∀ a ∈ fs, H' a = H a) → OwIss K B' H' v o fs
  | _, _, _, .nil, _ => .nil
  | _, _, _, .cons h r, k => .cons (h.mono s fun b hb => k b (List.mem_append_left _ hb)) (r.mono s fun b hb => k b (List.mem_append_right _ hb))
end
mutual
theorem OwIs.is_ (s : Same B B') : ∀ {v o fs}, OwIs K B H v o fs → (∀ a ∈ fs, B' a = H a) → Is K B' v o.d
  | _, _, _, .l h i z, k => .lst (by rw [k _ List.mem_cons_self]; exact h) (i.mono s) z
  | _, _, _, .dk h q i z, k => .dic (by rw [k _ List.mem_cons_self]; exact h) q (i.mono s) z
  | _, _, _, .da i, _ => i.mono s
  | _, _, _, .tr h a z, k => .lst (by rw [k _ List.mem_cons_self]; exact h) (a.is_ s fun b hb => k b (List.mem_cons_of_mem _ hb)) z
  | _, _, _, .tu h a z, k => .tup (s _ _ h) (a.is_ s k) z
theorem OwIss.is_ (s : Same B B') : ∀ {v o fs}, OwIss K B H v o fs → (∀ a ∈ fs, B' a = H a) → Iss K B' v (owds o)
  | _, _, _, .nil, _ => .nil
  | _, _, _, .cons h r, k => .cons (h.is_ s fun b hb => k b (List.mem_append_left _ hb)) (r.is_ s fun b hb => k b (List.mem_append_right _ hb))
end
mutual
theorem OwIs.cell : ∀ {v o fs}, OwIs K B H v o fs → ∀ a ∈ fs, (∃ l, H a = some (.lst l)) ∨ ∃ l, H a = some (.dK l)
  | _, _, _, .l h _ _, a, m => by rw [List.mem_singleton.mp m]; exact .inl ⟨_, h⟩
  | _, _, _, .dk h _ _ _, a, m => by rw [List.mem_singleton.mp m]; exact .inr ⟨_, h⟩
  | _, _, _, .da _, a, m => nomatch m
  | _, _, _, .tr h r _, a, m => (List.mem_cons.mp m).elim (fun e => by rw [e]; exact .inl ⟨_, h⟩) (r.cell a)
  | _, _, _, .tu _ r _, a, m => r.cell a m
theorem OwIss.cell : ∀ {v o fs}, OwIss K B H v o fs → ∀ a ∈ fs, (∃ l, H a = some (.lst l)) ∨ ∃ l, H a = some (.dK l)
  | _, _, _, .nil, a, m => nomatch m
  | _, _, _, .cons h r, a, m => (List.mem_append.mp m).elim (h.cell a) (r.cell a)
end
theorem OwIs.lE {v l fs} (h : OwIs K B H v (.ls l) fs) : ∃ p xs, v = .ref p ∧ fs = [p] ∧ H p = some (.lst xs) ∧ Iss K B xs l ∧ xs.length ≤ 100000 := by
  cases h with
  | l h i z => exact ⟨_, _, rfl, rfl, h, i, z⟩
theorem OwIs.dkE {v ks ds fs} (h : OwIs K B H v (.dk ks ds) fs) : ∃ p kvs, v = .ref p ∧ fs = [p] ∧ H p = some (.dK kvs) ∧ kvs.map (·.1) = ks.map Sum.inl ∧ Iss K B (kvs.map (·.2)) ds ∧ kvs.length ≤ 100000 := by
  cases h with
  | dk h k i z => exact ⟨_, _, rfl, rfl, h, k, i, z⟩
theorem OwIs.trE {v ts fs} (h : OwIs K B H v (.tr ts) fs) : ∃ p vs gs, v = .ref p ∧ fs = p :: gs ∧ H p = some (.lst vs) ∧ OwIss K B H vs ts gs ∧ vs.length ≤ 100000 := by
  cases h with
  | tr h a z => exact ⟨_, _, _, rfl, rfl, h, a, z⟩
theorem OwIs.tuE {v ts fs} (h : OwIs K B H v (.tu ts) fs) : ∃ p vs, v = .ref p ∧ B p = some (.tup vs) ∧ OwIss K B H vs ts fs ∧ vs.length ≤ 100000 := by
  cases h with
  | tu h a z => exact ⟨_, _, rfl, h, a, z⟩
theorem OwIss.length : ∀ {v o fs}, OwIss K B H v o fs → v.length = o.length
  | _, _, _, .nil => rfl
  | _, _, _, .cons _ r => congrArg (· + 1) r.length
theorem OwIss.append : ∀ {v o fs v' o' fs'}, OwIss K B H v o fs → OwIss K B H v' o' fs' → OwIss K B H (v ++ v') (o ++ o') (fs ++ fs')
  | _, _, _, _, _, _, .nil, h => h
  | _, _, _, _, _, _, .cons a t, h => by rw [List.append_assoc]; exact .cons a (t.append h)
theorem OwIss.ofD : ∀ {vs l}, Iss K B vs l → OwIss K B H vs (l.map .da) []
  | _, _, .nil => .nil
  | _, _, .cons h t => .cons (fs := []) (.da h) (OwIss.ofD t)
end
inductive Ev where
  | any | d (x : D) | own (o : Ow) (lent : Option Nat := none) | pool | scr (ns : List Int) | err (a : Addr) (dd : Option Addr) (fs : List (Str × V)) | raw (v : V)
def nth : List Ev → Nat → Ev
  | [], _ => .any
  | e :: _, 0 => e
  | _ :: r, n + 1 => nth r n
def sth : List Ev → Nat → Ev → List Ev
  | [], _, _ => []
  | _ :: r, 0, x => x :: r
  | e :: r, n + 1, x => e :: sth r n x
theorem nth_sth_eq : ∀ {env : List Ev} {i : Nat} {x : Ev}, i < env.length → nth (sth env i x) i = x
  | [], _, _, h => absurd h (Nat.not_lt_zero _)
  | _ :: _, 0, _, _ => rfl
  | _ :: r, n + 1, _, h => nth_sth_eq (env := r) (Nat.lt_of_succ_lt_succ h)
theorem nth_sth_ne : ∀ {env : List Ev} {i j : Nat} {x : Ev}, j ≠ i → nth (sth env i x) j = nth env j
  | [], _, _, _, _ => rfl
  | _ :: _, 0, 0, _, h => absurd rfl h
  | _ :: _, 0, _ + 1, _, _ => rfl
  | _ :: _, _ + 1, 0, _, _ => rfl
  | _ :: r, n + 1, m + 1, _, h => nth_sth_ne (env := r) (fun e => h (congrArg _ e))
theorem sth_len : ∀ {env : List Ev} {i : Nat} {x : Ev}, (sth env i x).length = env.length
  | [], _, _ => rfl
  | _ :: _, 0, _ => rfl
  | _ :: r, n + 1, _ => congrArg (· + 1) (sth_len (env := r))
theorem sth_out : ∀ {env : List Ev} {i : Nat} {x : Ev}, env.length ≤ i → sth env i x = env
  | [], _, _, _ => rfl
  | _ :: _, 0, _, h => absurd h (Nat.not_succ_le_zero _)
  | e :: r, n + 1, _, h => congrArg (e :: ·) (sth_out (env := r) (Nat.le_of_succ_le_succ h))
theorem nth_out : ∀ {env : List Ev} {i : Nat}, env.length ≤ i → nth env i = .any
  | [], _, _ => rfl
  | _ :: _, 0, h => absurd h (Nat.not_succ_le_zero _)
  | _ :: r, n + 1, h => nth_out (env := r) (Nat.le_of_succ_le_succ h)
/-- what the proof knows of the heaps: at the def's entry, pools then and now, the data's part of the heap -/
structure G where
  H0 : Hp
  M0 : Addr → Prop
  M : Addr → Prop
  B : Hp
  /-- cells under way that no slot holds -/
  P : Hp
  /-- the data's part at the def's entry -/
  B0 : Hp
  /-- cells of the entry that the def may change -/
  X : Nat → Option Addr
  /-- the cells of each slot -/
  F : Nat → List Addr
/-- what of the entry the def may change -/
def G.XA (g : G) (a : Addr) : Prop := ∃ i, g.X i = some a
structure G.Le (g g' : G) : Prop where
  h0 : g'.H0 = g.H0
  m0 : g'.M0 = g.M0
  m : ∀ a, g.M a → g'.M a
  b : Same g.B g'.B
  p : g'.P = g.P
  b0 : g'.B0 = g.B0
  x : g'.X = g.X
theorem _root_.L2.Same.rfl' {H : Hp} : Same H H := fun _ _ h => h
theorem G.Le.rfl {g : G} : G.Le g g := ⟨Eq.refl _, Eq.refl _, fun _ h => h, Same.rfl', Eq.refl _, Eq.refl _, Eq.refl _⟩
theorem G.Le.xa {g g' : G} (l : G.Le g g') : g'.XA = g.XA := by unfold G.XA; rw [l.x]
theorem G.Le.trans {a b c : G} (x : G.Le a b) (y : G.Le b c) : G.Le a c := ⟨y.h0.trans x.h0, y.m0.trans x.m0, fun p h => y.m p (x.m p h), x.b.trans y.b, y.p.trans x.p, y.b0.trans x.b0, y.x.trans x.x⟩
def Imm : HO → Prop
  | .tup _ => True
  | .ins _ _ _ => True
  | _ => False
structure WOk (g : G) (H : Hp) : Prop where
  sb : Same g.B H
  pl : ∀ a, g.M a → IsPool H a ∧ g.B a = none
  im : ∀ a o, H a = some o → Imm o → g.B a = some o
  fr : ∀ a o, ¬ g.M0 a → ¬ g.XA a → g.H0 a = some o → H a = some o
  nw : ∀ a, g.M a → g.M0 a ∨ g.H0 a = none
  pv : ∀ a o, g.P a = some o → H a = some o ∧ g.B a = none ∧ ¬ g.M a
  m0 : ∀ a, g.M0 a → g.M a
  bn : ∀ a o, ¬ g.XA a → g.H0 a = some o → g.B0 a = none → g.B a = none
  xp : ∀ a, g.XA a → (∃ o, H a = some o) ∧ (∃ o, g.H0 a = some o) ∧ g.B0 a = none
/-- a cell of the def's own -/
structure Priv (g : G) (b : Option Nat) (a : Addr) : Prop where
  nb : g.B a = none
  nm : ¬ g.M a
  n0 : g.H0 a = none ∨ (b.isSome = true ∧ g.XA a)
  np : g.P a = none
/-- what the def owns at v, its cells -/
structure OwnAt (K : PySem.W.Frag) (g : G) (H : Hp) (b : Option Nat) (v : V) (o : Ow) (fs : List Addr) : Prop where
  is_ : OwIs K g.B H v o fs
  nd : fs.Nodup
  pv : ∀ a ∈ fs, Priv g b a
  pin : ∀ u, b = some u → ∃ p, g.X u = some p ∧ v = .ref p
/-- the script at a -/
def ScrAt (K : PySem.W.Frag) (H0 : Hp) (M0 : Addr → Prop) (a : Addr) (xs : List V) : Prop := (∀ H, SqL K H a xs) ∨ ∃ o, H0 a = some o ∧ (∀ H : Hp, H a = some o → SqL K H a xs) ∧ ¬ M0 a
theorem ScrAt.of {K : PySem.W.Frag} {H : Hp} {M : Addr → Prop} {a : Addr} {xs : List V} (h : SqL K H a xs) (m : ∀ b, M b → IsPool H b) (n : ∀ b, M b → b ≠ a) : ScrAt K H M a xs := by
  rcases h with (h | ⟨o, h⟩) | h
  · exact .inr ⟨_, h, fun _ e => .inl (.inl e), fun q => n _ q rfl⟩
  · exact .inr ⟨_, h, fun _ e => .inl (.inr ⟨o, e⟩), fun q => n _ q rfl⟩
  · exact .inl fun _ => .inr h
def Sl (K : PySem.W.Frag) (g : G) (H : Hp) (o : Option (Option V)) (fs : List Addr) : Ev → Prop
  | .any => True
  | .d x => ∃ v, o = some (some v) ∧ Is K g.B v x
  | .own l b => ∃ v, o = some (some v) ∧ OwnAt K g H b v l fs
  | .pool => ∃ p, o = some (some (.ref p)) ∧ g.M p
  | .scr ns => ∃ a, o = some (some (.ref a)) ∧ ScrAt K g.H0 (fun a => g.M0 a ∨ g.XA a) a (ns.map V.int)
  | .err a dd fs => o = some (some (.ref a)) ∧ ∀ d, dd = some d → g.B d = some (.xd fs)
  | .raw v => o = some (some v)
def isOwn : Ev → Bool
  | .own _ _ => true
  | _ => false
structure Rep (K : PySem.W.Frag) (g : G) (σ : L2.St) (H : Hp) (env : List Ev) : Prop where
  ok : WOk g H
  ln : σ.length = env.length
  sl : ∀ i, Sl K g H σ[i]? (g.F i) (nth env i)
  nf : ∀ i, isOwn (nth env i) = false → g.F i = []
  di : ∀ i j a, i ≠ j → a ∈ g.F i → a ∈ g.F j → False
/-- an argument, a result -/
inductive Ar where
  | d (x : D) | pool | fr (o : Ow) | scr (ns : List Int)
/-- cells that no slot holds -/
def Off (g : G) (fs : List Addr) : Prop := ∀ i, ∀ a ∈ fs, a ∉ g.F i
def IsR (K : PySem.W.Frag) (g : G) (H : Hp) (v : V) : Ar → Prop
  | .d x => Is K g.B v x
  | .pool => ∃ p, v = .ref p ∧ g.M p
  | .scr ns => ∃ a, v = .ref a ∧ ScrAt K g.H0 (fun a => g.M0 a ∨ g.XA a) a (ns.map V.int)
  | .fr o => ∃ fs, OwnAt K g H none v o fs ∧ Off g fs
section
variable {K : PySem.W.Frag} {g g' : G} {σ σ' : L2.St} {H H' : Hp} {env : List Ev} {b : Option Nat} {v : V} {o : Ow} {fs : List Addr}
theorem OwnAt.ex (a : OwnAt K g H b v o fs) : ∀ p ∈ fs, ∃ u, H p = some u := fun p m => (a.is_.cell p m).elim (fun ⟨_, h⟩ => ⟨_, h⟩) fun ⟨_, h⟩ => ⟨_, h⟩
theorem OwnAt.notImm (a : OwnAt K g H b v o fs) : ∀ p ∈ fs, ∀ u, H p = some u → ¬ Imm u := fun p m u e => (a.is_.cell p m).elim (fun ⟨_, h⟩ => by rw [h] at e; cases e; exact fun z => z) fun ⟨_, h⟩ => by rw [h] at e; cases e; exact fun z => z
theorem OwnAt.ne (a : OwnAt K g H b v o fs) {q} (hq : H q = none) : ∀ p ∈ fs, p ≠ q := fun p m e => by obtain ⟨u, h⟩ := a.ex p m; rw [e, hq] at h; cases h
theorem OwnAt.keep (a : OwnAt K g H b v o fs) (x : g'.X = g.X) (s : Same g.B g'.B) (h : ∀ p ∈ fs, H' p = H p) (k : ∀ p ∈ fs, Priv g b p → Priv g' b p) : OwnAt K g' H' b v o fs := ⟨a.is_.mono s h, a.nd, fun p m => k p m (a.pv p m), fun u e => by rw [x]; exact a.pin u e⟩
theorem Rep.lt_of_F (r : Rep K g σ H env) {i a} (h : a ∈ g.F i) : isOwn (nth env i) = true := by
  cases c : isOwn (nth env i) with
  | true => rfl
  | false => rw [r.nf i c] at h; cases h
theorem Rep.ownC (r : Rep K g σ H env) {i a} (h : a ∈ g.F i) : ∃ v o b, nth env i = .own o b ∧ σ[i]? = some (some v) ∧ OwnAt K g H b v o (g.F i) := by
  have c := r.lt_of_F h
  have s := r.sl i
  cases e : nth env i with
  | own o b => rw [e] at s; obtain ⟨v, e1, a⟩ := s; exact ⟨v, o, b, rfl, e1, a⟩
  | _ => rw [e] at c; cases c
theorem Sl.mono {q e} (le : G.Le g g') (hk : ∀ b v o, OwnAt K g H b v o fs → OwnAt K g' H' b v o fs) (s : Sl K g H q fs e) : Sl K g' H' q fs e := by
  cases e with
  | any => trivial
  | d x => obtain ⟨v, e, h⟩ := s; exact ⟨v, e, h.mono le.b⟩
  | own l b => obtain ⟨v, e, h⟩ := s; exact ⟨v, e, hk _ _ _ h⟩
  | pool => obtain ⟨p, e, h⟩ := s; exact ⟨p, e, le.m _ h⟩
  | scr ns => obtain ⟨a, e, h⟩ := s; exact ⟨a, e, by rw [le.h0, le.m0, le.xa]; exact h⟩
  | err a dd fs => exact ⟨s.1, fun d h => le.b _ _ (s.2 d h)⟩
  | raw v => exact s
/-- all slots stay as they are -/
theorem Rep.move (r : Rep K g σ H env) (ok : WOk g' H') (le : G.Le g g') (hF : g'.F = g.F) (hk : ∀ i, ∀ a ∈ g.F i, (∀ b, Priv g b a → Priv g' b a) ∧ H' a = H a) : Rep K g' σ H' env :=
  ⟨ok, r.ln, fun i => by
    rw [hF]
    exact (r.sl i).mono le fun b v o a => a.keep le.x le.b (fun p m => (hk i p m).2) fun p m => (hk i p m).1 b, by rw [hF]; exact r.nf, by rw [hF]; exact r.di⟩
def setF (F : Nat → List Addr) (i : Nat) (fs : List Addr) : Nat → List Addr := fun j => if j = i then fs else F j
theorem setF_eq {F i fs} : setF F i fs i = fs := by unfold setF; rw [if_pos rfl]
theorem setF_ne {F i fs j} (h : j ≠ i) : setF F i fs j = F j := by unfold setF; rw [if_neg h]
def G.setF (g : G) (i : Nat) (fs : List Addr) : G := { g with F := LR.setF g.F i fs }
theorem G.setF_le {i fs} : G.Le g (g.setF i fs) := ⟨rfl, rfl, fun _ h => h, Same.rfl', rfl, rfl, rfl⟩
theorem WOk.setF (w : WOk g H) {i fs} : WOk (g.setF i fs) H := ⟨w.sb, w.pl, w.im, w.fr, w.nw, w.pv, w.m0, w.bn, w.xp⟩
theorem Priv.setF {i a} (p : Priv g b a) : Priv (g.setF i fs) b a := ⟨p.nb, p.nm, p.n0, p.np⟩
theorem OwnAt.setF (a : OwnAt K g H b v o fs) {i gs} : OwnAt K (g.setF i gs) H b v o fs := ⟨a.is_, a.nd, fun p m => (a.pv p m).setF, a.pin⟩
/-- one slot changes -/
theorem Rep.moveS (r : Rep K g σ H env) {i : Nat} (hi : i < env.length) (e : Ev) {fs : List Addr} (ok : WOk g' H') (le : G.Le g g') (hF : g'.F = LR.setF g.F i fs) (hl : σ'.length = σ.length) (hσ : ∀ j, j ≠ i → σ'[j]? = σ[j]?)
    (s : Sl K g' H' σ'[i]? fs e) (nf : isOwn e = false → fs = []) (dj : ∀ j, j ≠ i → ∀ a ∈ fs, a ∉ g.F j) (hk : ∀ j, j ≠ i → ∀ a ∈ g.F j, (∀ b, Priv g b a → Priv g' b a) ∧ H' a = H a) : Rep K g' σ' H' (sth env i e) := by
  refine ⟨ok, by rw [sth_len, hl]; exact r.ln, fun j => ?_, fun j hj => ?_, fun j k a n hj hk' => ?_⟩
  · by_cases n : j = i
    · subst n; rw [nth_sth_eq hi, hF, setF_eq]; exact s
    · rw [nth_sth_ne n, hσ j n, hF, setF_ne n]
      exact (r.sl j).mono le fun b v o a => a.keep le.x le.b (fun p m => (hk j n p m).2) fun p m => (hk j n p m).1 b
  · by_cases n : j = i
    · subst n; rw [nth_sth_eq hi] at hj; rw [hF, setF_eq]; exact nf hj
    · rw [nth_sth_ne n] at hj; rw [hF, setF_ne n]; exact r.nf j hj
  · rw [hF] at hj hk'
    by_cases n1 : j = i
    · subst n1
      rw [setF_eq] at hj
      rw [setF_ne (Ne.symm n)] at hk'
      exact dj k (Ne.symm n) a hj hk'
    · rw [setF_ne n1] at hj
      by_cases n2 : k = i
      · subst n2
        rw [setF_eq] at hk'
        exact dj j n1 a hk' hj
      · rw [setF_ne n2] at hk'
        exact r.di j k a n hj hk'
/-- a new object that is data -/
def G.new (g : G) (p : Addr) (o : HO) : G := { g with B := upd g.B p o }
theorem G.new_le (w : WOk g H) {p o} (h : H p = Option.none) : G.Le g (g.new p o) :=
  ⟨rfl, rfl, fun _ h => h, fun a u e => by show upd g.B p o a = .some u; rw [upd_ne (ne_of_none (w.sb _ _ e) h)]; exact e, rfl, rfl, rfl⟩
/-- what is new now was not there at the entry -/
theorem WOk.entry_none (w : WOk g H) {p} (h : H p = Option.none) : g.H0 p = Option.none := by
  cases e : g.H0 p with
  | none => rfl
  | some o =>
    by_cases c : g.M0 p
    · obtain ⟨⟨_, _, _, _, q⟩, _⟩ := w.pl p (w.m0 p c)
      rw [q] at h; cases h
    · by_cases x : g.XA p
      · obtain ⟨⟨u, q⟩, _⟩ := w.xp p x
        rw [q] at h; cases h
      · rw [w.fr _ _ c x e] at h; cases h
theorem WOk.new (w : WOk g H) {p o} (h : H p = Option.none) : WOk (g.new p o) (upd H p o) := by
  refine ⟨fun a u e => ?_, fun a m => ?_, fun a u e i => ?_, fun a u n n2 e => ?_, w.nw, fun a u e => ?_, w.m0, fun a u nx e e2 => ?_, fun a x => ?_⟩
  · by_cases c : a = p
    · subst c
      have e : upd g.B a o a = some u := e
      rw [upd_same] at e ⊢; exact e
    · have e : upd g.B p o a = some u := e
      rw [upd_ne c] at e ⊢; exact w.sb _ _ e
  · obtain ⟨h1, h2⟩ := w.pl a m
    obtain ⟨x1, x2, x3, x4, hx⟩ := h1
    have n := ne_of_none hx h
    refine ⟨⟨x1, x2, x3, x4, by rw [upd_ne n]; exact hx⟩, by show upd g.B p o a = _; rw [upd_ne n]; exact h2⟩
  · show upd g.B p o a = some u
    by_cases c : a = p
    · subst c; rw [upd_same] at e ⊢; exact e
    · rw [upd_ne c] at e ⊢; exact w.im _ _ e i
  · have := w.fr a u n n2 e
    rw [upd_ne (ne_of_none this h)]; exact this
  · obtain ⟨h1, h2, h3⟩ := w.pv a u e
    have n := ne_of_none h1 h
    exact ⟨by rw [upd_ne n]; exact h1, by show upd g.B p o a = _; rw [upd_ne n]; exact h2, h3⟩
  · have e' : g.H0 a = some u := e
    have n : a ≠ p := fun z => by subst z; rw [w.entry_none h] at e'; cases e'
    show upd g.B p o a = _
    rw [upd_ne n]; exact w.bn a u nx e e2
  · obtain ⟨⟨u, e⟩, q⟩ := w.xp a x
    exact ⟨⟨u, by rw [upd_ne (ne_of_none e h)]; exact e⟩, q⟩
theorem Priv.new {a q u} (p : Priv g b a) (n : a ≠ q) : Priv (g.new q u) b a := ⟨by show upd g.B q u a = _; rw [upd_ne n]; exact p.nb, p.nm, p.n0, p.np⟩
theorem Rep.new (r : Rep K g σ H env) {p u} (h : H p = Option.none) : Rep K (g.new p u) σ (upd H p u) env :=
  r.move (r.ok.new h) (G.new_le r.ok h) rfl fun i a m => by
    obtain ⟨v, o, b, _, _, oa⟩ := r.ownC m
    have n := oa.ne h a m
    exact ⟨fun b q => q.new n, upd_ne n⟩
theorem Rep.le_new (r : Rep K g σ H env) {p o} (h : H p = Option.none) : G.Le g (g.new p o) := G.new_le r.ok h
/-- what one owns becomes data -/
def frzB (B H : Hp) (fs : List Addr) : Hp := fun a => if a ∈ fs then H a else B a
theorem frzB_in {B H : Hp} {fs a} (h : a ∈ fs) : frzB B H fs a = H a := by unfold frzB; rw [if_pos h]
theorem frzB_out {B H : Hp} {fs a} (h : a ∉ fs) : frzB B H fs a = B a := by unfold frzB; rw [if_neg h]
def G.frz (g : G) (H : Hp) (fs : List Addr) : G := { g with B := frzB g.B H fs }
theorem frz_same (pv : ∀ a ∈ fs, Priv g b a) : Same g.B (frzB g.B H fs) := fun a u e => by
  by_cases m : a ∈ fs
  · rw [(pv a m).nb] at e; cases e
  · rw [frzB_out m]; exact e
theorem G.frz_le (pv : ∀ a ∈ fs, Priv g b a) : G.Le g (g.frz H fs) := ⟨rfl, rfl, fun _ h => h, frz_same pv, rfl, rfl, rfl⟩
theorem WOk.frz (w : WOk g H) (pv : ∀ a ∈ fs, Priv g none a) : WOk (g.frz H fs) H := by
  have out : ∀ {a u}, g.H0 a = some u → a ∉ fs := fun {a u} e m => by
    rcases (pv a m).n0 with q | q
    · rw [q] at e; cases e
    · cases q.1
  refine ⟨fun c u e => ?_, fun c m => ?_, fun c u e i => frz_same pv c u (w.im c u e i), w.fr, w.nw, fun c u e => ?_, w.m0, fun c u nx e e2 => ?_, w.xp⟩
  · have e : frzB g.B H fs c = some u := e
    by_cases m : c ∈ fs
    · rw [frzB_in m] at e; exact e
    · rw [frzB_out m] at e; exact w.sb _ _ e
  · obtain ⟨h1, h2⟩ := w.pl c m
    refine ⟨h1, ?_⟩
    show frzB g.B H fs c = none
    rw [frzB_out fun q => (pv c q).nm m]; exact h2
  · obtain ⟨h1, h2, h3⟩ := w.pv c u e
    have e : g.P c = some u := e
    refine ⟨h1, ?_, h3⟩
    show frzB g.B H fs c = none
    rw [frzB_out fun q => by rw [(pv c q).np] at e; cases e]; exact h2
  · show frzB g.B H fs c = none
    rw [frzB_out (out e)]; exact w.bn c u nx e e2
theorem Priv.frz {a} (p : Priv g b a) (n : a ∉ fs) : Priv (g.frz H fs) b a := ⟨by show frzB g.B H fs a = _; rw [frzB_out n]; exact p.nb, p.nm, p.n0, p.np⟩
theorem Is.frz (a : OwnAt K g H b v o fs) : Is K (g.frz H fs).B v o.d := a.is_.is_ (frz_same a.pv) fun p m => frzB_in m
/-- .. a result that no slot holds -/
theorem Rep.frzR (r : Rep K g σ H env) (a : OwnAt K g H none v o fs) (ns : Off g fs) : Rep K (g.frz H fs) σ H env :=
  r.move (r.ok.frz a.pv) (G.frz_le a.pv) rfl fun i c m => ⟨fun b q => q.frz fun h => ns i c h m, rfl⟩
/-- the environment forgets -/
def fz : List Ev → Nat → List Ev
  | [], _ => []
  | .own l none :: r, 0 => .d l.d :: r
  | e :: r, 0 => e :: r
  | e :: r, n + 1 => e :: fz r n
theorem fz_sth : ∀ {env : List Ev} {i : Nat} {l : Ow}, nth env i = .own l none → fz env i = sth env i (.d l.d)
  | [], _, _, h => by cases h
  | e :: _, 0, l, h => by
    have h : e = .own l none := h
    subst h; rfl
  | e :: r, n + 1, _, h => by
    have := fz_sth (env := r) h
    cases e with
    | own l b => cases b <;> exact congrArg _ this
    | _ => exact congrArg _ this
theorem fz_not : ∀ {env : List Ev} {i : Nat}, (∀ l, nth env i ≠ .own l none) → fz env i = env
  | [], _, _ => rfl
  | e :: _, 0, h => by
    cases e with
    | own l b => cases b with
      | none => exact absurd rfl (h l)
      | some _ => rfl
    | _ => rfl
  | e :: r, n + 1, h => by
    have := fz_not (env := r) h
    cases e with
    | own l b => cases b <;> exact congrArg _ this
    | _ => exact congrArg _ this
theorem lt_of_own {env : List Ev} {i : Nat} {l : Ow} {b} (h : nth env i = .own l b) : i < env.length := by
  rcases Nat.lt_or_ge i env.length with z | z
  · exact z
  · rw [nth_out z] at h; cases h
theorem Rep.frz (r : Rep K g σ H env) (i : Nat) : ∃ g', G.Le g g' ∧ Rep K g' σ H (fz env i) := by
  by_cases c : ∃ l, nth env i = .own l none
  · obtain ⟨l, e⟩ := c
    have s := r.sl i
    rw [e] at s
    obtain ⟨v, es, a⟩ := s
    rw [fz_sth e]
    have le := G.frz_le (H := H) a.pv
    refine ⟨(g.frz H (g.F i)).setF i [], le.trans G.setF_le, r.moveS (lt_of_own e) _ ((r.ok.frz a.pv).setF) (le.trans G.setF_le) rfl rfl (fun _ _ => rfl) ⟨v, es, .frz a⟩ (fun _ => rfl) (fun _ _ a m => nomatch m) fun j n p m => ⟨fun b q => (q.frz fun h => r.di i j p (Ne.symm n) h m).setF, rfl⟩⟩
  · rw [fz_not fun l h => c ⟨l, h⟩]; exact ⟨g, .rfl, r⟩
theorem get_set_eq {σ : L2.St} {i : Nat} {v : Option V} (h : i < σ.length) : (σ.set i v)[i]? = some v := by simp [h]
theorem get_set_ne {σ : L2.St} {i j : Nat} {v : Option V} (h : j ≠ i) : (σ.set i v)[j]? = σ[j]? := by simp [List.getElem?_set, Ne.symm h]
theorem set_out {σ : L2.St} {i : Nat} {v : Option V} (h : σ.length ≤ i) : σ.set i v = σ := List.set_eq_of_length_le h
/-- a slot is forgotten -/
theorem Rep.dropS (r : Rep K g σ H env) (i : Nat) (hl : σ'.length = σ.length) (hσ : ∀ j, j ≠ i → σ'[j]? = σ[j]?) : Rep K (g.setF i []) σ' H (sth env i .any) := by
  rcases Nat.lt_or_ge i env.length with z | z
  · exact r.moveS z _ r.ok.setF G.setF_le rfl hl hσ trivial (fun _ => rfl) (fun _ _ a m => nomatch m) fun j n p m => ⟨fun b q => q.setF, rfl⟩
  · have nfi := r.nf i (by rw [nth_out z]; rfl)
    rw [sth_out z]
    refine ⟨r.ok.setF, by rw [hl]; exact r.ln, fun j => ?_, fun j hj => ?_, fun j k a n hj hk => ?_⟩
    · show Sl K (g.setF i []) H σ'[j]? (LR.setF g.F i [] j) (nth env j)
      by_cases n : j = i
      · subst n; rw [nth_out z]; trivial
      · rw [hσ j n, setF_ne n]
        exact (r.sl j).mono G.setF_le fun b v o a => a.setF
    · show LR.setF g.F i [] j = []
      by_cases n : j = i
      · subst n; rw [setF_eq]
      · rw [setF_ne n]; exact r.nf j hj
    · have : ∀ m, a ∈ (g.setF i []).F m → a ∈ g.F m := fun m h => by
        have h : a ∈ LR.setF g.F i [] m := h
        by_cases q : m = i
        · subst q; rw [setF_eq] at h; cases h
        · rw [setF_ne q] at h; exact h
      exact r.di j k a n (this j hj) (this k hk)
theorem Rep.drop (r : Rep K g σ H env) (i : Nat) : Rep K (g.setF i []) σ H (sth env i .any) := r.dropS i rfl fun _ _ => rfl
/-- what a stored value makes of its slot: as the def's own only where that is wanted -/
def toEv (w : Bool) : Ar → Ev
  | .d x => .d x
  | .pool => .pool
  | .scr ns => .scr ns
  | .fr l => if w then .own l else .d l.d
theorem Rep.setE (r : Rep K g σ H env) {i : Nat} {v : V} {e : Ev} (s : Sl K (g.setF i fs) H (some (some v)) fs e) (nf : isOwn e = false → fs = []) (ns : ∀ j, j ≠ i → ∀ a ∈ fs, a ∉ g.F j) : ∃ g', G.Le g g' ∧ g'.B = g.B ∧ Rep K g' (σ.set i (some v)) H (sth env i e) := by
  rcases Nat.lt_or_ge i env.length with z | z
  · exact ⟨g.setF i fs, G.setF_le, rfl, r.moveS z e r.ok.setF G.setF_le rfl List.length_set (fun j n => get_set_ne n) (by rw [get_set_eq (by rw [r.ln]; exact z)]; exact s) nf ns fun j n p m => ⟨fun b q => q.setF, rfl⟩⟩
  · rw [sth_out z, set_out (by rw [r.ln]; exact z)]; exact ⟨g, .rfl, rfl, r⟩
/-- .. by what is not the def's own -/
theorem Rep.setD (r : Rep K g σ H env) {i : Nat} {v : V} {e : Ev} (s : Sl K g H (some (some v)) [] e) (nf : isOwn e = false) : ∃ g', G.Le g g' ∧ g'.B = g.B ∧ Rep K g' (σ.set i (some v)) H (sth env i e) :=
  r.setE (fs := []) (s.mono G.setF_le fun b v o a => a.setF) (fun _ => rfl) fun j _ a m => nomatch m
/-- a value is stored -/
theorem Rep.set (r : Rep K g σ H env) {i : Nat} {v : V} {a : Ar} (w : Bool) (h : IsR K g H v a) : ∃ g', G.Le g g' ∧ Rep K g' (σ.set i (some v)) H (sth env i (toEv w a)) := by
  have fin : ∀ {e : Ev}, Sl K g H (some (some v)) [] e → isOwn e = false → ∃ g', G.Le g g' ∧ Rep K g' (σ.set i (some v)) H (sth env i e) := fun s n => by
    obtain ⟨g', l, _, R⟩ := r.setD (i := i) s n
    exact ⟨g', l, R⟩
  cases a with
  | d x => exact fin (e := .d x) ⟨v, rfl, h⟩ rfl
  | pool => obtain ⟨p, rfl, m⟩ := h; exact fin (e := .pool) ⟨p, rfl, m⟩ rfl
  | scr ns => obtain ⟨p, rfl, m⟩ := h; exact fin (e := .scr ns) ⟨p, rfl, m⟩ rfl
  | fr l =>
    obtain ⟨fs, o, ns⟩ := h
    cases w with
    | true =>
      obtain ⟨g', l', _, R⟩ := r.setE (i := i) (e := .own l) (fs := fs) ⟨v, rfl, o.setF⟩ (fun z => by cases z) fun j _ a m => ns j a m
      exact ⟨g', l', R⟩
    | false =>
      obtain ⟨g', l', _, R⟩ := (r.frzR o ns).setD (i := i) (e := .d l.d) ⟨v, rfl, .frz o⟩ rfl
      exact ⟨g', (G.frz_le o.pv).trans l', R⟩
/-- a result as data -/
def asD (k : D → Prop) : Ar → Prop
  | .d x => k x
  | .fr l => k l.d
  | .pool => False
  | .scr _ => False
theorem IsR.asD (r : Rep K g σ H env) {v : V} {a : Ar} {k : D → Prop} (h : IsR K g H v a) (q : asD k a) : ∃ x g', G.Le g g' ∧ Rep K g' σ H env ∧ Is K g'.B v x ∧ k x := by
  cases a with
  | d x => exact ⟨x, g, .rfl, r, h, q⟩
  | pool => exact q.elim
  | scr _ => exact q.elim
  | fr l => obtain ⟨fs, o, ns⟩ := h; exact ⟨l.d, _, G.frz_le o.pv, r.frzR o ns, .frz o, q⟩
/-- a cell of the def's own changes -/
theorem WOk.own (w : WOk g H) {p ys} (a : Priv g b p) (ni : ¬ Imm ys) (hp : ∃ u, H p = some u) : WOk g (upd H p ys) := by
  have n0 : ∀ {c u}, ¬ g.XA c → g.H0 c = some u → c ≠ p := fun {c u} x e z => by
    subst z
    rcases a.n0 with q | q
    · rw [q] at e; cases e
    · exact x q.2
  refine ⟨fun c o e => ?_, fun c m => ?_, fun c o e im => ?_, fun c o n n2 e => ?_, w.nw, fun c o e => ?_, w.m0, w.bn, fun c x => ?_⟩
  · have n : c ≠ p := fun z => by rw [z, a.nb] at e; cases e
    rw [upd_ne n]; exact w.sb c o e
  · obtain ⟨⟨x1, x2, x3, x4, h⟩, h2⟩ := w.pl c m
    have n : c ≠ p := fun z => a.nm (z ▸ m)
    exact ⟨⟨x1, x2, x3, x4, by rw [upd_ne n]; exact h⟩, h2⟩
  · by_cases q : c = p
    · subst q; rw [upd_same] at e; cases e; exact (ni im).elim
    · rw [upd_ne q] at e; exact w.im c o e im
  · have := w.fr c o n n2 e
    rw [upd_ne (n0 n2 e)]; exact this
  · obtain ⟨h1, h2, h3⟩ := w.pv c o e
    have n : c ≠ p := fun z => by rw [z, a.np] at e; cases e
    exact ⟨by rw [upd_ne n]; exact h1, h2, h3⟩
  · obtain ⟨⟨u, e⟩, q⟩ := w.xp c x
    by_cases n : c = p
    · subst n; exact ⟨⟨_, upd_same⟩, q⟩
    · exact ⟨⟨u, by rw [upd_ne n]; exact e⟩, q⟩
/-- a new cell is the def's own -/
theorem WOk.priv (w : WOk g H) {p : Addr} (hp : H p = none) : Priv g none p := by
  refine ⟨?_, fun m => ?_, .inl (w.entry_none hp), ?_⟩
  · cases e : g.B p with
    | none => rfl
    | some o => rw [w.sb _ _ e] at hp; cases hp
  · obtain ⟨⟨_, _, _, _, h⟩, _⟩ := w.pl p m
    rw [h] at hp; cases hp
  · cases e : g.P p with
    | none => rfl
    | some o => rw [(w.pv p o e).1] at hp; cases hp
theorem WOk.put (w : WOk g H) {p ys} (hp : H p = none) (ni : ¬ Imm ys) : WOk g (upd H p ys) := by
  have a := w.priv hp
  refine ⟨fun c o e => ?_, fun c m => ?_, fun c o e im => ?_, fun c o n n2 e => ?_, w.nw, fun c o e => ?_, w.m0, w.bn, fun c x => ?_⟩
  · have n : c ≠ p := fun z => by rw [z, a.nb] at e; cases e
    rw [upd_ne n]; exact w.sb c o e
  · obtain ⟨⟨x1, x2, x3, x4, h⟩, h2⟩ := w.pl c m
    have n : c ≠ p := fun z => a.nm (z ▸ m)
    exact ⟨⟨x1, x2, x3, x4, by rw [upd_ne n]; exact h⟩, h2⟩
  · by_cases q : c = p
    · subst q; rw [upd_same] at e; cases e; exact (ni im).elim
    · rw [upd_ne q] at e; exact w.im c o e im
  · have := w.fr c o n n2 e
    rw [upd_ne (ne_of_none this hp)]; exact this
  · obtain ⟨h1, h2, h3⟩ := w.pv c o e
    exact ⟨by rw [upd_ne (ne_of_none h1 hp)]; exact h1, h2, h3⟩
  · obtain ⟨⟨u, e⟩, q⟩ := w.xp c x
    exact ⟨⟨u, by rw [upd_ne (ne_of_none e hp)]; exact e⟩, q⟩
/-- .. a list or a dict, of data and of what no slot holds -/
theorem Rep.put (r : Rep K g σ H env) {p : Addr} {ho : HO} (hp : H p = none) (ni : ¬ Imm ho) : Rep K g σ (upd H p ho) env :=
  r.move (r.ok.put hp ni) .rfl rfl fun i a m => ⟨fun b q => q, by
    obtain ⟨v, o, b, _, _, oa⟩ := r.ownC m
    exact upd_ne (oa.ne hp a m)⟩
theorem Rep.off (r : Rep K g σ H env) {p : Addr} (hp : H p = none) : Off g [p] := fun i a m h => by
  rw [List.mem_singleton] at m
  subst m
  obtain ⟨v, o, b, _, _, oa⟩ := r.ownC h
  exact oa.ne hp _ h rfl
theorem upd_ls (r : Rep K g σ H env) {p : Addr} {xs : List V} {l : List D} (hp : H p = none) (i : Iss K g.B xs l) (z : xs.length ≤ 100000) :
    Rep K g σ (upd H p (.lst xs)) env ∧ OwnAt K g (upd H p (.lst xs)) none (.ref p) (.ls l) [p] ∧ Off g [p] :=
  ⟨r.put hp fun h => h, ⟨.l upd_same i z, (by simp), fun a m => (by rw [List.mem_singleton.mp m]; exact r.ok.priv hp), fun _ h => by cases h⟩, r.off hp⟩
theorem upd_dk (r : Rep K g σ H env) {p : Addr} {kvs : List (Key × V)} {ks : List Int} {ds : List D} (hp : H p = none) (k : kvs.map (·.1) = ks.map Sum.inl) (i : Iss K g.B (kvs.map (·.2)) ds) (z : kvs.length ≤ 100000) :
    Rep K g σ (upd H p (.dK kvs)) env ∧ OwnAt K g (upd H p (.dK kvs)) none (.ref p) (.dk ks ds) [p] ∧ Off g [p] :=
  ⟨r.put hp fun h => h, ⟨.dk upd_same k i z, (by simp), fun a m => (by rw [List.mem_singleton.mp m]; exact r.ok.priv hp), fun _ h => by cases h⟩, r.off hp⟩
theorem upd_own (r : Rep K g σ H env) {p : Addr} {xs : List V} {l : List D} (hp : H p = none) (i : Iss K g.B xs l) (z : xs.length ≤ 100000) :
    Rep K g σ (upd H p (.lst xs)) env ∧ IsR K g (upd H p (.lst xs)) (.ref p) (.fr (.ls l)) :=
  let ⟨R, o, ns⟩ := upd_ls r hp i z
  ⟨R, [p], o, ns⟩
end
end LR
set_option Elab.async false
set_option maxRecDepth 100000
set_option linter.all false
set_option maxHeartbeats 4000000
namespace LR
open PySem PySem.Spec PyProof.Rows L2
/-! # the data layer: what an expression asks of the data -/
structure Er where
  C : Addr
  fs : Option (List (Str × V))
def IsEr (B : Hp) (cls : Value) (dd : Option Addr) (e : Er) : Prop := cls = .ref e.C ∧ match e.fs with
  | none => dd = none
  | some fs => ∃ d, dd = some d ∧ B d = some (.xd fs)
abbrev DE := List Ev → (Er → Prop) → (Ar → Prop) → Prop
abbrev DT := List Ev → (Er → Prop) → (Bool → Prop) → Prop
abbrev DA := List Ev → (Er → Prop) → (List Ar → Prop) → Prop
inductive IsAs (K : PySem.W.Frag) (g : G) : List V → List Ar → Prop
  | nil : IsAs K g [] []
  | d {v x vs as} (h : Is K g.B v x) (t : IsAs K g vs as) : IsAs K g (v :: vs) (.d x :: as)
  | pool {p vs as} (h : g.M p) (t : IsAs K g vs as) : IsAs K g (.ref p :: vs) (.pool :: as)
  | scr {a ns vs as} (h : ScrAt K g.H0 (fun a => g.M0 a ∨ g.XA a) a (ns.map V.int)) (t : IsAs K g vs as) : IsAs K g (.ref a :: vs) (.scr ns :: as)
section
variable {K : PySem.W.Frag} {W : WX} {g g' : G} {σ : L2.St} {H H' : Hp} {env : List Ev} {Ed : Er → Prop}
theorem IsAs.mono (le : G.Le g g') : ∀ {vs as}, IsAs K g vs as → IsAs K g' vs as
  | _, _, .nil => .nil
  | _, _, .d h t => .d (h.mono le.b) (t.mono le)
  | _, _, .pool h t => .pool (le.m _ h) (t.mono le)
  | _, _, .scr h t => .scr (by rw [le.h0, le.m0, le.xa]; exact h) (t.mono le)
def KX (K : PySem.W.Frag) (W : WX) (g : G) (σ : L2.St) (env : List Ev) (Ed : Er → Prop) : Prop :=
  ∀ er cls dd H' g', G.Le g g' → Rep K g' σ H' env → IsEr g'.B cls dd er → Ed er → W cls dd σ H'
def KV (K : PySem.W.Frag) (g : G) (σ : L2.St) (env : List Ev) (Qd : Ar → Prop) (Q : VK) : Prop :=
  ∀ v r H' g', G.Le g g' → Rep K g' σ H' env → IsR K g' H' v r → Qd r → Q v H'
theorem KX.mono (k : KX K W g σ env Ed) (le : G.Le g g') : KX K W g' σ env Ed := fun er cls dd H' g'' l => k er cls dd H' g'' (le.trans l)
theorem KV.mono {Qd Q} (k : KV K g σ env Qd Q) (le : G.Le g g') : KV K g' σ env Qd Q := fun v r H' g'' l => k v r H' g'' (le.trans l)
end
def lift (K : PySem.W.Frag) (W : WX) (d : DE) : TE := fun σ H Q => ∃ g env Ed Qd, Rep K g σ H env ∧ d env Ed Qd ∧ KV K g σ env Qd Q ∧ KX K W g σ env Ed
def liftT (K : PySem.W.Frag) (W : WX) (d : DT) : TT := fun σ H Q => ∃ g env Ed Qd, Rep K g σ H env ∧ d env Ed Qd ∧ (∀ b H' g', G.Le g g' → Rep K g' σ H' env → Qd b → Q b H') ∧ KX K W g σ env Ed
def liftA (K : PySem.W.Frag) (W : WX) (d : DA) : TA := fun σ H Q => ∃ g env Ed Qd, Rep K g σ H env ∧ d env Ed Qd ∧ (∀ vs as H' g', G.Le g g' → Rep K g' σ H' env → IsAs K g' vs as → Qd as → Q vs H') ∧ KX K W g σ env Ed
def QE (X : Cx) (W : WX) (e : Expr) (d : DE) : Prop := PE X e (lift X.K W d)
def QT (X : Cx) (W : WX) (e : Expr) (d : DT) : Prop := PT X e (liftT X.K W d)
def QW (X : Cx) (W : WX) (e : Expr) (d : DT) : Prop := PW X e (liftT X.K W d)
def QA (X : Cx) (W : WX) (es : List Expr) (d : DA) : Prop := PA X es (liftA X.K W d)
abbrev PF := List Ev → Option D
def dP (p : PF) : DE := fun env _ Q => ∃ x, p env = some x ∧ Q (.d x)
def dPT (p : PF) : DT := fun env _ Q => ∃ b, p env = some (.bl b) ∧ Q b
def QP (X : Cx) (e : Expr) (p : PF) : Prop := ∀ W, QE X W e (dP p)
def QPT (X : Cx) (e : Expr) (p : PF) : Prop := ∀ W, QT X W e (dPT p)
theorem _root_.L2.PE.mono {X e t t'} (h : PE X e t) (m : ∀ σ H Q, t' σ H Q → t σ H Q) : PE X e t' := ⟨fun pins s σ H Q I q => h.run pins s σ H Q I (m _ _ _ q)⟩
theorem _root_.L2.PT.mono {X e t t'} (h : PT X e t) (m : ∀ σ H Q, t' σ H Q → t σ H Q) : PT X e t' := ⟨fun pins s σ H Q I q => h.run pins s σ H Q I (m _ _ _ q)⟩
theorem _root_.L2.PW.mono {X e t t'} (h : PW X e t) (m : ∀ σ H Q, t' σ H Q → t σ H Q) : PW X e t' := ⟨fun whole pins s σ H Q I q => h.run whole pins s σ H Q I (m _ _ _ q)⟩
theorem _root_.L2.PA.mono {X es t t'} (h : PA X es t) (m : ∀ σ H Q, t' σ H Q → t σ H Q) : PA X es t' := ⟨fun pos pins s σ H Q I q => h.run pos pins s σ H Q I (m _ _ _ q)⟩
section
variable {K : PySem.W.Frag} {W : WX} {g g' : G} {σ : L2.St} {H H' : Hp} {env : List Ev} {Ed : Er → Prop} {d : DE} {p : PF} {Q : VK}
theorem lift.use {Qd} (R : Rep K g σ H env) (h : d env Ed Qd) (kv : KV K g σ env Qd Q) (kx : KX K W g σ env Ed) : lift K W d σ H Q := ⟨g, env, Ed, Qd, R, h, kv, kx⟩
theorem lift.useD {k : D → Prop} (R : Rep K g σ H env) (h : d env Ed (asD k)) (kv : ∀ v x H' g', G.Le g g' → Rep K g' σ H' env → Is K g'.B v x → k x → Q v H') (kx : KX K W g σ env Ed) : lift K W d σ H Q :=
  ⟨g, env, Ed, asD k, R, h, fun v r H' g' le R' ir q => by
    obtain ⟨x, g'', le', R'', ix, q⟩ := ir.asD R' q
    exact kv v x H' g'' (le.trans le') R'' ix q, kx⟩
theorem lift.useP {x : D} (R : Rep K g σ H env) (h : p env = some x) (kv : ∀ v H' g', G.Le g g' → Rep K g' σ H' env → Is K g'.B v x → Q v H') : lift K W (dP p) σ H Q :=
  ⟨g, env, fun _ => False, asD (fun y => y = x), R, ⟨x, h, rfl⟩, fun v r H' g' le R' ir q => by
    obtain ⟨y, g'', le', R'', ix, rfl⟩ := ir.asD R' q
    exact kv v H' g'' (le.trans le') R'' ix, fun _ _ _ _ _ _ _ _ z => z.elim⟩
end
/-! ## names and constants -/
def pvar (i : Nat) : PF := fun env => match nth env i with
  | .d x => some x
  | _ => none
/-- any slot that is no list of the def's own -/
def dVar (i : Nat) : DE := fun env _ Q => match nth env i with
  | .d x => Q (.d x)
  | .pool => Q .pool
  | .scr ns => Q (.scr ns)
  | _ => False
def pc (x : D) : PF := fun _ => some x
section
variable {X : Cx} {W : WX} {e a b c : Expr} {i : Nat}
theorem qp_var (h : PE X e (tVar i)) : QP X e (pvar i) := fun W => h.mono fun σ H Q ⟨g, env, Ed, Qd, R, ⟨x, hx, q⟩, kv, kx⟩ => by
  have s := R.sl i
  unfold pvar at hx
  cases en : nth env i with
  | d y => rw [en] at s hx; cases hx; obtain ⟨v, e, iv⟩ := s; exact ⟨v, e, kv v (.d x) H g .rfl R iv q⟩
  | _ => rw [en] at hx; cases hx
theorem qe_var (h : PE X e (tVar i)) : QE X W e (dVar i) := h.mono fun σ H Q ⟨g, env, Ed, Qd, R, hx, kv, kx⟩ => by
  have s := R.sl i
  unfold dVar at hx
  cases en : nth env i with
  | d y => rw [en] at s hx; obtain ⟨v, e, iv⟩ := s; exact ⟨v, e, kv v (.d y) H g .rfl R iv hx⟩
  | pool => rw [en] at s hx; obtain ⟨v, e, iv⟩ := s; exact ⟨_, e, kv _ .pool H g .rfl R ⟨v, rfl, iv⟩ hx⟩
  | scr ns => rw [en] at s hx; obtain ⟨v, e, iv⟩ := s; exact ⟨_, e, kv _ (.scr ns) H g .rfl R ⟨v, rfl, iv⟩ hx⟩
  | _ => rw [en] at hx; exact hx.elim
theorem qp_c {v : V} {x : D} (h : PE X e (tC v)) (i : ∀ K B, Is K B v x) : QP X e (pc x) := fun W => h.mono fun σ H Q ⟨g, env, Ed, Qd, R, ⟨y, hx, q⟩, kv, kx⟩ => by
  cases hx
  exact kv v (.d x) H g .rfl R (i _ _) q
theorem qp_int {i : Int} {j pos} : QP X (.Constant (.int i) j pos) (pc (.int i)) := qp_c pe_int fun _ _ => .int i
theorem qp_bl {b j pos} : QP X (.Constant (.bool b) j pos) (pc (.bl b)) := qp_c pe_bl fun _ _ => .bl b
theorem qp_non {j pos} : QP X (.Constant .none j pos) (pc .non) := qp_c pe_non fun _ _ => .non
theorem qp_str {x : Str} {j pos} : QP X (.Constant (.str x) j pos) (pc (.str x)) := qp_c pe_str fun _ _ => .str x
theorem qp_ty {n : String} (h : PE X e (tC (.ty n))) : QP X e (pc (.ty n)) := qp_c h fun _ _ => .ty n
/-! ## operators -/
structure Op2 (K : PySem.W.Frag) (r : R2) (f : D → D → Option D) : Prop where
  ok : ∀ {g : G} {σ : L2.St} {H : Hp} {env : List Ev} {v u : V} {x y z : D} {Q : VK}, Rep K g σ H env → Is K g.B v x → Is K g.B u y → f x y = some z →
    (∀ v' H' g', G.Le g g' → Rep K g' σ H' env → Is K g'.B v' z → Q v' H') → r v u H Q
def p2 (f : D → D → Option D) (pa pb : PF) : PF := fun env => match pa env, pb env with
  | some x, some y => f x y
  | _, _ => none
def d2 (f : D → D → Option D) (da db : DE) : DE := fun env Ed Q => da env Ed (asD fun x => db env Ed (asD fun y => ∃ z, f x y = some z ∧ Q (.d z)))
theorem p2_some {f pa pb env z} (h : p2 f pa pb env = some z) : ∃ x y, pa env = some x ∧ pb env = some y ∧ f x y = some z := by
  unfold p2 at h
  cases ea : pa env with
  | none => rw [ea] at h; cases h
  | some x => cases eb : pb env with
    | none => rw [ea, eb] at h; cases h
    | some y => rw [ea, eb] at h; exact ⟨x, y, rfl, rfl, h⟩
theorem lift_op {K : PySem.W.Frag} {r : R2} {f : D → D → Option D} {da db : DE} {σ : L2.St} {H : Hp} {Q : VK} (hf : Op2 K r f) (h : lift K W (d2 f da db) σ H Q) : tOp r (lift K W da) (lift K W db) σ H Q := by
  obtain ⟨g, env, Ed, Qd, R, h, kv, kx⟩ := h
  exact lift.useD R h (fun v x H1 g1 l1 R1 i1 q1 => lift.useD R1 q1 (fun u y H2 g2 l2 R2 i2 ⟨z, ez, qz⟩ => hf.ok R2 (i1.mono l2.b) i2 ez fun v' H3 g3 l3 R3 i3 => kv v' (.d z) H3 g3 (l1.trans (l2.trans l3)) R3 i3 qz) (kx.mono l1)) kx
theorem lift_p2 {K : PySem.W.Frag} {r : R2} {f : D → D → Option D} {pa pb : PF} {σ : L2.St} {H : Hp} {Q : VK} (hf : Op2 K r f) (h : lift K W (dP (p2 f pa pb)) σ H Q) : tOp r (lift K W (dP pa)) (lift K W (dP pb)) σ H Q := by
  obtain ⟨g, env, Ed, Qd, R, ⟨z, hz, q⟩, kv, kx⟩ := h
  obtain ⟨x, y, ex, ey, ez⟩ := p2_some hz
  exact lift.useP R ex fun v H1 g1 l1 R1 i1 => lift.useP R1 ey fun u H2 g2 l2 R2 i2 => hf.ok R2 (i1.mono l2.b) i2 ez fun v' H3 g3 l3 R3 i3 => kv v' (.d z) H3 g3 (l1.trans (l2.trans l3)) R3 i3 q
theorem qe_op {op : Operator} {r : R2} {f da db pos} (ho : OpR X (binaryOp op) r) (hf : Op2 X.K r f) (ha : QE X W a da) (hb : QE X W b db) : QE X W (.BinOp a op b pos) (d2 f da db) := (pe_op ho ha hb).mono fun _ _ _ h => lift_op hf h
theorem qp_op {op : Operator} {r : R2} {f pa pb pos} (ho : OpR X (binaryOp op) r) (hf : Op2 X.K r f) (ha : QP X a pa) (hb : QP X b pb) : QP X (.BinOp a op b pos) (p2 f pa pb) := fun W => (pe_op ho (ha W) (hb W)).mono fun _ _ _ h => lift_p2 hf h
theorem qp_cmp {op : CmpOp} {r : R2} {f pa pb pos} (ho : OpR X (compareOp op) r) (hf : Op2 X.K r f) (ha : QP X a pa) (hb : QP X b pb) (hm : behindInMarks op b = false) : QP X (.Compare a [op] [b] pos) (p2 f pa pb) := fun W => (pe_cmpR ho (ha W) (hb W) hm).mono fun _ _ _ h => lift_p2 hf h
theorem qp_ix {r : R2} {f pa pb pos} (ho : IxR X r) (hf : Op2 X.K r f) (ha : QP X a pa) (hb : QP X b pb) (hs : PlainIx b) : QP X (.Subscript a b pos) (p2 f pa pb) := fun W => (pe_ix ho (ha W) (hb W) hs).mono fun _ _ _ h => lift_p2 hf h
theorem qe_ix {r : R2} {f da db pos} (ho : IxR X r) (hf : Op2 X.K r f) (ha : QE X W a da) (hb : QE X W b db) (hs : PlainIx b) : QE X W (.Subscript a b pos) (d2 f da db) := (pe_ix ho ha hb hs).mono fun _ _ _ h => lift_op hf h
/-- as a test -/
def dB (d : DE) : DT := fun env Ed Q => d env Ed fun r => ∃ b, r = .d (.bl b) ∧ Q b
theorem lift_dB {K : PySem.W.Frag} {d : DE} {σ : L2.St} {H : Hp} {Q : Bool → Hp → Prop} (h : liftT K W (dB d) σ H Q) : lift K W d σ H (fun v H' => ∃ k, v = .bl k ∧ Q k H') := by
  obtain ⟨g, env, Ed, Qd, R, h, kv, kx⟩ := h
  refine lift.use R h (fun v r H' g' le R' ir ⟨b, e, q⟩ => ?_) kx
  subst e
  exact ⟨b, Is.blE ir, kv b H' g' le R' q⟩
theorem qt_cmp {op : CmpOp} {r : R2} {f da db pos} (ho : OpR X (compareOp op) r) (hf : Op2 X.K r f) (ha : QE X W a da) (hb : QE X W b db) (hm : behindInMarks op b = false) : QT X W (.Compare a [op] [b] pos) (dB (d2 f da db)) := (pt_cmpR ho ha hb hm).mono fun _ _ _ h => lift_op hf (lift_dB h)
theorem dPT_dP {p : PF} {env Ed Q} (h : dPT p env Ed Q) : dB (dP p) env Ed Q := let ⟨b, e, q⟩ := h; ⟨.bl b, e, b, rfl, q⟩
theorem liftT.imp {K : PySem.W.Frag} {d d' : DT} {σ : L2.St} {H : Hp} {Q : Bool → Hp → Prop} (m : ∀ env Ed Q, d' env Ed Q → d env Ed Q) (h : liftT K W d' σ H Q) : liftT K W d σ H Q :=
  let ⟨g, env, Ed, Qd, R, h, kv, kx⟩ := h; ⟨g, env, Ed, Qd, R, m _ _ _ h, kv, kx⟩
theorem lift.imp {K : PySem.W.Frag} {d d' : DE} {σ : L2.St} {H : Hp} {Q : VK} (m : ∀ env Ed Q, d' env Ed Q → d env Ed Q) (h : lift K W d' σ H Q) : lift K W d σ H Q :=
  let ⟨g, env, Ed, Qd, R, h, kv, kx⟩ := h; ⟨g, env, Ed, Qd, R, m _ _ _ h, kv, kx⟩
theorem qpt_cmp {op : CmpOp} {r : R2} {f pa pb pos} (ho : OpR X (compareOp op) r) (hf : Op2 X.K r f) (ha : QP X a pa) (hb : QP X b pb) (hm : behindInMarks op b = false) : QPT X (.Compare a [op] [b] pos) (p2 f pa pb) := fun W => (pt_cmpR ho (ha W) (hb W) hm).mono fun _ _ _ h => lift_p2 hf (lift_dB (h.imp fun _ _ _ => dPT_dP))
theorem qe_p {p} (h : QP X e p) : QE X W e (dP p) := h W
theorem qt_p {p} (h : QPT X e p) : QT X W e (dPT p) := h W
/-! ### chains of two comparisons -/
def andD (x y : Option D) : Option D := match x with
  | some (.bl a) => match y with
    | some (.bl b) => some (.bl (a && b))
    | _ => if a = true then none else some (.bl false)
  | _ => none
def orD (x y : Option D) : Option D := match x with
  | some (.bl a) => match y with
    | some (.bl b) => some (.bl (a || b))
    | _ => if a = true then some (.bl true) else none
  | _ => none
def notD : D → Option D
  | .bl b => some (.bl (!b))
  | _ => none
theorem andD_some {x y z} (h : andD x y = some z) : ∃ a, x = some (.bl a) ∧ ((a = true ∧ ∃ b, y = some (.bl b) ∧ z = .bl b) ∨ (a = false ∧ z = .bl false)) := by
  unfold andD at h
  split at h
  · rename_i a
    refine ⟨a, rfl, ?_⟩
    split at h
    · rename_i b
      cases h
      cases a with
      | true => exact .inl ⟨rfl, b, rfl, by simp⟩
      | false => exact .inr ⟨rfl, by simp⟩
    · cases a with
      | true => simp at h
      | false => simp at h; exact .inr ⟨rfl, h.symm⟩
  · cases h
theorem orD_some {x y z} (h : orD x y = some z) : ∃ a, x = some (.bl a) ∧ ((a = false ∧ ∃ b, y = some (.bl b) ∧ z = .bl b) ∨ (a = true ∧ z = .bl true)) := by
  unfold orD at h
  split at h
  · rename_i a
    refine ⟨a, rfl, ?_⟩
    split at h
    · rename_i b
      cases h
      cases a with
      | false => exact .inl ⟨rfl, b, rfl, by simp⟩
      | true => exact .inr ⟨rfl, by simp⟩
    · cases a with
      | false => simp at h
      | true => simp at h; exact .inr ⟨rfl, h.symm⟩
  · cases h
def pchain (f f' : D → D → Option D) (pa pb pc : PF) : PF := fun env => andD (p2 f pa pb env) (p2 f' pb pc env)
theorem lift_chain {K : PySem.W.Frag} {r r' : R2} {f f' : D → D → Option D} {pa pb pc : PF} {σ : L2.St} {H : Hp} {Q : VK} (hf : Op2 K r f) (hf' : Op2 K r' f') (h : lift K W (dP (pchain f f' pa pb pc)) σ H Q) : tChain r r' (lift K W (dP pa)) (lift K W (dP pb)) (lift K W (dP pc)) σ H Q := by
  obtain ⟨g, env, Ed, Qd, R, ⟨z, hz, q⟩, kv, kx⟩ := h
  obtain ⟨k, e1, h⟩ := andD_some hz
  obtain ⟨x, y, ex, ey, ez⟩ := p2_some e1
  refine lift.useP R ex fun v H1 g1 l1 R1 i1 => lift.useP R1 ey fun u H2 g2 l2 R2 i2 => hf.ok R2 (i1.mono l2.b) i2 ez fun v' H3 g3 l3 R3 i3 => ?_
  refine ⟨k, i3.blE, ?_⟩
  rcases h with ⟨rfl, b, e2, rfl⟩ | ⟨rfl, rfl⟩
  · obtain ⟨y', w, ey', ew, ez'⟩ := p2_some e2
    rw [ey] at ey'; cases ey'
    rw [if_pos rfl]
    exact lift.useP R3 ew fun u' H4 g4 l4 R4 i4 => hf'.ok R4 ((i2.mono l3.b).mono l4.b) i4 ez' fun v5 H5 g5 l5 R5 i5 => kv v5 (.d (.bl b)) H5 g5 (l1.trans (l2.trans (l3.trans (l4.trans l5)))) R5 i5 q
  · rw [if_neg (by decide)]
    exact kv _ (.d (.bl false)) H3 g3 (l1.trans (l2.trans l3)) R3 (.bl false) q
theorem qpt_chain {op op' : CmpOp} {r r' : R2} {f f' pa pb pc pos} (ho : OpR X (compareOp op) r) (ho' : OpR X (compareOp op') r') (hf : Op2 X.K r f) (hf' : Op2 X.K r' f') (ha : QP X a pa) (hb : QP X b pb) (hc : QP X c pc)
    (hm : lastMarks [op, op'] [b, c] = false := by with_unfolding_all rfl) : QPT X (.Compare a [op, op'] [b, c] pos) (pchain f f' pa pb pc) := fun W => (pt_chain ho ho' (ha W) (hb W) (hc W) hm).mono fun _ _ _ h => lift_chain hf hf' (lift_dB (h.imp fun _ _ _ => dPT_dP))
/-! ## and, or, not, if .. else -/
def pand (pa pb : PF) : PF := fun env => andD (pa env) (pb env)
def por (pa pb : PF) : PF := fun env => orD (pa env) (pb env)
def p1 (f : D → Option D) (pa : PF) : PF := fun env => match pa env with
  | some x => f x
  | none => none
theorem p1_some {f pa env z} (h : p1 f pa env = some z) : ∃ x, pa env = some x ∧ f x = some z := by
  unfold p1 at h
  cases ea : pa env with
  | none => rw [ea] at h; cases h
  | some x => rw [ea] at h; exact ⟨x, rfl, h⟩
def dand (da db : DE) : DE := fun env Ed Q => da env Ed fun r => ∃ c, r = .d (.bl c) ∧ (c = true → db env Ed Q) ∧ (c = false → Q (.d (.bl false)))
def dor (da db : DE) : DE := fun env Ed Q => da env Ed fun r => ∃ c, r = .d (.bl c) ∧ (c = true → Q (.d (.bl true))) ∧ (c = false → db env Ed Q)
def d1 (f : D → Option D) (da : DE) : DE := fun env Ed Q => da env Ed (asD fun x => ∃ z, f x = some z ∧ Q (.d z))
theorem pand_and {pa pb : PF} {env Ed Q} (h : dP (pand pa pb) env Ed Q) : dand (dP pa) (dP pb) env Ed Q := by
  obtain ⟨z, h, q⟩ := h
  obtain ⟨k, e1, h⟩ := andD_some h
  rcases h with ⟨rfl, b, e2, rfl⟩ | ⟨rfl, rfl⟩
  · exact ⟨_, e1, true, rfl, fun _ => ⟨_, e2, q⟩, fun z => by cases z⟩
  · exact ⟨_, e1, false, rfl, fun z => (by cases z), fun _ => q⟩
theorem por_or {pa pb : PF} {env Ed Q} (h : dP (por pa pb) env Ed Q) : dor (dP pa) (dP pb) env Ed Q := by
  obtain ⟨z, h, q⟩ := h
  obtain ⟨k, e1, h⟩ := orD_some h
  rcases h with ⟨rfl, b, e2, rfl⟩ | ⟨rfl, rfl⟩
  · exact ⟨_, e1, false, rfl, fun z => (by cases z), fun _ => ⟨_, e2, q⟩⟩
  · exact ⟨_, e1, true, rfl, fun _ => q, fun z => by cases z⟩
theorem qe_and {da db rest pos} (ha : QE X W a da) (hb : QE X W (.BoolOp .And (b :: rest) pos) db) : QE X W (.BoolOp .And (a :: b :: rest) pos) (dand da db) := (pe_and ha hb).mono fun σ H Q ⟨g, env, Ed, Qd, R, h, kv, kx⟩ => by
  refine lift.use R h (fun v r H1 g1 l1 R1 i1 ⟨c, e, q1, q2⟩ => ?_) kx
  subst e
  refine ⟨c, Is.blE i1, ?_⟩
  cases c with
  | true => rw [if_pos rfl]; exact lift.use R1 (q1 rfl) (kv.mono l1) (kx.mono l1)
  | false => rw [if_neg (by decide)]; exact kv _ (.d (.bl false)) H1 g1 l1 R1 (Is.bl false) (q2 rfl)
theorem qe_or {da db rest pos} (ha : QE X W a da) (hb : QE X W (.BoolOp .Or (b :: rest) pos) db) : QE X W (.BoolOp .Or (a :: b :: rest) pos) (dor da db) := (pe_or ha hb).mono fun σ H Q ⟨g, env, Ed, Qd, R, h, kv, kx⟩ => by
  refine lift.use R h (fun v r H1 g1 l1 R1 i1 ⟨c, e, q1, q2⟩ => ?_) kx
  subst e
  refine ⟨c, Is.blE i1, ?_⟩
  cases c with
  | true => rw [if_pos rfl]; exact kv _ (.d (.bl true)) H1 g1 l1 R1 (Is.bl true) (q1 rfl)
  | false => rw [if_neg (by decide)]; exact lift.use R1 (q2 rfl) (kv.mono l1) (kx.mono l1)
theorem qp_one {op p pos} (h : QP X a p) : QP X (.BoolOp op [a] pos) p := fun W => pe_one (h W)
theorem qe_one {op d pos} (h : QE X W a d) : QE X W (.BoolOp op [a] pos) d := pe_one h
theorem qp_and {pa pb rest pos} (ha : QP X a pa) (hb : QP X (.BoolOp .And (b :: rest) pos) pb) : QP X (.BoolOp .And (a :: b :: rest) pos) (pand pa pb) := fun W => (qe_and (ha W) (hb W)).mono fun _ _ _ h => h.imp fun _ _ _ => pand_and
theorem qp_or {pa pb rest pos} (ha : QP X a pa) (hb : QP X (.BoolOp .Or (b :: rest) pos) pb) : QP X (.BoolOp .Or (a :: b :: rest) pos) (por pa pb) := fun W => (qe_or (ha W) (hb W)).mono fun _ _ _ h => h.imp fun _ _ _ => por_or
theorem qe_not {d pos} (h : QE X W a d) : QE X W (.UnaryOp .Not a pos) (d1 notD d) := (pe_not h).mono fun σ H Q ⟨g, env, Ed, Qd, R, h, kv, kx⟩ => by
  refine lift.useD R h (fun v x H1 g1 l1 R1 i1 ⟨z, e, q⟩ => ?_) kx
  cases x with
  | bl b => cases e; exact ⟨b, i1.blE, kv _ (.d (.bl (!b))) H1 g1 l1 R1 (Is.bl (!b)) q⟩
  | _ => cases e
theorem p1_d1 {f p env Ed Q} (h : dP (p1 f p) env Ed Q) : d1 f (dP p) env Ed Q := by
  obtain ⟨z, h, q⟩ := h
  obtain ⟨x, e1, e2⟩ := p1_some h
  exact ⟨x, e1, z, e2, q⟩
theorem qp_not {p pos} (h : QP X a p) : QP X (.UnaryOp .Not a pos) (p1 notD p) := fun W => (qe_not (h W)).mono fun _ _ _ h => h.imp fun _ _ _ => p1_d1
/-! ### tests -/
def tand (da db : DT) : DT := fun env Ed Q => da env Ed fun c => (c = true → db env Ed Q) ∧ (c = false → Q false)
def tor (da db : DT) : DT := fun env Ed Q => da env Ed fun c => (c = true → Q true) ∧ (c = false → db env Ed Q)
def tnot (da : DT) : DT := fun env Ed Q => da env Ed fun c => Q (!c)
section
variable {K : PySem.W.Frag} {σ : L2.St} {H : Hp} {Q : Bool → Hp → Prop} {da db : DT}
theorem lift_tand (h : liftT K W (tand da db) σ H Q) : tAnd (liftT K W da) (liftT K W db) σ H Q := by
  obtain ⟨g, env, Ed, Qd, R, h, kv, kx⟩ := h
  refine ⟨g, env, Ed, _, R, h, fun c H1 g1 l1 R1 ⟨q1, q2⟩ => ?_, kx⟩
  cases c with
  | true => rw [if_pos rfl]; exact ⟨g1, env, Ed, Qd, R1, q1 rfl, fun b H' g' l => kv b H' g' (l1.trans l), kx.mono l1⟩
  | false => rw [if_neg (by decide)]; exact kv false H1 g1 l1 R1 (q2 rfl)
theorem lift_tor (h : liftT K W (tor da db) σ H Q) : tOr (liftT K W da) (liftT K W db) σ H Q := by
  obtain ⟨g, env, Ed, Qd, R, h, kv, kx⟩ := h
  refine ⟨g, env, Ed, _, R, h, fun c H1 g1 l1 R1 ⟨q1, q2⟩ => ?_, kx⟩
  cases c with
  | true => rw [if_pos rfl]; exact kv true H1 g1 l1 R1 (q1 rfl)
  | false => rw [if_neg (by decide)]; exact ⟨g1, env, Ed, Qd, R1, q2 rfl, fun b H' g' l => kv b H' g' (l1.trans l), kx.mono l1⟩
theorem pand_tand {pa pb : PF} {env Ed Q} (h : dPT (pand pa pb) env Ed Q) : tand (dPT pa) (dPT pb) env Ed Q := by
  obtain ⟨z, h, q⟩ := h
  obtain ⟨k, e1, h⟩ := andD_some h
  rcases h with ⟨rfl, b, e2, e3⟩ | ⟨rfl, e3⟩
  · cases e3; exact ⟨_, e1, fun _ => ⟨_, e2, q⟩, fun z => by cases z⟩
  · cases e3; exact ⟨_, e1, fun z => (by cases z), fun _ => q⟩
theorem por_tor {pa pb : PF} {env Ed Q} (h : dPT (por pa pb) env Ed Q) : tor (dPT pa) (dPT pb) env Ed Q := by
  obtain ⟨z, h, q⟩ := h
  obtain ⟨k, e1, h⟩ := orD_some h
  rcases h with ⟨rfl, b, e2, e3⟩ | ⟨rfl, e3⟩
  · cases e3; exact ⟨_, e1, fun z => (by cases z), fun _ => ⟨_, e2, q⟩⟩
  · cases e3; exact ⟨_, e1, fun _ => q, fun z => by cases z⟩
end
theorem qw_and {da db rest pos} (ha : QT X W a da) (hb : QW X W (.BoolOp .And (b :: rest) pos) db) : QW X W (.BoolOp .And (a :: b :: rest) pos) (tand da db) := (pw_and ha hb).mono fun _ _ _ h => lift_tand h
theorem qw_or {da db rest pos} (ha : QT X W a da) (hb : QW X W (.BoolOp .Or (b :: rest) pos) db) : QW X W (.BoolOp .Or (a :: b :: rest) pos) (tor da db) := (pw_or ha hb).mono fun _ _ _ h => lift_tor h
theorem qw_and1 {d pos} (h : QT X W a d) : QW X W (.BoolOp .And [a] pos) d := pw_and1 h
theorem qw_or1 {d pos} (h : QT X W a d) : QW X W (.BoolOp .Or [a] pos) d := pw_or1 h
theorem QW.qt {d} (h : QW X W e d) : QT X W e d := PW.pt h
def QPW (X : Cx) (e : Expr) (p : PF) : Prop := ∀ W, QW X W e (dPT p)
theorem qpw_and {pa pb rest pos} (ha : QPT X a pa) (hb : QPW X (.BoolOp .And (b :: rest) pos) pb) : QPW X (.BoolOp .And (a :: b :: rest) pos) (pand pa pb) := fun W => (qw_and (ha W) (hb W)).mono fun _ _ _ h => h.imp fun _ _ _ => pand_tand
theorem qpw_or {pa pb rest pos} (ha : QPT X a pa) (hb : QPW X (.BoolOp .Or (b :: rest) pos) pb) : QPW X (.BoolOp .Or (a :: b :: rest) pos) (por pa pb) := fun W => (qw_or (ha W) (hb W)).mono fun _ _ _ h => h.imp fun _ _ _ => por_tor
theorem qpw_and1 {d pos} (h : QPT X a d) : QPW X (.BoolOp .And [a] pos) d := fun W => pw_and1 (h W)
theorem qpw_or1 {d pos} (h : QPT X a d) : QPW X (.BoolOp .Or [a] pos) d := fun W => pw_or1 (h W)
theorem QPW.qpt {d} (h : QPW X e d) : QPT X e d := fun W => PW.pt (h W)
theorem qt_not {d pos} (h : QT X W a d) : QT X W (.UnaryOp .Not a pos) (tnot d) := (pt_not h).mono fun σ H Q ⟨g, env, Ed, Qd, R, h, kv, kx⟩ => ⟨g, env, Ed, _, R, h, fun c H1 g1 l1 R1 q => kv (!c) H1 g1 l1 R1 q, kx⟩
theorem qpt_not {p pos} (h : QPT X a p) : QPT X (.UnaryOp .Not a pos) (p1 notD p) := fun W => (qt_not (h W)).mono fun _ _ _ h => h.imp fun env Ed Q ⟨b, e, q⟩ => by
  obtain ⟨x, e1, e2⟩ := p1_some e
  cases x with
  | bl c => cases e2; exact ⟨c, e1, q⟩
  | _ => cases e2
/-- a value's truth -/
def truD : D → Option D
  | .non => some (.bl false)
  | .bl b => some (.bl b)
  | .int i => some (.bl (i != 0))
  | .lst l => some (.bl (!l.isEmpty))
  | .tup l => some (.bl (!l.isEmpty))
  | .dic ks _ => some (.bl (!ks.isEmpty))
  | _ => none
theorem Iss.isEmpty {K B xs ds} (h : Iss K B xs ds) : xs.isEmpty = ds.isEmpty := by cases h <;> rfl
theorem tru_is {K : PySem.W.Frag} {B H : Hp} {v : V} {x : D} {k : Bool} (s : Same B H) (i : Is K B v x) (h : truD x = some (.bl k)) : TruV K v H k := by
  cases i <;> simp [truD] at h
  · exact h
  · exact h.symm
  · exact h.symm
  · rename_i l a z; exact .inl ⟨_, SqL.of (s _ _ l), by rw [a.isEmpty, h, Bool.not_not]⟩
  · rename_i l a z; exact .inr (.inl ⟨_, SqT.of (s _ _ l), by rw [a.isEmpty, h, Bool.not_not]⟩)
  · rename_i l hk a z
    refine .inr (.inr ⟨_, s _ _ l, ?_⟩)
    have : ∀ {kvs : List (Key × V)} {ks : List Int}, kvs.map (·.1) = ks.map Sum.inl → kvs.isEmpty = ks.isEmpty := fun {kvs ks} e => by
      cases kvs <;> cases ks <;> first | rfl | simp at e
    rw [this hk, h, Bool.not_not]
def dTru (d : DE) : DT := fun env Ed Q => d env Ed (asD fun x => ∃ k, truD x = some (.bl k) ∧ Q k)
theorem qt_truth {d} (h : QE X W a d) (he : ∀ whole, isTrue a X.env whole = (do let v ← whole; standAt a.pos; holding [v] (truthy v)) := by intro _; rfl) : QT X W a (dTru d) := (pt_truth h he).mono fun σ H Q ⟨g, env, Ed, Qd, R, h, kv, kx⟩ => by
  refine lift.useD R h (fun v x H1 g1 l1 R1 i1 ⟨k, e, q⟩ => ?_) kx
  exact ⟨k, tru_is R1.ok.sb i1 e, kv k H1 g1 l1 R1 q⟩
theorem qpt_truth {p} (h : QP X a p) (he : ∀ whole, isTrue a X.env whole = (do let v ← whole; standAt a.pos; holding [v] (truthy v)) := by intro _; rfl) : QPT X a (p1 truD p) := fun W => (qt_truth (h W) he).mono fun _ _ _ h => h.imp fun env Ed Q ⟨b, e, q⟩ => by
  obtain ⟨x, e1, e2⟩ := p1_some e
  exact ⟨x, e1, b, e2, q⟩
/-! ### a if c else b -/
def dif (c : DT) (da db : DE) : DE := fun env Ed Q => c env Ed fun k => (k = true → da env Ed Q) ∧ (k = false → db env Ed Q)
def pif (c pa pb : PF) : PF := fun env => match c env with
  | some (.bl true) => pa env
  | some (.bl false) => pb env
  | _ => none
theorem qe_if {dc da db pos} (hc : QT X W c dc) (ha : QE X W a da) (hb : QE X W b db) : QE X W (.IfExp c a b pos) (dif dc da db) := (pe_ifExp hc ha hb).mono fun σ H Q ⟨g, env, Ed, Qd, R, h, kv, kx⟩ => by
  refine ⟨g, env, Ed, _, R, h, fun k H1 g1 l1 R1 ⟨q1, q2⟩ => ?_, kx⟩
  cases k with
  | true => rw [if_pos rfl]; exact lift.use R1 (q1 rfl) (kv.mono l1) (kx.mono l1)
  | false => rw [if_neg (by decide)]; exact lift.use R1 (q2 rfl) (kv.mono l1) (kx.mono l1)
theorem qp_if {c' pa pb pos} (hc : QPT X c c') (ha : QP X a pa) (hb : QP X b pb) : QP X (.IfExp c a b pos) (pif c' pa pb) := fun W => (qe_if (hc W) (ha W) (hb W)).mono fun _ _ _ h => h.imp fun env Ed Q ⟨z, e, q⟩ => by
  unfold pif at e
  split at e
  · rename_i h; exact ⟨true, h, fun _ => ⟨z, e, q⟩, fun z => by cases z⟩
  · rename_i h; exact ⟨false, h, fun z => (by cases z), fun _ => ⟨z, e, q⟩⟩
  · cases e
end
/-! ## arguments, lists and tuples -/
def argR (k : Ar → Prop) : Ar → Prop
  | .fr l => k (.d l.d)
  | a => k a
def daNil : DA := fun _ _ Q => Q []
def daCons (d : DE) (r : DA) : DA := fun env Ed Q => d env Ed (argR fun a => r env Ed fun as => Q (a :: as))
def allD : List Ar → Option (List D)
  | [] => some []
  | .d x :: r => match allD r with
    | some l => some (x :: l)
    | none => none
  | _ :: _ => none
def dTup (da : DA) : DE := fun env Ed Q => da env Ed fun as => ∃ l, allD as = some l ∧ l.length ≤ 1000 ∧ Q (.d (.tup l))
def dLst (da : DA) : DE := fun env Ed Q => da env Ed fun as => ∃ l, allD as = some l ∧ l.length ≤ 1000 ∧ Q (.fr (.ls l))
def evs : List PF → List Ev → Option (List D)
  | [], _ => some []
  | p :: r, env => match p env, evs r env with
    | some x, some l => some (x :: l)
    | _, _ => none
def daP (ps : List PF) : DA := fun env _ Q => ∃ xs, evs ps env = some xs ∧ Q (xs.map .d)
theorem evs_some {p r env z} (h : evs (p :: r) env = some z) : ∃ x l, p env = some x ∧ evs r env = some l ∧ z = x :: l := by
  unfold evs at h
  cases ea : p env with
  | none => rw [ea] at h; cases h
  | some x => cases eb : evs r env with
    | none => rw [ea, eb] at h; cases h
    | some y => rw [ea, eb] at h; cases h; exact ⟨x, y, rfl, rfl, rfl⟩
theorem allD_map : ∀ l : List D, allD (l.map .d) = some l
  | [] => rfl
  | x :: r => by rw [List.map_cons, allD, allD_map r]
section
variable {K : PySem.W.Frag} {g : G}
theorem IsAs.all : ∀ {vs as l}, IsAs K g vs as → allD as = some l → Iss K g.B vs l
  | _, _, _, .nil, h => by cases h; exact .nil
  | _, _, _, @IsAs.d _ _ v x vs as i t, h => by
    unfold allD at h
    cases e : allD as with
    | none => rw [e] at h; cases h
    | some m => rw [e] at h; cases h; exact .cons i (t.all e)
  | _, _, _, .pool _ _, h => by cases h
  | _, _, _, .scr _ _, h => by cases h
theorem IsAs.ofD : ∀ {vs l}, Iss K g.B vs l → IsAs K g vs (l.map .d)
  | _, _, .nil => .nil
  | _, _, .cons h t => .d h (IsAs.ofD t)
end
section
variable {X : Cx} {W : WX} {e : Expr} {es : List Expr}
theorem qa_nil : QA X W [] daNil := pa_nil.mono fun σ H Q ⟨g, env, Ed, Qd, R, h, kv, kx⟩ => kv [] [] H g .rfl R .nil h
theorem IsR.arg {K : PySem.W.Frag} {g : G} {σ : L2.St} {H : Hp} {env : List Ev} (r : Rep K g σ H env) {v : V} {a : Ar} {k : Ar → Prop} (h : IsR K g H v a) (q : argR k a) : ∃ b g', G.Le g g' ∧ Rep K g' σ H env ∧ (∀ g'' vs as, G.Le g' g'' → IsAs K g'' vs as → IsAs K g'' (v :: vs) (b :: as)) ∧ k b := by
  cases a with
  | d x => exact ⟨_, g, .rfl, r, fun g'' vs as le t => .d (Is.mono le.b h) t, q⟩
  | pool => obtain ⟨p, rfl, m⟩ := h; exact ⟨_, g, .rfl, r, fun g'' vs as le t => .pool (le.m _ m) t, q⟩
  | scr ns => obtain ⟨p, rfl, m⟩ := h; exact ⟨_, g, .rfl, r, fun g'' vs as le t => .scr (by rw [le.h0, le.m0, le.xa]; exact m) t, q⟩
  | fr l => obtain ⟨fs, o, ns⟩ := h; exact ⟨_, _, G.frz_le o.pv, r.frzR o ns, fun g'' vs as le t => .d (Is.mono le.b (.frz o)) t, q⟩
theorem qa_cons {d r} (h : QE X W e d) (t : QA X W es r) (hs : starEach (e :: es) X.env = (false, eval e X.env) :: starEach es X.env := by rfl) : QA X W (e :: es) (daCons d r) := (pa_cons h t hs).mono fun σ H Q ⟨g, env, Ed, Qd, R, h, kv, kx⟩ => by
  refine lift.use R h (fun v a H1 g1 l1 R1 i1 q1 => ?_) kx
  obtain ⟨b, g2, l2, R2, add, q⟩ := i1.arg R1 q1
  exact ⟨g2, env, Ed, _, R2, q, fun vs as H3 g3 l3 R3 i3 q3 => kv _ _ H3 g3 ((l1.trans l2).trans l3) R3 (add _ _ _ l3 i3) q3, (kx.mono l1).mono l2⟩
def QPs (X : Cx) (es : List Expr) (ps : List PF) : Prop := ∀ W, QA X W es (daP ps)
theorem qps_nil : QPs X [] [] := fun W => qa_nil.mono fun σ H Q ⟨g, env, Ed, Qd, R, ⟨xs, e, h⟩, kv, kx⟩ => by
  cases e
  exact ⟨g, env, Ed, Qd, R, h, kv, kx⟩
theorem qps_cons {p ps} (h : QP X e p) (t : QPs X es ps) (hs : starEach (e :: es) X.env = (false, eval e X.env) :: starEach es X.env := by rfl) : QPs X (e :: es) (p :: ps) := fun W => (qa_cons (h W) (t W) hs).mono fun σ H Q ⟨g, env, Ed, Qd, R, ⟨xs, e, h⟩, kv, kx⟩ => by
  obtain ⟨x, l, e1, e2, rfl⟩ := evs_some e
  exact ⟨g, env, Ed, Qd, R, ⟨x, e1, l, e2, h⟩, kv, kx⟩
theorem len_1000 {n : Nat} (h : n ≤ 1000) : n ≤ sizeLine := by rw [sizeLine_eq]; omega
theorem qe_tup {da x1 pos} (h : QA X W es da) : QE X W (.Tuple es x1 pos) (dTup da) := (pe_tup h).mono fun σ H Q ⟨g, env, Ed, Qd, R, h, kv, kx⟩ => by
  refine ⟨g, env, Ed, _, R, h, fun vs as H1 g1 l1 R1 i1 ⟨l, e, z, q⟩ => ⟨?_, fun p hp => ?_⟩, kx⟩
  · rw [(i1.all e).length]; exact len_1000 z
  · have i2 := i1.all e
    refine kv _ (.d (.tup l)) _ _ (l1.trans (R1.le_new hp)) (R1.new hp) (Is.tup (xs := vs) (by show upd g1.B p _ p = _; exact upd_same) (i2.mono (R1.le_new hp).b) (by rw [i2.length]; omega)) q
theorem qe_lst {da pos} (h : QA X W es da) : QE X W (.List es pos) (dLst da) := (pe_lst h).mono fun σ H Q ⟨g, env, Ed, Qd, R, h, kv, kx⟩ => by
  refine ⟨g, env, Ed, _, R, h, fun vs as H1 g1 l1 R1 i1 ⟨l, e, z, q⟩ => ⟨?_, fun p hp => ?_⟩, kx⟩
  · rw [(i1.all e).length]; exact len_1000 z
  · obtain ⟨R2, r2⟩ := upd_own R1 hp (i1.all e) (by rw [(i1.all e).length]; omega)
    exact kv _ _ _ _ l1 R2 r2 q
def ptup (ps : List PF) : PF := fun env => match evs ps env with
  | some l => some (.tup l)
  | none => none
def plst (ps : List PF) : PF := fun env => match evs ps env with
  | some l => some (.lst l)
  | none => none
theorem evs_len : ∀ {ps env l}, evs ps env = some l → l.length = ps.length
  | [], _, _, h => by cases h; rfl
  | p :: ps, _, _, h => by
    obtain ⟨x, m, _, e, rfl⟩ := evs_some h
    rw [List.length_cons, List.length_cons, evs_len e]
theorem qp_tup {ps x1 pos} (h : QPs X es ps) (z : ps.length ≤ 1000 := by decide) : QP X (.Tuple es x1 pos) (ptup ps) := fun W => (qe_tup (h W)).mono fun σ H Q ⟨g, env, Ed, Qd, R, ⟨x, e, q⟩, kv, kx⟩ => by
  unfold ptup at e
  cases ee : evs ps env with
  | none => rw [ee] at e; cases e
  | some l => rw [ee] at e; cases e; exact ⟨g, env, Ed, Qd, R, ⟨l, ee, l, allD_map l, by rw [evs_len ee]; exact z, q⟩, kv, kx⟩
/-- a fresh list as data -/
theorem lift_fr {K : PySem.W.Frag} {g : G} {σ : L2.St} {H : Hp} {env : List Ev} {Ed : Er → Prop} {Qd : Ar → Prop} {Q : VK} {l : List D} (kv : KV K g σ env Qd Q) (q : Qd (.d (.lst l))) : KV K g σ env (fun r => r = .fr (.ls l)) Q := fun v r H' g' le R' ir e => by
  subst e
  obtain ⟨fs, o, ns⟩ := ir
  exact kv _ (.d (.lst l)) H' _ (le.trans (G.frz_le o.pv)) (R'.frzR o ns) (.frz o) q
theorem qp_lst {ps pos} (h : QPs X es ps) (z : ps.length ≤ 1000 := by decide) : QP X (.List es pos) (plst ps) := fun W => (qe_lst (h W)).mono fun σ H Q ⟨g, env, Ed, Qd, R, ⟨x, e, q⟩, kv, kx⟩ => by
  unfold plst at e
  cases ee : evs ps env with
  | none => rw [ee] at e; cases e
  | some l => rw [ee] at e; cases e; exact ⟨g, env, Ed, fun r => r = .fr (.ls l), R, ⟨l, ee, l, allD_map l, by rw [evs_len ee]; exact z, rfl⟩, lift_fr (H := H) (Ed := Ed) kv q, kx⟩
end
end LR
set_option Elab.async false
set_option maxRecDepth 100000
set_option linter.all false
set_option maxHeartbeats 4000000
namespace LR
open PySem PySem.Spec PyProof.Rows L2
/-! # the data layer: the operators -/
theorem OpR.or {X : Cx} {f : Value → Value → Sem Value} {r r' : R2} (h : OpR X f r) (h' : OpR X f r') : OpR X f (fun x y H Q => r x y H Q ∨ r' x y H Q) := by
  intro pins s σ H x y v u Q I rx ry q
  rcases q with q | q
  · exact h pins s σ H x y v u Q I rx ry q
  · exact h' pins s σ H x y v u Q I rx ry q
theorem IxR.or {X : Cx} {r r' : R2} (h : IxR X r) (h' : IxR X r') : IxR X (fun x y H Q => r x y H Q ∨ r' x y H Q) := by
  intro value slice pins s σ H x y v u Q I rx ry q hs
  rcases q with q | q
  · exact h value slice pins s σ H x y v u Q I rx ry q hs
  · exact h' value slice pins s σ H x y v u Q I rx ry q hs
theorem CallR.or {X : Cx} {f : Value} {r r' : List V → Hp → VK → Prop} (h : CallR X f r) (h' : CallR X f r') : CallR X f (fun xs H Q => r xs H Q ∨ r' xs H Q) := by
  intro pins s σ H xs us Q I rx q
  rcases q with q | q
  · exact h pins s σ H xs us Q I rx q
  · exact h' pins s σ H xs us Q I rx q
section
variable {K : PySem.W.Frag}
/-- a new list, a new tuple, as data -/
theorem new_lst {g : G} {σ : L2.St} {H : Hp} {env : List Ev} (R : Rep K g σ H env) {xs : List V} {l : List D} (i : Iss K g.B xs l) (z : xs.length ≤ 100000) {Q : VK} (k : ∀ v' H' g', G.Le g g' → Rep K g' σ H' env → Is K g'.B v' (.lst l) → Q v' H') : ∀ p, H p = none → Q (.ref p) (upd H p (.lst xs)) :=
  fun p hp => k _ _ _ (R.le_new hp) (R.new hp) (.lst (xs := xs) (by show upd g.B p _ p = _; exact upd_same) (i.mono (R.le_new hp).b) z)
theorem new_tup {g : G} {σ : L2.St} {H : Hp} {env : List Ev} (R : Rep K g σ H env) {xs : List V} {l : List D} (i : Iss K g.B xs l) (z : xs.length ≤ 100000) {Q : VK} (k : ∀ v' H' g', G.Le g g' → Rep K g' σ H' env → Is K g'.B v' (.tup l) → Q v' H') : ∀ p, H p = none → Q (.ref p) (upd H p (.tup xs)) :=
  fun p hp => k _ _ _ (R.le_new hp) (R.new hp) (.tup (xs := xs) (by show upd g.B p _ p = _; exact upd_same) (i.mono (R.le_new hp).b) z)
/-! ## + -/
def addD : D → D → Option D
  | .int i, .int j => some (.int (i + j))
  | .str a, .str b => if a.length + b.length ≤ 100000 then some (.str (a ++ b)) else none
  | .lst a, .lst b => if a.length + b.length ≤ 100000 then some (.lst (a ++ b)) else none
  | .tup a, .tup b => if a.length + b.length ≤ 100000 then some (.tup (a ++ b)) else none
  | _, _ => none
def rAddA (K : PySem.W.Frag) : R2 := fun x y H Q => (rI0 fun i j => .int (i + j)) x y H Q ∨ ((∃ i j, x = .str i ∧ y = .str j ∧ i.length + j.length ≤ sizeLine ∧ Q (.str (i ++ j)) H) ∨ (rCat x y H Q ∨ rCatA K x y H Q))
theorem op_addA {X : Cx} : OpR X (binaryOp .Add) (rAddA X.K) := OpR.or op_add (OpR.or op_add_str (OpR.or op_cat op_catA))
theorem line5 {n : Nat} (h : n ≤ 100000) : n ≤ sizeLine := by rw [sizeLine_eq]; omega
theorem o_add : Op2 K (rAddA K) addD := ⟨fun {g σ H env v u x y z Q} R i j e k => by
  have sb := R.ok.sb
  unfold addD at e
  split at e
  · cases e; exact .inl ⟨_, _, i.intE, j.intE, k _ _ _ .rfl R (.int _)⟩
  · split at e
    · rename_i h; cases e; exact .inr (.inl ⟨_, _, i.strE, j.strE, line5 h, k _ _ _ .rfl R (.str _)⟩)
    · cases e
  · split at e
    · rename_i h; cases e
      obtain ⟨p, xs, rfl, hp, ip, zp⟩ := i.lstE
      obtain ⟨q, ys, rfl, hq, iq, zq⟩ := j.lstE
      have l1 := ip.length
      have l2 := iq.length
      exact .inr (.inr (.inl ⟨p, q, xs, ys, rfl, rfl, sb _ _ hp, sb _ _ hq, line5 (by omega), new_lst R (ip.append iq) (by rw [List.length_append]; omega) k⟩))
    · cases e
  · split at e
    · rename_i h; cases e
      obtain ⟨p, xs, rfl, hp, ip, zp⟩ := i.tupE
      obtain ⟨q, ys, rfl, hq, iq, zq⟩ := j.tupE
      have l1 := ip.length
      have l2 := iq.length
      refine .inr (.inr (.inr ⟨p, q, xs, ys, rfl, rfl, SqT.of (sb _ _ hp), SqT.of (sb _ _ hq), line5 (by omega), fun ex => ?_, fun _ ey => ?_, fun _ _ => new_tup R (ip.append iq) (by rw [List.length_append]; omega) k⟩))
      · subst ex; cases ip; exact k _ _ _ .rfl R (.tup hq iq zq)
      · subst ey; cases iq; rw [List.append_nil] at k; exact k _ _ _ .rfl R (.tup hp ip zp)
    · cases e
  · cases e⟩
/-! ## ints -/
def subD : D → D → Option D
  | .int i, .int j => some (.int (i - j))
  | _, _ => none
theorem o_sub : Op2 K (rI0 fun i j => .int (i - j)) subD := ⟨fun {g σ H env v u x y z Q} R i j e k => by
  unfold subD at e
  split at e
  · cases e; exact ⟨_, _, i.intE, j.intE, k _ _ _ .rfl R (.int _)⟩
  · cases e⟩
def smI (i : Int) : Bool := decide (-1000000 < i) && decide (i < 1000000)
theorem smI_cm {i : Int} (h : smI i = true) : -(2 ^ 64) < i ∧ i < 2 ^ 64 := by
  unfold smI at h
  simp only [Bool.and_eq_true, decide_eq_true_eq] at h
  omega
/-- a text repeated -/
def repS (a : Str) (n : Nat) : Str := ⟨(List.replicate n a.cps).foldl (· ++ ·) #[]⟩
theorem repS_foldl (x : Array Nat) : ∀ (n : Nat) (b : Array Nat), ((List.replicate n x).foldl (· ++ ·) b).toList = b.toList ++ (List.replicate n x.toList).flatten
  | 0, b => by simp
  | n + 1, b => by rw [List.replicate_succ, List.foldl_cons, repS_foldl x n, Array.toList_append, List.replicate_succ, List.flatten_cons, List.append_assoc]
theorem repS_list (a : Str) (n : Nat) : (repS a n).cps.toList = (List.replicate n a.cps.toList).flatten := by
  exact (repS_foldl a.cps n #[]).trans (List.nil_append _)
theorem repS_len {a : Str} {n : Nat} : (repS a n).length = a.length * n := by
  show (repS a n).cps.size = a.cps.size * n
  rw [← Array.length_toList, repS_list]
  simp [Nat.mul_comm]
theorem repS_one {a : Str} : repS a (1 : Int).toNat = a := by
  cases a with
  | mk c =>
    unfold repS
    congr 1
    apply Array.toList_inj.mp
    simp
theorem repS_nil {a : Str} {n : Nat} (h : a.length = 0) : repS a n = a := by
  cases a with
  | mk c =>
    have e : c = #[] := Array.eq_empty_of_size_eq_zero h
    subst e
    unfold repS
    congr 1
    apply Array.toList_inj.mp
    have := repS_foldl #[] n #[]
    rw [this]; simp
/-- a product, a list or a tuple or a text repeated -/
def mulD : D → D → Option D
  | .int i, .int j => if (smI i || smI j) = true then some (.int (i * j)) else none
  | .lst l, .int j => if smI j = true ∧ l.length * j.toNat ≤ 100000 then some (.lst (List.replicate j.toNat l).flatten) else none
  | .str a, .int j => if smI j = true ∧ a.length * j.toNat ≤ 100000 then some (.str (repS a j.toNat)) else none
  | _, _ => none
def rRepS : R2 := fun x y H Q => ∃ a k, x = .str a ∧ y = .int k ∧ smI k = true ∧ a.length * k.toNat ≤ 100000 ∧ Q (.str (repS a k.toNat)) H
theorem op_repS {X : Cx} : OpR X (binaryOp .Mult) rRepS := by
  intro pins s σ H x y v u Q I rx ry h
  obtain ⟨a, k, rfl, rfl, hk, hz, q⟩ := h
  obtain ⟨t, rfl⟩ := rx
  obtain ⟨t', rfl⟩ := ry
  have sm := hk
  unfold smI at sm
  simp only [Bool.and_eq_true, decide_eq_true_eq] at sm
  have hz5 : a.length * k.toNat ≤ sizeLine := by rw [sizeLine_eq]; omega
  refine PySem.P.mul_str (by rw [decide_eq_false (by omega), decide_eq_false (by omega)]; rfl) (fun h1 h2 => ?_) (fun h1 h2 => ?_) ?_
  · have k1 : 1 ≤ k := by omega
    have : (a.length : Int) * k ≤ 100000 := by
      have e : ((a.length * k.toNat : Nat) : Int) = (a.length : Int) * k := by rw [Int.natCast_mul, Int.toNat_of_nonneg (by omega)]
      omega
    have : (a.length : Int) ≤ (2 ^ 63 - 1) / k := (Int.le_ediv_iff_mul_le (by omega)).mpr (by omega)
    omega
  · exact decide_eq_false (Nat.not_lt.mpr hz5)
  · by_cases c : k < 1
    · rw [if_pos c]
      have e : repS a k.toNat = Str.empty := by rw [show k.toNat = 0 by omega]; rfl
      rw [e] at q
      exact ⟨by decide, .str Str.empty, H, I.tok _, ⟨_, rfl⟩, q⟩
    · rw [if_neg c]
      by_cases d : (k == 1 || a.length == 0) = true
      · rw [if_pos d]
        have e : repS a k.toNat = a := by
          rcases (Bool.or_eq_true _ _).mp d with d | d
          · have : k = 1 := by simpa using d
            subst this
            exact repS_one
          · have : a.length = 0 := by simpa using d
            exact repS_nil this
        rw [e] at q
        exact ⟨.str a, H, I, ⟨_, rfl⟩, q⟩
      · rw [if_neg d]
        refine ⟨?_, .str _, H, I.tok _, ⟨_, rfl⟩, q⟩
        show (repS a k.toNat).length ≤ _
        rw [repS_len]; exact hz5
def rMulA : R2 := fun x y H Q => rI CMul (fun i j => .int (i * j)) x y H Q ∨ (rRep x y H Q ∨ rRepS x y H Q)
theorem op_mulA {X : Cx} : OpR X (binaryOp .Mult) rMulA := OpR.or op_mul (OpR.or op_rep op_repS)
theorem Iss.reps {B xs ds} (h : Iss K B xs ds) : ∀ n, Iss K B (List.replicate n xs).flatten (List.replicate n ds).flatten
  | 0 => .nil
  | n + 1 => by rw [List.replicate_succ, List.replicate_succ, List.flatten_cons, List.flatten_cons]; exact h.append (h.reps n)
theorem reps_len {α : Type} {l : List α} : ∀ n, (List.replicate n l).flatten.length = l.length * n
  | 0 => rfl
  | n + 1 => by rw [List.replicate_succ, List.flatten_cons, List.length_append, reps_len n, Nat.mul_succ]; omega
theorem o_mul : Op2 K rMulA mulD := ⟨fun {g σ H env v u x y z Q} R i j e k => by
  have sb := R.ok.sb
  unfold mulD at e
  split at e
  · rename_i a b
    split at e
    · rename_i h; cases e
      refine .inl ⟨_, _, i.intE, j.intE, ?_, k _ _ _ .rfl R (.int _)⟩
      rcases (Bool.or_eq_true _ _).mp h with h | h
      · exact .inl (smI_cm h)
      · exact .inr (smI_cm h)
    · cases e
  · rename_i l b
    split at e
    · rename_i h; cases e
      obtain ⟨p, xs, rfl, hp, ip, zp⟩ := i.lstE
      have l1 := ip.length
      have sm := smI_cm h.1
      have sm2 := h.1
      unfold smI at sm2
      simp only [Bool.and_eq_true, decide_eq_true_eq] at sm2
      exact .inr (.inl ⟨p, b, xs, rfl, j.intE, sb _ _ hp, by omega, by omega, line5 (by rw [l1]; exact h.2), new_lst R (ip.reps _) (by rw [reps_len, l1]; exact h.2) k⟩)
    · cases e
  · split at e
    · rename_i h; cases e
      exact .inr (.inr ⟨_, _, i.strE, j.intE, h.1, h.2, k _ _ _ .rfl R (.str _)⟩)
    · cases e
  · cases e⟩
def modD : D → D → Option D
  | .int i, .int j => if 0 < j then some (.int (i % j)) else none
  | _, _ => none
theorem o_mod : Op2 K (rI (fun _ j => 0 < j) fun i j => .int (i % j)) modD := ⟨fun {g σ H env v u x y z Q} R i j e k => by
  unfold modD at e
  split at e
  · split at e
    · rename_i h; cases e; exact ⟨_, _, i.intE, j.intE, h, k _ _ _ .rfl R (.int _)⟩
    · cases e
  · cases e⟩
def fdivD : D → D → Option D
  | .int i, .int j => if 0 < j ∧ j < 1073741824 then some (.int (i / j)) else none
  | _, _ => none
theorem o_fdiv : Op2 K (rI CDiv fun i j => .int (i / j)) fdivD := ⟨fun {g σ H env v u x y z Q} R i j e k => by
  unfold fdivD at e
  split at e
  · split at e
    · rename_i h; cases e; exact ⟨_, _, i.intE, j.intE, h, k _ _ _ .rfl R (.int _)⟩
    · cases e
  · cases e⟩
def cmpD (f : Int → Int → Bool) : D → D → Option D
  | .int i, .int j => some (.bl (f i j))
  | _, _ => none
theorem o_cmp {f : Int → Int → Bool} : Op2 K (rI0 fun i j => .bl (f i j)) (cmpD f) := ⟨fun {g σ H env v u x y z Q} R i j e k => by
  unfold cmpD at e
  split at e
  · cases e; exact ⟨_, _, i.intE, j.intE, k _ _ _ .rfl R (.bl _)⟩
  · cases e⟩
def isND : D → D → Option D
  | .non, .non => some (.bl true)
  | _, .non => some (.bl false)
  | _, _ => none
def notND : D → D → Option D
  | .non, .non => some (.bl false)
  | _, .non => some (.bl true)
  | _, _ => none
theorem is_non {B v x} (i : Is K B v x) : decide (v = .non) = (match x with | .non => true | _ => false) := by
  cases i <;> rfl
theorem o_isN : Op2 K (fun x y H Q => y = .non ∧ Q (.bl (decide (x = .non))) H) isND := ⟨fun {g σ H env v u x y z Q} R i j e k => by
  have := is_non i
  cases y with
  | non => 
    refine ⟨j.nonE, ?_⟩
    rw [this]
    cases x <;> (cases e; exact k _ _ _ .rfl R (.bl _))
  | _ => cases x <;> cases e⟩
theorem o_notN : Op2 K (fun x y H Q => y = .non ∧ Q (.bl (!decide (x = .non))) H) notND := ⟨fun {g σ H env v u x y z Q} R i j e k => by
  have := is_non i
  cases y with
  | non =>
    refine ⟨j.nonE, ?_⟩
    rw [this]
    cases x <;> (cases e; exact k _ _ _ .rfl R (.bl _))
  | _ => cases x <;> cases e⟩
/-! ## a[i] -/
def ixD : D → D → Option D
  | .lst l, .int i => atI l i
  | .tup l, .int i => atI l i
  | .str z, .int i => if z.length ≤ 100000 then (atI z.cps.toList i).map (fun c => .str ⟨#[c]⟩) else none
  | _, _ => none
def rIxA (K : PySem.W.Frag) : R2 := fun x y H Q => rIxL K x y H Q ∨ (rIxT K x y H Q ∨ rIxS x y H Q)
theorem ix_A {X : Cx} : IxR X (rIxA X.K) := IxR.or ix_list (IxR.or ix_tup ix_str)
theorem Iss.at {B xs ds i d} (h : Iss K B xs ds) (e : atI ds i = some d) : ∃ v, atI xs i = some v ∧ Is K B v d := by
  unfold atI at e ⊢
  rw [h.length]
  cases c : ixN ds.length i with
  | none => rw [c] at e; cases e
  | some j => rw [c] at e; exact h.getD e
theorem o_ix : Op2 K (rIxA K) ixD := ⟨fun {g σ H env v u x y z Q} R i j e k => by
  have sb := R.ok.sb
  unfold ixD at e
  split at e
  · obtain ⟨p, xs, rfl, hp, ip, zp⟩ := i.lstE
    obtain ⟨w, ew, iw⟩ := ip.at e
    exact .inl ⟨p, xs, _, w, rfl, j.intE, SqL.of (sb _ _ hp), ew, k _ _ _ .rfl R iw⟩
  · obtain ⟨p, xs, rfl, hp, ip, zp⟩ := i.tupE
    obtain ⟨w, ew, iw⟩ := ip.at e
    exact .inr (.inl ⟨p, xs, _, w, rfl, j.intE, SqT.of (sb _ _ hp), ew, k _ _ _ .rfl R iw⟩)
  · split at e
    · rename_i h
      obtain ⟨c, ec, rfl⟩ := Option.map_eq_some_iff.mp e
      exact .inr (.inr ⟨_, _, c, i.strE, j.intE, line5 h, ec, k _ _ _ .rfl R (.str _)⟩)
    · cases e
  · cases e⟩
/-! ## == of data -/
mutual
def D.py : D → PyData
  | .non => .none
  | .bl b => .bool b
  | .int i => .int i
  | .str x => .str x
  | .lst l => .list (pyL l)
  | .tup l => .tuple (pyL l)
  | .ins _ _ _ => .none
  | .cls _ => .none
  | .ty _ => .none
  | .dic _ _ => .none
def pyL : List D → List PyData
  | [] => []
  | x :: r => x.py :: pyL r
end
/-- data of nesting at most n, texts of real signs -/
def okn : Nat → D → Bool
  | _, .non => true
  | _, .bl _ => true
  | _, .int _ => true
  | _, .str x => PyData.strOk x
  | n + 1, .lst l => l.all (okn n)
  | n + 1, .tup l => l.all (okn n)
  | _, _ => false
theorem okn_lay : ∀ (n : Nat) (x : D), okn n x = true → x.py.canLay0 = true ∧ x.py.depth ≤ n ∧ ∀ (B : Hp) (v : V), Is K B v x → ∀ H, Same B H → Dp K H v x.py := by
  intro n
  induction n with
  | zero =>
    intro x h
    cases x with
    | non => exact ⟨by simp [D.py, PyData.canLay0], by simp [D.py, PyData.depth], fun B v i H s => by cases i; exact .non⟩
    | bl b => exact ⟨by simp [D.py, PyData.canLay0], by simp [D.py, PyData.depth], fun B v i H s => by cases i; exact .bl b⟩
    | int b => exact ⟨by simp [D.py, PyData.canLay0], by simp [D.py, PyData.depth], fun B v i H s => by cases i; exact .int b⟩
    | str b => exact ⟨by simpa [D.py, PyData.canLay0, okn] using h, by simp [D.py, PyData.depth], fun B v i H s => by cases i; exact .str b⟩
    | _ => simp [okn] at h
  | succ n ih =>
    have all : ∀ l : List D, l.all (okn n) = true → PyData.canLayAll0 (pyL l) = true ∧ PyData.depthAll (pyL l) ≤ n ∧ ∀ (B : Hp) (vs : List V), Iss K B vs l → ∀ H, Same B H → DpAll K H vs (pyL l) := by
      intro l
      induction l with
      | nil => intro _; exact ⟨by simp [pyL, PyData.canLayAll0], by simp [pyL, PyData.depthAll], fun B vs i H s => by cases i; exact .nil⟩
      | cons x r ihr =>
        intro h
        rw [List.all_cons, Bool.and_eq_true] at h
        obtain ⟨a1, a2, a3⟩ := ih x h.1
        obtain ⟨b1, b2, b3⟩ := ihr h.2
        refine ⟨by simp [pyL, PyData.canLayAll0, a1, b1], by simp only [pyL, PyData.depthAll]; omega, fun B vs i H s => ?_⟩
        cases i with
        | cons i1 i2 => exact .cons (a3 B _ i1 H s) (b3 B _ i2 H s)
    intro x h
    cases x with
    | non => exact ⟨by simp [D.py, PyData.canLay0], by simp [D.py, PyData.depth], fun B v i H s => by cases i; exact .non⟩
    | bl b => exact ⟨by simp [D.py, PyData.canLay0], by simp [D.py, PyData.depth], fun B v i H s => by cases i; exact .bl b⟩
    | int b => exact ⟨by simp [D.py, PyData.canLay0], by simp [D.py, PyData.depth], fun B v i H s => by cases i; exact .int b⟩
    | str b => exact ⟨by simpa [D.py, PyData.canLay0, okn] using h, by simp [D.py, PyData.depth], fun B v i H s => by cases i; exact .str b⟩
    | lst l =>
      obtain ⟨b1, b2, b3⟩ := all l (by simpa [okn] using h)
      refine ⟨by simpa [D.py, PyData.canLay0] using b1, by simp only [D.py, PyData.depth]; omega, fun B v i H s => ?_⟩
      obtain ⟨p, xs, rfl, hp, ip, zp⟩ := i.lstE
      exact .lst (SqL.of (s _ _ hp)) (b3 B _ ip H s)
    | tup l =>
      obtain ⟨b1, b2, b3⟩ := all l (by simpa [okn] using h)
      refine ⟨by simpa [D.py, PyData.canLay0] using b1, by simp only [D.py, PyData.depth]; omega, fun B v i H s => ?_⟩
      obtain ⟨p, xs, rfl, hp, ip, zp⟩ := i.tupE
      exact .tup (SqT.of (s _ _ hp)) (b3 B _ ip H s)
    | _ => simp [okn] at h
theorem okn_shaped (K : PySem.W.Frag) {x : D} (h : okn 30 x = true) : SeqAt.shaped x.py = true := by
  obtain ⟨a, b, _⟩ := okn_lay (K := K) 30 x h
  unfold SeqAt.shaped
  rw [Bool.and_eq_true]
  exact ⟨a, decide_eq_true (by omega)⟩
def deq (x y : D) : Bool := PyData.eqv x.py y.py
def eqD : D → D → Option D
  | .int i, .int j => some (.bl (decide (i = j)))
  | .str i, .str j => if PyData.strOk i = true ∧ PyData.strOk j = true then some (.bl (decide (i = j))) else none
  | .bl i, .bl j => some (.bl (decide (i = j)))
  | .non, .non => some (.bl true)
  | .non, .int _ => some (.bl false)
  | .int _, .non => some (.bl false)
  | x, y => if okn 30 x = true ∧ okn 30 y = true then some (.bl (deq x y)) else none
theorem eqD_deq {x y z : D} (h : eqD x y = some z) : okn 30 x = true ∧ okn 30 y = true ∧ z = .bl (deq x y) := by
  unfold eqD at h
  split at h
  · cases h; exact ⟨rfl, rfl, by simp [deq, D.py, PyData.eqv]; rw [Bool.eq_iff_iff]; simp⟩
  · split at h
    · rename_i h2; cases h; exact ⟨h2.1, h2.2, by simp [deq, D.py, PyData.eqv]; rw [Bool.eq_iff_iff]; simp⟩
    · cases h
  · cases h; exact ⟨rfl, rfl, by simp [deq, D.py, PyData.eqv]; rw [Bool.eq_iff_iff]; simp⟩
  · cases h; exact ⟨rfl, rfl, by simp [deq, D.py, PyData.eqv]⟩
  · cases h; exact ⟨rfl, rfl, by simp [deq, D.py, PyData.eqv]⟩
  · cases h; exact ⟨rfl, rfl, by simp [deq, D.py, PyData.eqv]⟩
  · split at h
    · rename_i h2; cases h; exact ⟨h2.1, h2.2, rfl⟩
    · cases h
def notO : Option D → Option D
  | some (.bl b) => some (.bl (!b))
  | _ => none
def neD (x y : D) : Option D := notO (eqD x y)
theorem notO_some {o z} (h : notO o = some z) : ∃ b, o = some (.bl b) ∧ z = .bl (!b) := by
  unfold notO at h
  split at h
  · cases h; exact ⟨_, rfl, rfl⟩
  · cases h
theorem o_eq : Op2 K (rEqD K) eqD := ⟨fun {g σ H env v u x y z Q} R i j e k => by
  obtain ⟨a, b, rfl⟩ := eqD_deq e
  exact ⟨_, _, (okn_lay 30 x a).2.2 _ _ i H R.ok.sb, (okn_lay 30 y b).2.2 _ _ j H R.ok.sb, okn_shaped K a, okn_shaped K b, k _ _ _ .rfl R (.bl _)⟩⟩
theorem o_ne : Op2 K (rNeD K) neD := ⟨fun {g σ H env v u x y z Q} R i j e k => by
  obtain ⟨b', e', rfl⟩ := notO_some e
  obtain ⟨a, b, e2⟩ := eqD_deq e'
  cases e2
  exact ⟨_, _, (okn_lay 30 x a).2.2 _ _ i H R.ok.sb, (okn_lay 30 y b).2.2 _ _ j H R.ok.sb, okn_shaped K a, okn_shaped K b, k _ _ _ .rfl R (.bl _)⟩⟩
/-! ## in -/
def rInA (K : PySem.W.Frag) (neg : Bool) : R2 := fun x y H Q => ∃ d ds, Dp K H x d ∧ (Dp K H y (.list ds) ∨ Dp K H y (.tuple ds)) ∧ d.canLay0 = true ∧ PyData.canLayAll0 ds = true ∧ d.depth ≤ 30 ∧ Q (.bl (neg ^^ ds.any fun z => PyData.eqv z d)) H
theorem room_in {X : Cx} {ds : List PyData} {d : PyData} (hu : X.A.units + 65 < cLine) (h : d.depth ≤ 30) : X.A.units + 1 + min (PyData.depthAll ds) d.depth < cLine := by
  have : min (PyData.depthAll ds) d.depth ≤ 30 := Nat.le_trans (Nat.min_le_right _ _) h
  omega
theorem op_inA {X : Cx} (hu : X.A.units + 65 < cLine) : OpR X (compareOp .In) (rInA X.K false) := by
  intro pins s σ H x y v u Q I rx ry h
  obtain ⟨d, ds, hd, he, c1, c2, dd, q⟩ := h
  obtain ⟨as, r1⟩ := Dp.reads I d x v hd rx
  rcases he with he | he
  · obtain ⟨bs, r2⟩ := Dp.reads I (.list ds) y u he ry
    exact SeqAt.in_list_reads r2 r1 c2 c1 (room_in hu dd) ⟨.bl _, H, I, by show _ = _; simp, q⟩
  · obtain ⟨bs, r2⟩ := Dp.reads I (.tuple ds) y u he ry
    exact SeqAt.in_tuple_reads r2 r1 c2 c1 (room_in hu dd) ⟨.bl _, H, I, by show _ = _; simp, q⟩
theorem op_notInA {X : Cx} (hu : X.A.units + 65 < cLine) : OpR X (compareOp .NotIn) (rInA X.K true) := by
  intro pins s σ H x y v u Q I rx ry h
  obtain ⟨d, ds, hd, he, c1, c2, dd, q⟩ := h
  obtain ⟨as, r1⟩ := Dp.reads I d x v hd rx
  rcases he with he | he
  · obtain ⟨bs, r2⟩ := Dp.reads I (.list ds) y u he ry
    exact SeqAt.notIn_list_reads r2 r1 c2 c1 (room_in hu dd) ⟨.bl _, H, I, by show _ = _; simp, q⟩
  · obtain ⟨bs, r2⟩ := Dp.reads I (.tuple ds) y u he ry
    exact SeqAt.notIn_tuple_reads r2 r1 c2 c1 (room_in hu dd) ⟨.bl _, H, I, by show _ = _; simp, q⟩
def inL (x : D) (l : List D) : Option D := if okn 30 x = true ∧ l.all (okn 29) = true then some (.bl (l.any fun z => deq z x)) else none
def inD : D → D → Option D
  | x, .lst l => inL x l
  | x, .tup l => inL x l
  | _, _ => none
def ninD (x y : D) : Option D := notO (inD x y)
theorem pyL_any {l : List D} {d : PyData} : ((pyL l).any fun z => PyData.eqv z d) = l.any fun z => PyData.eqv z.py d := by
  induction l with
  | nil => rfl
  | cons x r ih => rw [pyL, List.any_cons, List.any_cons, ih]
theorem inD_ok {g : G} {σ : L2.St} {H : Hp} {env : List Ev} {v u : V} {x y : D} {b neg : Bool} {Q : VK} (R : Rep K g σ H env) (i : Is K g.B v x) (j : Is K g.B u y) (e : inD x y = some (.bl b)) (q : Q (.bl (neg ^^ b)) H) : rInA K neg v u H Q := by
  have sb := R.ok.sb
  have key : ∀ l, inL x l = some (.bl b) → ((Dp K H u (.list (pyL l)) ∨ Dp K H u (.tuple (pyL l)))) → rInA K neg v u H Q := fun l e hd => by
    unfold inL at e
    split at e
    · rename_i h
      cases e
      obtain ⟨a1, a2, a3⟩ := okn_lay (K := K) 30 x h.1
      have hl : okn 30 (.lst l) = true := by simpa [okn] using h.2
      obtain ⟨b1, b2, b3⟩ := okn_lay (K := K) 30 (.lst l) hl
      refine ⟨x.py, pyL l, a3 _ _ i H sb, hd, a1, by simpa [D.py, PyData.canLay0] using b1, a2, ?_⟩
      rw [pyL_any]; exact q
    · cases e
  have okl : ∀ l, inL x l = some (.bl b) → l.all (okn 29) = true := fun l e => by
    unfold inL at e
    split at e
    · rename_i h; exact h.2
    · cases e
  cases y with
  | lst l =>
    have e : inL x l = some (.bl b) := e
    exact key l e (.inl ((okn_lay 30 (.lst l) (by simpa [okn] using okl l e)).2.2 _ _ j H sb))
  | tup l =>
    have e : inL x l = some (.bl b) := e
    exact key l e (.inr ((okn_lay 30 (.tup l) (by simpa [okn] using okl l e)).2.2 _ _ j H sb))
  | _ => cases e
theorem inD_bl {x y z} (h : inD x y = some z) : ∃ b, z = .bl b := by
  have key : ∀ l, inL x l = some z → ∃ b, z = .bl b := fun l e => by
    unfold inL at e
    split at e
    · cases e; exact ⟨_, rfl⟩
    · cases e
  cases y with
  | lst l => exact key l h
  | tup l => exact key l h
  | _ => cases h
theorem o_in : Op2 K (rInA K false) inD := ⟨fun {g σ H env v u x y z Q} R i j e k => by
  obtain ⟨b, rfl⟩ := inD_bl e
  exact inD_ok R i j e (by rw [Bool.false_xor]; exact k _ _ _ .rfl R (.bl _))⟩
theorem o_nin : Op2 K (rInA K true) ninD := ⟨fun {g σ H env v u x y z Q} R i j e k => by
  obtain ⟨b, e', rfl⟩ := notO_some e
  exact inD_ok R i j e' (by rw [Bool.true_xor]; exact k _ _ _ .rfl R (.bl _))⟩
/-! ### .. told by = -/
def nbn : Nat → D → Bool
  | _, .non => true
  | _, .int _ => true
  | _, .str _ => true
  | n + 1, .lst l => l.all (nbn n)
  | n + 1, .tup l => l.all (nbn n)
  | _, _ => false
theorem deq_iff : ∀ (n : Nat) (x y : D), nbn n x = true → nbn n y = true → (deq x y = true ↔ x = y) := by
  intro n
  induction n with
  | zero =>
    intro x y hx hy
    cases x <;> cases y <;> simp [nbn] at hx hy <;> simp [deq, D.py, PyData.eqv]
  | succ n ih =>
    have all : ∀ l m : List D, l.all (nbn n) = true → m.all (nbn n) = true → (PyData.eqvAll (pyL l) (pyL m) = true ↔ l = m) := by
      intro l
      induction l with
      | nil => intro m _ _; cases m <;> simp [pyL, PyData.eqvAll]
      | cons x r ihr =>
        intro m hl hm
        cases m with
        | nil => simp [pyL, PyData.eqvAll]
        | cons y t =>
          rw [List.all_cons, Bool.and_eq_true] at hl hm
          have h1 := ih x y hl.1 hm.1
          have h2 := ihr t hl.2 hm.2
          unfold deq at h1
          simp only [pyL, PyData.eqvAll, Bool.and_eq_true, h1, h2, List.cons.injEq]
    intro x y hx hy
    cases x with
    | lst l => cases y with
      | lst m => 
        have := all l m (by simpa [nbn] using hx) (by simpa [nbn] using hy)
        simp only [deq, D.py, PyData.eqv, this, D.lst.injEq]
      | _ => simp [nbn] at hy <;> simp [deq, D.py, PyData.eqv]
    | tup l => cases y with
      | tup m =>
        have := all l m (by simpa [nbn] using hx) (by simpa [nbn] using hy)
        simp only [deq, D.py, PyData.eqv, this, D.tup.injEq]
      | _ => simp [nbn] at hy <;> simp [deq, D.py, PyData.eqv]
    | non => cases y <;> simp [nbn] at hy <;> simp [deq, D.py, PyData.eqv]
    | int i => cases y <;> simp [nbn] at hy <;> simp [deq, D.py, PyData.eqv]
    | str i => cases y <;> simp [nbn] at hy <;> simp [deq, D.py, PyData.eqv]
    | _ => simp [nbn] at hx
end
end LR
set_option Elab.async false
set_option maxRecDepth 100000
set_option linter.all false
set_option maxHeartbeats 4000000
namespace LR
open PySem PySem.Spec PyProof.Rows L2
/-! # the data layer: fields, built-in functions, slices -/
def lkD (ks : List Str) (ds : List D) (f : Str) : Option D := (ks.zip ds).lookup f
def fldD (f : Str) : D → Option D
  | .ins _ ks ds => lkD ks ds f
  | _ => none
section
variable {K : PySem.W.Frag}
theorem lk_is {B : Hp} {f : Str} : ∀ {fs : List (Str × V)} {ds : List D} {d : D}, Iss K B (fs.map (·.2)) ds → lkD (fs.map (·.1)) ds f = some d → ∃ v, fs.lookup f = some v ∧ Is K B v d ∧ f ∈ fs.map (·.1) := by
  intro fs
  induction fs with
  | nil => intro ds d i h; cases h
  | cons p r ih =>
    intro ds d i h
    obtain ⟨k, v⟩ := p
    cases i with
    | cons i1 i2 =>
      rename_i e es
      unfold lkD at h
      rw [List.map_cons, List.zip_cons_cons, List.lookup_cons] at h
      rw [List.lookup_cons, List.map_cons]
      cases c : (f == k) with
      | true =>
        rw [c] at h
        simp only [if_true] at h
        cases h
        exact ⟨v, by simp, i1, by rw [beq_iff_eq] at c; rw [c]; exact List.mem_cons_self⟩
      | false =>
        rw [c] at h
        simp only [Bool.false_eq_true, if_false] at h
        obtain ⟨w, e1, e2, e3⟩ := ih i2 h
        exact ⟨w, by simpa using e1, e2, List.mem_cons_of_mem _ e3⟩
end
section
variable {X : Cx} {W : WX} {e : Expr} {f : Str} {pos : Pos}
theorem qe_fld {d} (h : QE X W e d) (hb : attributeBase e f X.env (eval e X.env) = eval e X.env) : QE X W (.Attribute e f pos) (d1 (fldD f) d) := (pe_fld h hb).mono fun σ H Q ⟨g, env, Ed, Qd, R, h, kv, kx⟩ => by
  refine lift.useD R h (fun v x H1 g1 l1 R1 i1 ⟨z, ez, q⟩ => ?_) kx
  cases i1 with
  | ins hp k a cl na =>
    subst k
    obtain ⟨w, e1, e2, e3⟩ := lk_is a ez
    exact ⟨_, _, _, _, w, rfl, R1.ok.sb _ _ hp, cl, na _ e3, e1, kv _ (.d z) _ _ l1 R1 e2 q⟩
  | _ => cases ez
theorem qp_fld {p} (h : QP X e p) (hb : attributeBase e f X.env (eval e X.env) = eval e X.env) : QP X (.Attribute e f pos) (p1 (fldD f) p) := fun W => (qe_fld (h W) hb).mono fun _ _ _ h => h.imp fun _ _ _ => p1_d1
end
/-! ## functions of values -/
structure OpN (K : PySem.W.Frag) (r : List V → Hp → VK → Prop) (f : List D → Option D) : Prop where
  ok : ∀ {g : G} {σ : L2.St} {H : Hp} {env : List Ev} {vs : List V} {xs : List D} {z : D} {Q : VK}, Rep K g σ H env → Iss K g.B vs xs → f xs = some z →
    (∀ v' H' g', G.Le g g' → Rep K g' σ H' env → Is K g'.B v' z → Q v' H') → r vs H Q
def pN (f : List D → Option D) (ps : List PF) : PF := fun env => match evs ps env with
  | some l => f l
  | none => none
def dN (f : List D → Option D) (da : DA) : DE := fun env Ed Q => da env Ed fun as => ∃ l z, allD as = some l ∧ f l = some z ∧ Q (.d z)
theorem pN_dN {f ps env Ed Q} (h : dP (pN f ps) env Ed Q) : dN f (daP ps) env Ed Q := by
  obtain ⟨z, h, q⟩ := h
  unfold pN at h
  cases e : evs ps env with
  | none => rw [e] at h; cases h
  | some l => rw [e] at h; exact ⟨l, e, l, z, allD_map l, h, q⟩
section
variable {X : Cx} {W : WX} {e : Expr} {es : List Expr} {x : Str} {p pos : Pos} {id : String} {r : List V → Hp → VK → Prop} {f : List D → Option D}
theorem lift_callN {da : DA} {σ : L2.St} {H : Hp} {Q : VK} (hf : OpN X.K r f) (h : lift X.K W (dN f da) σ H Q) : tCB r (liftA X.K W da) σ H Q := by
  obtain ⟨g, env, Ed, Qd, R, h, kv, kx⟩ := h
  exact ⟨g, env, Ed, _, R, h, fun vs as H1 g1 l1 R1 i1 ⟨l, z, e1, e2, q⟩ => hf.ok R1 (i1.all e1) e2 fun v' H' g' l2 R2 i2 => kv _ (.d z) _ _ (l1.trans l2) R2 i2 q, kx⟩
theorem qp_callB {ps} (hf : OpN X.K r f) (hc : CallR X (.builtin id) r) (hg : Gl X x) (hm : X.mg x = none) (hv : bootBuiltins x = some (.builtin id)) (ha : QPs X (e :: es) ps) (hn : x ≠ "__name__" := by decide) (hdb : (x == ("__debug__" : Str)) = false := by decide)
    (he : starEach (e :: es) X.env = (false, eval e X.env) :: starEach es X.env := by rfl) (hpl : (backTo pos (starEach es X.env)).any (·.1) = false := by rfl) : QP X (.Call (.Name x p) (e :: es) [] pos) (pN f ps) :=
  fun W => (pe_callB hc hg hm hv (ha W) hn hdb he hpl).mono fun _ _ _ h => lift_callN hf (h.imp fun _ _ _ => pN_dN)
theorem qp_callTy {ps} {T : String} (hf : OpN X.K r f) (hc : CallR X (.type T) r) (hg : Gl X x) (hm : X.mg x = none) (hv : bootBuiltins x = some (.type T)) (ha : QPs X (e :: es) ps) (hn : x ≠ "__name__" := by decide) (hdb : (x == ("__debug__" : Str)) = false := by decide)
    (he : starEach (e :: es) X.env = (false, eval e X.env) :: starEach es X.env := by rfl) (hpl : (backTo pos (starEach es X.env)).any (·.1) = false := by rfl) : QP X (.Call (.Name x p) (e :: es) [] pos) (pN f ps) :=
  fun W => (pe_callTy hc hg hm hv (ha W) hn hdb he hpl).mono fun _ _ _ h => lift_callN hf (h.imp fun _ _ _ => pN_dN)
end
section
variable {K : PySem.W.Frag} {X : Cx}
theorem Iss.one_inv {B vs d} (h : Iss K B vs [d]) : ∃ v, vs = [v] ∧ Is K B v d := by
  cases h with | cons a t => cases t; exact ⟨_, rfl, a⟩
theorem Iss.two_inv {B vs d e} (h : Iss K B vs [d, e]) : ∃ v u, vs = [v, u] ∧ Is K B v d ∧ Is K B u e := by
  cases h with | cons a t => cases t with | cons b t => cases t; exact ⟨_, _, rfl, a, b⟩
def rLenA (K : PySem.W.Frag) : List V → Hp → VK → Prop := fun xs H Q => (∃ p ys, xs = [.ref p] ∧ (SqL K H p ys ∨ SqT K H p ys) ∧ Q (.int ys.length) H) ∨ (∃ z, xs = [.str z] ∧ z.length ≤ sizeLine ∧ Q (.int z.length) H)
theorem c_len : CallR X (.builtin "len") (rLenA X.K) := CallR.or call_len_seq call_len_str
def lenD : List D → Option D
  | [.lst l] => some (.int l.length)
  | [.tup l] => some (.int l.length)
  | [.str z] => if z.length ≤ 100000 then some (.int z.length) else none
  | _ => none
theorem o_len : OpN K (rLenA K) lenD := ⟨fun {g σ H env vs xs z Q} R i e k => by
  have sb := R.ok.sb
  unfold lenD at e
  split at e
  · cases e
    obtain ⟨v, rfl, i1⟩ := i.one_inv
    obtain ⟨p, ys, rfl, hp, ip, _⟩ := i1.lstE
    exact .inl ⟨p, ys, rfl, .inl (SqL.of (sb _ _ hp)), by rw [ip.length]; exact k _ _ _ .rfl R (.int _)⟩
  · cases e
    obtain ⟨v, rfl, i1⟩ := i.one_inv
    obtain ⟨p, ys, rfl, hp, ip, _⟩ := i1.tupE
    exact .inl ⟨p, ys, rfl, .inr (SqT.of (sb _ _ hp)), by rw [ip.length]; exact k _ _ _ .rfl R (.int _)⟩
  · split at e
    · rename_i h
      cases e
      obtain ⟨v, rfl, i1⟩ := i.one_inv
      cases i1
      exact .inr ⟨_, rfl, line5 h, k _ _ _ .rfl R (.int _)⟩
    · cases e
  · cases e⟩
def max2D : List D → Option D
  | [.int i, .int j] => some (.int (if j > i then j else i))
  | _ => none
def min2D : List D → Option D
  | [.int i, .int j] => some (.int (if j < i then j else i))
  | _ => none
theorem o_max2 : OpN K (fun xs H Q => ∃ i j, xs = [.int i, .int j] ∧ Q (.int (if j > i then j else i)) H) max2D := ⟨fun {g σ H env vs xs z Q} R i e k => by
  unfold max2D at e
  split at e
  · cases e
    obtain ⟨v, u, rfl, i1, j1⟩ := i.two_inv
    cases i1; cases j1
    exact ⟨_, _, rfl, k _ _ _ .rfl R (.int _)⟩
  · cases e⟩
theorem o_min2 : OpN K (fun xs H Q => ∃ i j, xs = [.int i, .int j] ∧ Q (.int (if j < i then j else i)) H) min2D := ⟨fun {g σ H env vs xs z Q} R i e k => by
  unfold min2D at e
  split at e
  · cases e
    obtain ⟨v, u, rfl, i1, j1⟩ := i.two_inv
    cases i1; cases j1
    exact ⟨_, _, rfl, k _ _ _ .rfl R (.int _)⟩
  · cases e⟩
def listD : List D → Option D
  | [.lst l] => some (.lst l)
  | [.tup l] => some (.lst l)
  | _ => none
theorem o_list : OpN K (fun xs H Q => ∃ p ys, xs = [.ref p] ∧ (SqL K H p ys ∨ SqT K H p ys) ∧ ∀ l, H l = none → Q (.ref l) (upd H l (.lst ys))) listD := ⟨fun {g σ H env vs xs z Q} R i e k => by
  have sb := R.ok.sb
  unfold listD at e
  split at e
  · cases e
    obtain ⟨v, rfl, i1⟩ := i.one_inv
    obtain ⟨p, ys, rfl, hp, ip, zp⟩ := i1.lstE
    exact ⟨p, ys, rfl, .inl (SqL.of (sb _ _ hp)), new_lst R ip zp k⟩
  · cases e
    obtain ⟨v, rfl, i1⟩ := i.one_inv
    obtain ⟨p, ys, rfl, hp, ip, zp⟩ := i1.tupE
    exact ⟨p, ys, rfl, .inr (SqT.of (sb _ _ hp)), new_lst R ip zp k⟩
  · cases e⟩
def tuplD : List D → Option D
  | [.lst l] => some (.tup l)
  | [.tup l] => some (.tup l)
  | _ => none
theorem o_tuple : OpN K (fun xs H Q => ∃ p ys, xs = [.ref p] ∧ ((SqL K H p ys ∧ ∀ l, H l = none → Q (.ref l) (upd H l (.tup ys))) ∨ (SqT K H p ys ∧ Q (.ref p) H))) tuplD := ⟨fun {g σ H env vs xs z Q} R i e k => by
  have sb := R.ok.sb
  unfold tuplD at e
  split at e
  · cases e
    obtain ⟨v, rfl, i1⟩ := i.one_inv
    obtain ⟨p, ys, rfl, hp, ip, zp⟩ := i1.lstE
    exact ⟨p, ys, rfl, .inl ⟨SqL.of (sb _ _ hp), new_tup R ip zp k⟩⟩
  · cases e
    obtain ⟨v, rfl, i1⟩ := i.one_inv
    obtain ⟨p, ys, rfl, hp, ip, zp⟩ := i1.tupE
    exact ⟨p, ys, rfl, .inr ⟨SqT.of (sb _ _ hp), k _ _ _ .rfl R (.tup hp ip zp)⟩⟩
  · cases e⟩
def bls : List D → Option (List Bool)
  | [] => some []
  | .bl b :: r => match bls r with
    | some l => some (b :: l)
    | none => none
  | _ :: _ => none
def ins : List D → Option (List Int)
  | [] => some []
  | .int b :: r => match ins r with
    | some l => some (b :: l)
    | none => none
  | _ :: _ => none
theorem bls_map : ∀ l : List Bool, bls (l.map .bl) = some l
  | [] => rfl
  | x :: r => by rw [List.map_cons, bls, bls_map r]
theorem ins_map : ∀ l : List Int, ins (l.map .int) = some l
  | [] => rfl
  | x :: r => by rw [List.map_cons, ins, ins_map r]
theorem ins_some : ∀ {l : List D} {m}, ins l = some m → l = m.map .int
  | [], _, h => by cases h; rfl
  | .int b :: r, m, h => by
    unfold ins at h
    cases e : ins r with
    | none => rw [e] at h; cases h
    | some t => rw [e] at h; cases h; rw [List.map_cons, ← ins_some e]
  | .non :: _, _, h => by cases h
  | .bl _ :: _, _, h => by cases h
  | .str _ :: _, _, h => by cases h
  | .lst _ :: _, _, h => by cases h
  | .tup _ :: _, _, h => by cases h
  | .ins _ _ _ :: _, _, h => by cases h
  | .cls _ :: _, _, h => by cases h
  | .ty _ :: _, _, h => by cases h
  | .dic _ _ :: _, _, h => by cases h
theorem iss_insE {B} : ∀ {bs : List Int} {vs}, Iss K B vs (bs.map .int) → vs = bs.map V.int
  | [], _, h => by cases h; rfl
  | b :: r, _, h => by cases h with | cons a t => cases a; rw [iss_insE t]; rfl
def anyD : List D → Option D
  | [.lst l] => (bls l).map fun bs => .bl (bs.any id)
  | _ => none
def allDD : List D → Option D
  | [.lst l] => (bls l).map fun bs => .bl (bs.all id)
  | _ => none
def maxLD : List D → Option D
  | [.lst l] => (ins l).bind fun ns => ns.max?.map .int
  | _ => none
theorem max_is {ns : List Int} {m : Int} (h : ns.max? = some m) : 0 < ns.length ∧ ∀ a, a ∈ ns → (∀ y, y ∈ ns → y ≤ a) → a = m := by
  have h2 := List.max?_eq_some_iff.mp h
  refine ⟨List.length_pos_of_mem h2.1, fun a ha hb => ?_⟩
  have := hb m h2.1
  have := h2.2 a ha
  omega
theorem o_maxL : OpN K (rMax K) maxLD := ⟨fun {g σ H env vs xs z Q} R i e k => by
  unfold maxLD at e
  split at e
  · obtain ⟨bs, eb, e⟩ := Option.bind_eq_some_iff.mp e
    obtain ⟨m, em, rfl⟩ := Option.map_eq_some_iff.mp e
    obtain ⟨v, rfl, i1⟩ := i.one_inv
    obtain ⟨p, ys, rfl, hp, ip, _⟩ := i1.lstE
    rw [ins_some eb] at ip
    rw [iss_insE ip] at hp
    obtain ⟨h1, h2⟩ := max_is em
    exact ⟨p, bs, rfl, SqL.of (R.ok.sb _ _ hp), h1, fun a ha hb => by rw [h2 a ha hb]; exact k _ _ _ .rfl R (.int _)⟩
  · cases e⟩
/-- sorted, a list of ints -/
def sortI (ns : List Int) : List Int := ns.mergeSort fun a b => decide (a ≤ b)
theorem sortI_perm (ns : List Int) : (sortI ns).Perm ns := List.mergeSort_perm _ _
theorem sortI_pw (ns : List Int) : (sortI ns).Pairwise (· ≤ ·) := by
  have := List.pairwise_mergeSort (le := fun (a b : Int) => decide (a ≤ b)) (fun a b c h1 h2 => by simp at h1 h2 ⊢; omega) (fun a b => by simp; omega) ns
  exact this.imp fun h => by simpa using h
theorem sortI_eq {ns ms : List Int} (p : ms.Perm ns) (w : ms.Pairwise (· ≤ ·)) : ms = sortI ns :=
  List.Perm.eq_of_pairwise (fun a b _ _ h1 h2 => by omega) w (sortI_pw ns) (p.trans (sortI_perm ns).symm)
def sortID : List D → Option D
  | [.lst l] => (ins l).map fun ns => .lst ((sortI ns).map .int)
  | _ => none
theorem o_sortI : OpN K (rSortedI K) sortID := ⟨fun {g σ H env vs xs z Q} R i e k => by
  unfold sortID at e
  split at e
  · obtain ⟨ns, eb, rfl⟩ := Option.map_eq_some_iff.mp e
    obtain ⟨v, rfl, i1⟩ := i.one_inv
    obtain ⟨p, ys, rfl, hp, ip, zp⟩ := i1.lstE
    rw [ins_some eb] at ip
    rw [iss_insE ip] at hp zp
    refine ⟨p, ns, rfl, SqL.of (R.ok.sb _ _ hp), fun ms q perm pw hq => ?_⟩
    rw [sortI_eq perm pw]
    refine new_lst R (iss_ints _) ?_ k q hq
    rw [List.length_map, (sortI_perm ns).length_eq]
    rw [List.length_map] at zp
    exact zp
  · cases e⟩
def intD : List D → Option D
  | [.int i] => some (.int i)
  | [.bl b] => some (.int (if b then 1 else 0))
  | _ => none
theorem o_int : OpN K (fun xs H Q => (∃ i, xs = [.int i] ∧ Q (.int i) H) ∨ ∃ k, xs = [.bl k] ∧ Q (.int (if k then 1 else 0)) H) intD := ⟨fun {g σ H env vs xs z Q} R i e k => by
  unfold intD at e
  split at e
  · cases e
    obtain ⟨v, rfl, i1⟩ := i.one_inv
    cases i1
    exact .inl ⟨_, rfl, k _ _ _ .rfl R (.int _)⟩
  · cases e
    obtain ⟨v, rfl, i1⟩ := i.one_inv
    cases i1
    exact .inr ⟨_, rfl, k _ _ _ .rfl R (.int _)⟩
  · cases e⟩
/-! ## isinstance(x, T) of data, T a built-in type -/
def Dt.of : D → Option Dt
  | .non => some .non
  | .bl b => some (.bl b)
  | .int i => some (.int i)
  | .str x => some (.str x)
  | .lst _ => some (.lst [])
  | .tup _ => some (.tup [])
  | _ => none
theorem is_tyX {B H : Hp} {v x d} (s : Same B H) (i : Is K B v x) (h : Dt.of x = some d) : TyX K H v (.type (LR.ty d)) := by
  cases i <;> cases h
  · exact .base .non
  · exact .base (.bl _)
  · exact .base (.int _)
  · exact .base (.str _)
  · rename_i h _ _; exact .base (.lst (s _ _ h))
  · rename_i h _ _; exact .base (.tup (s _ _ h))
def isiD (T : String) (f : Dt → Bool) : List D → Option D
  | [x, .ty n] => if n = T then (Dt.of x).map fun d => .bl (f d) else none
  | _ => none
theorem o_isi {T : String} {f : Dt → Bool} (hf : ∀ d, kitB (LR.ty d) T = some (f d)) : OpN K (rIsi K) (isiD T f) := ⟨fun {g σ H env vs xs z Q} R i e k => by
  unfold isiD at e
  split at e
  · split at e
    · rename_i h; subst h
      obtain ⟨d, ed, rfl⟩ := Option.map_eq_some_iff.mp e
      obtain ⟨v, u, rfl, i1, j1⟩ := i.two_inv
      cases j1
      exact ⟨v, .ty _, _, _, f d, rfl, .ty _, is_tyX R.ok.sb i1 ed, kit_ty (hf d), k _ _ _ .rfl R (.bl _)⟩
    · cases e
  · cases e⟩
end
/-! ## slices -/
end LR
set_option Elab.async false
set_option maxRecDepth 100000
set_option linter.all false
set_option maxHeartbeats 4000000
namespace LR
open PySem PySem.Spec PyProof.Rows L2
/-! # the data layer: targets, iterations, comprehensions -/
def onS {α : Type} : Option α → (α → Prop) → Prop
  | some a, k => k a
  | none, _ => False
theorem onS_some {α : Type} {o : Option α} {k : α → Prop} (h : onS o k) : ∃ a, o = some a ∧ k a := by
  cases o with
  | some a => exact ⟨a, rfl, h⟩
  | none => exact h.elim
structure Only (vs : List Nat) (σ : L2.St) (env : List Ev) (σ' : L2.St) (env' : List Ev) : Prop where
  ln : σ'.length = σ.length
  at_ : ∀ j, j ∉ vs → σ'[j]? = σ[j]? ∧ nth env' j = nth env j
theorem Only.rfl' {vs σ env} : Only vs σ env σ env := ⟨rfl, fun _ _ => ⟨rfl, rfl⟩⟩
theorem Only.trans {vs σ env σ' env' σ2 env2} (a : Only vs σ env σ' env') (b : Only vs σ' env' σ2 env2) : Only vs σ env σ2 env2 :=
  ⟨b.ln.trans a.ln, fun j h => ⟨(b.at_ j h).1.trans (a.at_ j h).1, (b.at_ j h).2.trans (a.at_ j h).2⟩⟩
abbrev DG := D → List Ev → Option (List Ev)
def liftG (K : PySem.W.Frag) (vs : List Nat) (b : DG) : TG := fun v σ H Q => ∃ g env x e, Rep K g σ H env ∧ Is K g.B v x ∧ b x env = some e ∧ ∀ σ' g', G.Le g g' → Rep K g' σ' H e → Only vs σ env σ' e → Q σ' H
def QG (X : Cx) (vs : List Nat) (tg : Expr) (b : DG) : Prop := PG X tg (liftG X.K vs b)
def bNm (i : Nat) : DG := fun x env => some (sth env i (.d x))
abbrev DGs := List D → List Ev → Option (List Ev)
def liftGs (K : PySem.W.Frag) (vs : List Nat) (b : DGs) : TGs := fun ws σ H Q => ∃ g env xs e, Rep K g σ H env ∧ Iss K g.B ws xs ∧ b xs env = some e ∧ ∀ σ' g', G.Le g g' → Rep K g' σ' H e → Only vs σ env σ' e → Q σ' H
structure QGs (X : Cx) (vs : List Nat) (n : Nat) (tgs : List Expr) (b : DGs) : Prop where
  run : PGs X tgs (liftGs X.K vs b)
  len : ∀ xs env e, b xs env = some e → xs.length = n
def bsNil : DGs
  | [], env => some env
  | _ :: _, _ => none
def bsCons (b : DG) (r : DGs) : DGs
  | x :: xs, env => (b x env).bind (r xs)
  | [], _ => none
def bTup (r : DGs) : DG
  | .tup l, env => r l env
  | _, _ => none
theorem _root_.L2.PG.mono {X tg t t'} (h : PG X tg t) (m : ∀ v σ H Q, t' v σ H Q → t v σ H Q) : PG X tg t' := ⟨fun pins s σ H v u Q I r q => h.run pins s σ H v u Q I r (m _ _ _ _ q)⟩
theorem _root_.L2.PGs.mono {X tg t t'} (h : PGs X tg t) (m : ∀ v σ H Q, t' v σ H Q → t v σ H Q) : PGs X tg t' := ⟨fun pins s σ H v u Q I r q => h.run pins s σ H v u Q I r (m _ _ _ _ q)⟩
section
variable {X : Cx} {vs : List Nat} {x : Str} {i : Nat} {pos : Pos}
theorem qg_name (h : PG X (.Name x pos) (gName i)) (hv : i ∈ vs := by decide) : QG X vs (.Name x pos) (bNm i) := h.mono fun v σ H Q ⟨g, env, y, e, R, iy, eb, k⟩ => by
  cases eb
  obtain ⟨g', l, _, R'⟩ := R.setD (i := i) (e := .d y) ⟨v, rfl, iy⟩ rfl
  exact k _ g' l R' ⟨List.length_set, fun j hj => ⟨get_set_ne fun e => hj (e ▸ hv), nth_sth_ne fun e => hj (e ▸ hv)⟩⟩
theorem qgs_nil : QGs X vs 0 [] bsNil := ⟨pgs_nil.mono (fun ws σ H Q ⟨g, env, xs, e, R, ix, eb, k⟩ => by
  cases ix with
  | nil => cases eb; exact ⟨rfl, k _ _ .rfl R .rfl'⟩
  | cons => cases eb), fun xs env e h => by
    cases xs with
    | nil => rfl
    | cons => cases h⟩
theorem qgs_cons {n : Nat} {t : Expr} {ts : List Expr} {b r} (h : QG X vs t b) (h2 : QGs X vs n ts r) (hp : PGs X (t :: ts) (gCons (liftG X.K vs b) (liftGs X.K vs r))) : QGs X vs (n + 1) (t :: ts) (bsCons b r) :=
  ⟨hp.mono (fun ws σ H Q ⟨g, env, xs, e, R, ix, eb, k⟩ => by
    cases ix with
    | nil => cases eb
    | cons i1 i2 =>
      obtain ⟨e1, h1, h3⟩ := Option.bind_eq_some_iff.mp eb
      exact ⟨_, _, rfl, g, env, _, e1, R, i1, h1, fun σ' g' l R' o => ⟨g', e1, _, e, R', i2.mono l.b, h3, fun σ2 g2 l2 R2 o2 => k _ _ (l.trans l2) R2 (o.trans o2)⟩⟩), fun xs env e h => by
    cases xs with
    | nil => cases h
    | cons y ys => obtain ⟨e1, _, h3⟩ := Option.bind_eq_some_iff.mp h; rw [List.length_cons, h2.len _ _ _ h3]⟩
theorem qg_tup {es : List Expr} {k n : Nat} {r} (hc : X.calm = true) (h : QGs X vs n es r) (hp : PG X (.Tuple es k pos) (gTup X.K n (liftGs X.K vs r))) : QG X vs (.Tuple es k pos) (bTup r) := hp.mono fun v σ H Q ⟨g, env, y, e, R, iy, eb, kk⟩ => by
  cases iy with
  | tup hp ip zp =>
    exact ⟨_, _, rfl, SqT.of (R.ok.sb _ _ hp), by rw [ip.length]; exact h.len _ _ _ eb, g, env, _, e, R, ip, eb, kk⟩
  | _ => cases eb
end
/-! ## iterations -/
structure Runs (K : PySem.W.Frag) (g : G) (J : It) (l : List D) : Prop where
  le : l.length ≤ 100000
  wk : ∃ (Gd : Hp → Prop) (Y : Nat → Hp → V → Hp → Prop), Walk J l.length Gd Y ∧ (∀ g2 σ env H', Same g.B g2.B → Rep K g2 σ H' env → Gd H') ∧
    ∀ i H v H', i < l.length → Y i H v H' → ∀ g2 σ env, Same g.B g2.B → Rep K g2 σ H env → ∃ g3 x, l[i]? = some x ∧ G.Le g2 g3 ∧ Rep K g3 σ H' env ∧ Is K g3.B v x
abbrev DI := List Ev → (Er → Prop) → (List D → Prop) → Prop
def liftI (K : PySem.W.Frag) (W : WX) (d : DI) : TI := fun σ H R => ∃ g env Ed Ld, Rep K g σ H env ∧ d env Ed Ld ∧ (∀ J l H' g', G.Le g g' → Rep K g' σ H' env → Runs K g' J l → Ld l → R J H') ∧ KX K W g σ env Ed
def QI (X : Cx) (W : WX) (tg e : Expr) (d : DI) : Prop := PI X tg e (liftI X.K W d)
theorem _root_.L2.PI.mono {X tg e t t'} (h : PI X tg e t) (m : ∀ σ H R, t' σ H R → t σ H R) : PI X tg e t' := ⟨fun pins s σ H R I q => h.run pins s σ H R I (m _ _ _ q)⟩
def seqI (k : List D → Prop) : D → Prop
  | .lst l => k l
  | .tup l => k l
  | _ => False
def iSeqD (d : DE) : DI := fun env Ed Ld => d env Ed (asD (seqI Ld))
def rgD (lo : Int) (n : Nat) : List D := (List.range n).map fun i => .int (lo + (i : Nat))
def iRng1D (d : DE) : DI := fun env Ed Ld => d env Ed (asD fun x => match x with
  | .int n => (-100000 ≤ n ∧ n ≤ 100000) ∧ Ld (rgD 0 n.toNat)
  | _ => False)
def iRng2D (d d2 : DE) : DI := fun env Ed Ld => d env Ed (asD fun x => d2 env Ed (asD fun y => match x, y with
  | .int a, .int b => (-100000 ≤ a ∧ a ≤ 100000 ∧ -100000 ≤ b ∧ b ≤ 100000 ∧ b - a ≤ 100000) ∧ Ld (rgD a (b - a).toNat)
  | _, _ => False))
def ltrs (z : Str) : List D := z.cps.toList.map fun c => .str ⟨#[c]⟩
def iStrD (d : DE) : DI := fun env Ed Ld => d env Ed (asD fun x => match x with
  | .str z => z.cps.size ≤ 100000 ∧ Ld (ltrs z)
  | _ => False)
section
variable {K : PySem.W.Frag}
theorem gd_of {g : G} {Gd : Hp → Prop} (hg : ∀ H', Same g.B H' → Gd H') : ∀ g2 σ env H', Same g.B g2.B → Rep K g2 σ H' env → Gd H' := fun _ _ _ H' le R => hg H' (le.trans R.ok.sb)
theorem runs_at {g : G} {J : It} {xs : List V} {l : List D} {Gd : Hp → Prop} (w : Walk J xs.length Gd (YAt xs)) (hg : ∀ H', Same g.B H' → Gd H') (i : Iss K g.B xs l) (z : xs.length ≤ 100000) : Runs K g J l := by
  refine ⟨by rw [← i.length]; exact z, Gd, _, by rw [← i.length]; exact w, gd_of hg, fun j H v H' hj y g2 σ env le R => ?_⟩
  obtain ⟨rfl, e⟩ := y
  obtain ⟨d, ed, id⟩ := i.get e
  exact ⟨g2, d, ed, .rfl, R, id.mono le⟩
theorem runs_fn {g : G} {J : It} {n : Nat} {f : Nat → V} {f' : Nat → D} {Gd : Hp → Prop} (w : Walk J n Gd (YFn f)) (hg : ∀ H', Same g.B H' → Gd H') (i : ∀ (B : Hp) j, Is K B (f j) (f' j)) (z : n ≤ 100000) : Runs K g J ((List.range n).map f') := by
  have hl : ((List.range n).map f').length = n := by rw [List.length_map, List.length_range]
  refine ⟨by rw [hl]; exact z, Gd, _, by rw [hl]; exact w, gd_of hg, fun j H v H' hj y g2 σ env le R => ?_⟩
  obtain ⟨rfl, rfl⟩ := y
  rw [hl] at hj
  exact ⟨g2, f' j, by rw [List.getElem?_map, List.getElem?_range hj]; rfl, .rfl, R, i _ _⟩
theorem seqI_is {B : Hp} {v : V} {x : D} {k : List D → Prop} (i : Is K B v x) (q : seqI k x) : ∃ p xs l, v = .ref p ∧ (B p = some (.lst xs) ∨ B p = some (.tup xs)) ∧ Iss K B xs l ∧ xs.length ≤ 100000 ∧ k l := by
  cases i with
  | lst h a z => exact ⟨_, _, _, rfl, .inl h, a, z, q⟩
  | tup h a z => exact ⟨_, _, _, rfl, .inr h, a, z, q⟩
  | _ => exact q.elim
theorem sq_of {B H : Hp} {p : Addr} {xs : List V} (s : Same B H) (h : B p = some (.lst xs) ∨ B p = some (.tup xs)) : Sq K H p xs := by
  rcases h with h | h
  · exact .inl (SqL.of (s _ _ h))
  · exact .inr (SqT.of (s _ _ h))
end
section
variable {X : Cx} {W : WX} {tg e e2 : Expr} {p pos tpos : Pos} {elts : List Expr} {kk : Nat}
theorem qi_seq {d} (h : QE X W e d) : QI X W tg e (iSeqD d) := (pi_seq h).mono fun σ H R ⟨g, env, Ed, Ld, Rp, h, kv, kx⟩ => by
  refine lift.useD Rp h (fun v x H1 g1 l1 R1 i1 q => ?_) kx
  obtain ⟨a, xs, l, rfl, hp, ip, zp, q⟩ := seqI_is i1 q
  refine ⟨a, rfl, (sq_of (K := X.K) (Same.rfl' (H := g1.B)) hp).walk R1.ok.sb fun J Gd w g1' _ => kv J l H1 g1 l1 R1 (runs_at w (fun H' s => g1' H' s) ip zp) q⟩
theorem qi_range1 {d} (hg : Gl X "range") (hm : X.mg "range" = none) (h : QE X W e d) (hs : starEach [e] X.env = [(false, eval e X.env)] := by rfl) :
    QI X W tg (.Call (.Name "range" p) [e] [] pos) (iRng1D d) := (pi_range1 hg hm (pa_cons h pa_nil hs) hs).mono fun σ H R ⟨g, env, Ed, Ld, Rp, h, kv, kx⟩ => by
  refine lift.useD Rp h (fun v x H1 g1 l1 R1 i1 q => ?_) kx
  cases x with
  | int n =>
    obtain ⟨b, q⟩ := q
    exact ⟨n, by rw [i1.intE], by omega, by omega, kv _ _ H1 g1 l1 R1 (runs_fn walk_range (fun _ _ => trivial) (fun _ _ => .int _) (by omega)) q⟩
  | _ => exact q.elim
theorem qi_range2 {d d2} (hg : Gl X "range") (hm : X.mg "range" = none) (h : QE X W e d) (h2 : QE X W e2 d2) (hs : starEach [e, e2] X.env = [(false, eval e X.env), (false, eval e2 X.env)] := by rfl) (hs2 : starEach [e2] X.env = [(false, eval e2 X.env)] := by rfl) :
    QI X W tg (.Call (.Name "range" p) [e, e2] [] pos) (iRng2D d d2) := (pi_range2 hg hm (pa_cons h (pa_cons h2 pa_nil hs2) (by rw [hs2]; exact hs)) hs hs2).mono fun σ H R ⟨g, env, Ed, Ld, Rp, h, kv, kx⟩ => by
  refine lift.useD Rp h (fun v x H1 g1 l1 R1 i1 q => lift.useD R1 q (fun u y H2 g2 l2 R2 i2 q => ?_) (kx.mono l1)) kx
  cases x with
  | int a => cases y with
    | int b =>
      obtain ⟨c, q⟩ := q
      exact ⟨a, b, by rw [i1.intE, i2.intE], ⟨by omega, by omega, by omega, by omega⟩, kv _ _ H2 g2 (l1.trans l2) R2 (runs_fn walk_range (fun _ _ => trivial) (fun _ _ => .int _) (by omega)) q⟩
    | _ => exact q.elim
  | _ => cases y <;> exact q.elim
theorem qi_str {d} (h : QE X W e d) : QI X W tg e (iStrD d) := (pi_str h).mono fun σ H R ⟨g, env, Ed, Ld, Rp, h, kv, kx⟩ => by
  refine lift.useD Rp h (fun v x H1 g1 l1 R1 i1 q => ?_) kx
  cases x with
  | str z =>
    obtain ⟨hz, q⟩ := q
    have hl : (ltrs z).length = z.cps.size := by unfold ltrs; rw [List.length_map, Array.length_toList]
    refine ⟨z, i1.strE, kv _ _ H1 g1 l1 R1 ⟨by rw [hl]; exact hz, _, _, by rw [hl]; exact walk_str, fun _ _ _ _ _ _ => trivial, fun j H v H' hj y g2 σ env le R => ?_⟩ q⟩
    obtain ⟨rfl, c, e, rfl⟩ := y
    refine ⟨g2, _, ?_, .rfl, R, .str _⟩
    unfold ltrs
    rw [List.getElem?_map, Array.getElem?_toList, e]; rfl
  | _ => exact q.elim
end
/-! ## comprehensions -/
def wipeE (env : List Ev) : List Nat → List Ev
  | [] => env
  | v :: vs => sth (wipeE env vs) v .any
def ownFree (env : List Ev) : List Nat → Bool
  | [] => true
  | v :: vs => !isOwn (nth env v) && ownFree env vs
theorem ownFree_at {env vs} (h : ownFree env vs = true) : ∀ v ∈ vs, isOwn (nth env v) = false := by
  induction vs with
  | nil => intro v h; cases h
  | cons u r ih =>
    unfold ownFree at h
    rw [Bool.and_eq_true] at h
    intro v hv
    rcases List.mem_cons.mp hv with rfl | hv
    · simpa using h.1
    · exact ih h.2 v hv
def WF : WX := fun _ _ _ _ => False
section
variable {K : PySem.W.Frag} {g g' : G} {σ σ' : L2.St} {H H' : Hp} {env env' : List Ev} {vs : List Nat}
theorem Rep.setN (r : Rep K g σ H env) (i : Nat) : Rep K (g.setF i []) (σ.set i none) H (sth env i .any) := r.dropS i List.length_set fun j n => get_set_ne n
theorem Rep.wipe (r : Rep K g σ H env) : ∀ vs, ∃ g', G.Le g g' ∧ g'.B = g.B ∧ Rep K g' (L2.wipe σ vs) H (wipeE env vs)
  | [] => ⟨g, .rfl, rfl, r⟩
  | v :: vs =>
    let ⟨_, l, e, R⟩ := r.wipe vs
    ⟨_, l.trans G.setF_le, e, R.setN v⟩
theorem wipe_get : ∀ {vs : List Nat} {j : Nat}, j ∉ vs → (L2.wipe σ vs)[j]? = σ[j]?
  | [], _, _ => rfl
  | v :: vs, j, h => by
    show ((L2.wipe σ vs).set v none)[j]? = _
    rw [get_set_ne (fun e => h (by rw [e]; exact List.mem_cons_self)), wipe_get fun z => h (List.mem_cons_of_mem _ z)]
theorem wipeE_get : ∀ {vs : List Nat} {j : Nat}, j ∉ vs → nth (wipeE env vs) j = nth env j
  | [], _, _ => rfl
  | v :: vs, j, h => by
    show nth (sth (wipeE env vs) v .any) j = _
    rw [nth_sth_ne (fun e => h (by rw [e]; exact List.mem_cons_self)), wipeE_get fun z => h (List.mem_cons_of_mem _ z)]
theorem wipe_in : ∀ {vs : List Nat} {j : Nat}, j ∈ vs → j < σ.length → (L2.wipe σ vs)[j]? = some none
  | v :: vs, j, h, hl => by
    show ((L2.wipe σ vs).set v none)[j]? = _
    by_cases e : j = v
    · subst e; exact get_set_eq (by rw [wipe_length]; exact hl)
    · rw [get_set_ne e]
      exact wipe_in ((List.mem_cons.mp h).resolve_left e) hl
theorem wipe_only (o : Only vs (L2.wipe σ vs) (wipeE env vs) σ' env') : L2.wipe σ' vs = L2.wipe σ vs := by
  have hl := o.ln
  rw [wipe_length] at hl
  refine List.ext_getElem? fun j => ?_
  by_cases h : j ∈ vs
  · rcases Nat.lt_or_ge j σ.length with z | z
    · rw [wipe_in h z, wipe_in h (by omega)]
    · rw [List.getElem?_eq_none (by rw [wipe_length]; omega), List.getElem?_eq_none (by rw [wipe_length]; omega)]
  · rw [wipe_get h, (o.at_ j h).1]
/-- out of a comprehension's turn -/
theorem Sl.monoN {q e fs gs} (le : G.Le g g') (n : isOwn e = false) (s : Sl K g H q fs e) : Sl K g' H' q gs e := by
  cases e with
  | any => trivial
  | d x => obtain ⟨v, e, h⟩ := s; exact ⟨v, e, h.mono le.b⟩
  | own l b => cases n
  | pool => obtain ⟨p, e, h⟩ := s; exact ⟨p, e, le.m _ h⟩
  | scr ns => obtain ⟨a, e, h⟩ := s; exact ⟨a, e, by rw [le.h0, le.m0, le.xa]; exact h⟩
  | err a dd fs => exact ⟨s.1, fun d h => le.b _ _ (s.2 d h)⟩
  | raw v => exact s
open Classical in
theorem Rep.unwipe (r0 : Rep K g σ H env) (le : G.Le g g') (r : Rep K g' σ' H' env') (o : Only vs (L2.wipe σ vs) (wipeE env vs) σ' env') (ow : ownFree env vs = true) : ∃ F', Rep K { g' with F := F' } σ H' env ∧ ∀ j a, a ∈ F' j → a ∈ g'.F j := by
  have l2 : G.Le g' { g' with F := fun j => if j ∈ vs then [] else g'.F j } := ⟨rfl, rfl, fun _ h => h, Same.rfl', rfl, rfl, rfl⟩
  have fin : ∀ {j}, j ∈ vs → (fun j => if j ∈ vs then [] else g'.F j) j = [] := fun {j} h => if_pos h
  have fout : ∀ {j}, j ∉ vs → (fun j => if j ∈ vs then [] else g'.F j) j = g'.F j := fun {j} h => if_neg h
  have sub : ∀ {j a}, a ∈ (fun j => if j ∈ vs then [] else g'.F j) j → a ∈ g'.F j := fun {j a} m => by
    by_cases h : j ∈ vs
    · rw [fin h] at m; cases m
    · rwa [fout h] at m
  have eqv : ∀ {j}, j ∉ vs → nth env' j = nth env j := fun {j} h => by
    rw [(o.at_ j h).2, wipeE_get h]
  refine ⟨fun j => if j ∈ vs then [] else g'.F j, ⟨⟨r.ok.sb, r.ok.pl, r.ok.im, r.ok.fr, r.ok.nw, r.ok.pv, r.ok.m0, r.ok.bn, r.ok.xp⟩, r0.ln, fun j => ?_, fun j hj => ?_, fun i j a n hi hj => r.di i j a n (sub hi) (sub hj)⟩, fun j a h => sub h⟩
  · by_cases h : j ∈ vs
    · exact (r0.sl j).monoN (le.trans l2) (ownFree_at ow j h)
    · have s := r.sl j
      rw [(o.at_ j h).1, eqv h, wipe_get h] at s
      show Sl K _ H' σ[j]? ((fun j => if j ∈ vs then [] else g'.F j) j) (nth env j)
      rw [fout h]
      exact s.mono l2 fun b v o a => a.keep (g' := { g' with F := fun j => if j ∈ vs then [] else g'.F j }) rfl Same.rfl' (fun _ _ => rfl) fun p m q => ⟨q.nb, q.nm, q.n0, q.np⟩
  · show (fun j => if j ∈ vs then [] else g'.F j) j = []
    by_cases h : j ∈ vs
    · exact fin h
    · rw [fout h]; exact r.nf j (by rw [eqv h]; exact hj)
/-- cells under way are set aside -/
def G.side (g : G) (H : Hp) (fs : List Addr) : G := { g with P := frzB g.P H fs }
def G.back (g : G) (P : Hp) : G := { g with P := P }
theorem Rep.side {b v o fs} (r : Rep K g σ H env) (a : OwnAt K g H b v o fs) (ns : Off g fs) : Rep K (g.side H fs) σ H env := by
  refine ⟨⟨r.ok.sb, r.ok.pl, r.ok.im, r.ok.fr, r.ok.nw, fun c u e => ?_, r.ok.m0, r.ok.bn, r.ok.xp⟩, r.ln, fun i => ?_, r.nf, r.di⟩
  · have e : frzB g.P H fs c = some u := e
    by_cases m : c ∈ fs
    · rw [frzB_in m] at e; exact ⟨e, (a.pv c m).nb, (a.pv c m).nm⟩
    · rw [frzB_out m] at e; exact r.ok.pv c u e
  · have s := r.sl i
    cases e : nth env i with
    | own o' b' =>
      rw [e] at s
      obtain ⟨v, e1, a'⟩ := s
      refine ⟨v, e1, a'.is_, a'.nd, fun p m => ?_, a'.pin⟩
      have q := a'.pv p m
      refine ⟨q.nb, q.nm, q.n0, ?_⟩
      show frzB g.P H fs p = none
      rw [frzB_out fun h => ns i p h m]; exact q.np
    | any => trivial
    | d x => rw [e] at s; exact s
    | pool => rw [e] at s; exact s
    | scr ns => rw [e] at s; exact s
    | err ea dd fs => rw [e] at s; exact s
    | raw v => rw [e] at s; exact s
/-- .. and taken back -/
theorem Rep.back {b v o fs} (a : OwnAt K g H b v o fs) (le : G.Le (g.side H fs) g') (r : Rep K g' σ' H' env') :
    Rep K (g'.back g.P) σ' H' env' ∧ OwnAt K (g'.back g.P) H' b v o fs ∧ Off (g'.back g.P) fs ∧ G.Le g (g'.back g.P) ∧ (∀ p ∈ fs, H' p = H p) ∧ (∀ b' v' o' fs', OwnAt K g' H' b' v' o' fs' → OwnAt K (g'.back g.P) H' b' v' o' fs' ∧ ∀ p ∈ fs', p ∉ fs) ∧ ∀ b' p, Priv g' b' p → Priv (g'.back g.P) b' p ∧ p ∉ fs := by
  have hP : g'.P = frzB g.P H fs := le.p
  have cell : ∀ p ∈ fs, H' p = H p ∧ g'.B p = none ∧ ¬ g'.M p := fun p m => by
    obtain ⟨u, hu⟩ := a.ex p m
    obtain ⟨h1, h2, h3⟩ := r.ok.pv p u (by rw [hP, frzB_in m]; exact hu)
    exact ⟨h1.trans hu.symm, h2, h3⟩
  have outP : ∀ {p}, g'.P p = none → p ∉ fs := fun {p} e m => by
    obtain ⟨u, hu⟩ := a.ex p m
    rw [hP, frzB_in m, hu] at e; cases e
  have l2 : G.Le g (g'.back g.P) := ⟨le.h0, le.m0, le.m, le.b, rfl, le.b0, le.x⟩
  refine ⟨⟨⟨r.ok.sb, r.ok.pl, r.ok.im, r.ok.fr, r.ok.nw, fun c u e => ?_, r.ok.m0, r.ok.bn, r.ok.xp⟩, r.ln, fun i => ?_, r.nf, r.di⟩, ⟨a.is_.mono l2.b fun p m => (cell p m).1, a.nd, fun p m => ⟨(cell p m).2.1, (cell p m).2.2, ?_, (a.pv p m).np⟩, fun u e => by rw [l2.x]; exact a.pin u e⟩, fun i p m h => ?_, l2, fun p m => (cell p m).1, fun b' v' o' fs' a' => ⟨⟨a'.is_, a'.nd, fun p m => ?_, a'.pin⟩, fun p m => outP (a'.pv p m).np⟩, fun b' p q => ⟨⟨q.nb, q.nm, q.n0, ?_⟩, outP q.np⟩⟩
  rotate_right
  · have := q.np
    rw [hP, frzB_out (outP q.np)] at this; exact this
  rotate_right
  · have q := a'.pv p m
    refine ⟨q.nb, q.nm, q.n0, ?_⟩
    have := q.np
    rw [hP, frzB_out (outP q.np)] at this; exact this
  · have e : g.P c = some u := e
    have n : c ∉ fs := fun m => by rw [(a.pv c m).np] at e; cases e
    exact r.ok.pv c u (by rw [hP, frzB_out n]; exact e)
  · have s := r.sl i
    cases e : nth env' i with
    | own o' b' =>
      rw [e] at s
      obtain ⟨v, e1, a'⟩ := s
      refine ⟨v, e1, a'.is_, a'.nd, fun p m => ?_, a'.pin⟩
      have q := a'.pv p m
      refine ⟨q.nb, q.nm, q.n0, ?_⟩
      have := q.np
      rw [hP, frzB_out (outP q.np)] at this; exact this
    | any => trivial
    | d x => rw [e] at s; exact s
    | pool => rw [e] at s; exact s
    | scr ns => rw [e] at s; exact s
    | err ea dd fs => rw [e] at s; exact s
    | raw v => rw [e] at s; exact s
  · have q := (a.pv p m).n0
    rcases q with q | q
    · exact .inl ((congrFun l2.h0 p).trans q)
    · exact .inr ⟨q.1, by rw [l2.xa]; exact q.2⟩
  · obtain ⟨v', o', b', _, _, a'⟩ := r.ownC h
    exact outP (a'.pv p h).np m
end
/-- a result as something one owns -/
def asO (k : Ow → Prop) : Ar → Prop
  | .d x => k (.da x)
  | .fr o => k o
  | .pool => False
  | .scr _ => False
/-- how an element is taken up: as data, or as something one owns -/
def TakeUp (K : PySem.W.Frag) {β : Type} (cv : (β → Prop) → Ar → Prop) (e : β → Ow) : Prop := ∀ {g : G} {σ : L2.St} {H : Hp} {env : List Ev} {v : V} {r : Ar} {k : β → Prop}, Rep K g σ H env → IsR K g H v r → cv k r →
  ∃ y fs g', G.Le g g' ∧ Rep K g' σ H env ∧ OwnAt K g' H none v (e y) fs ∧ Off g' fs ∧ k y
theorem OwnAt.da {K : PySem.W.Frag} {g : G} {H : Hp} {v x} (i : Is K g.B v x) : OwnAt K g H none v (.da x) [] := ⟨.da i, .nil, (fun _ m => nomatch m), fun _ h => by cases h⟩
theorem Off.nil {g : G} : Off g [] := fun _ _ m => nomatch m
theorem up_d {K : PySem.W.Frag} : TakeUp K asD Ow.da := fun {g σ H env v r k} R i q => by
  obtain ⟨x, g', l, R', ix, q⟩ := i.asD R q
  exact ⟨_, [], g', l, R', .da ix, .nil, q⟩
theorem up_o {K : PySem.W.Frag} : TakeUp K asO id := fun {g σ H env v r k} R i q => by
  cases r with
  | d x => exact ⟨.da x, [], g, .rfl, R, .da i, .nil, q⟩
  | fr o => obtain ⟨fs, a, ns⟩ := i; exact ⟨o, fs, g, .rfl, R, a, ns, q⟩
  | pool => exact q.elim
  | scr _ => exact q.elim
section
variable {K : PySem.W.Frag} {B H : Hp}
theorem OwIss.toD : ∀ {l : List D} {vs gs}, OwIss K B H vs (l.map .da) gs → gs = [] ∧ Iss K B vs l
  | [], _, _, h => by
    cases h; exact ⟨rfl, .nil⟩
  | x :: l, _, _, h => by
    cases h with
    | cons a r =>
      cases a with
      | da i =>
        obtain ⟨rfl, t⟩ := OwIss.toD r
        exact ⟨rfl, .cons i t⟩
theorem OwIs.toLs {l : List D} {v fs} (h : OwIs K B H v (.tr (l.map .da)) fs) : OwIs K B H v (.ls l) fs := by
  obtain ⟨p, vs, gs, rfl, rfl, hp, a, z⟩ := h.trE
  obtain ⟨rfl, i⟩ := a.toD
  exact .l hp i z
theorem OwIs.toTr {l : List D} {v fs} (h : OwIs K B H v (.ls l) fs) : OwIs K B H v (.tr (l.map .da)) fs := by
  obtain ⟨p, xs, rfl, rfl, hp, i, z⟩ := h.lE
  exact .tr hp (.ofD i) z
end
/-- one more item of a list one owns -/
theorem OwnAt.app {K : PySem.W.Frag} {g : G} {H : Hp} {D : Addr} {xs : List V} {acc : List Ow} {gs fs : List Addr} {v : V} {o : Ow} {b b' : Option Nat} (a : OwnAt K g H b (.ref D) (.tr acc) (D :: gs)) (hD : H D = some (.lst xs)) (q : OwnAt K g H b' v o fs) (hb : b'.isSome = true → b.isSome = true) (dj : ∀ p ∈ fs, p ∉ D :: gs) (z : xs.length + 1 ≤ 100000) :
    OwnAt K g (upd H D (.lst (xs ++ [v]))) b (.ref D) (.tr (acc ++ [o])) (D :: (gs ++ fs)) := by
  obtain ⟨p, vs, gs', e1, e2, hp, ai, _⟩ := a.is_.trE
  cases e1; cases e2
  rw [hD] at hp; cases hp
  have nd := List.nodup_cons.mp a.nd
  have nDg : ∀ p ∈ gs, p ≠ D := fun p m e => nd.1 (e ▸ m)
  have nDf : ∀ p ∈ fs, p ≠ D := fun p m e => dj p m (by rw [e]; exact List.mem_cons_self)
  refine ⟨.tr upd_same ((ai.mono Same.rfl' fun p m => upd_ne (nDg p m)).append ?_) (by rw [List.length_append]; exact z), ?_, fun p m => ?_, a.pin⟩
  · have := OwIss.cons (q.is_.mono (H' := upd H D (.lst (xs ++ [v]))) Same.rfl' fun p m => upd_ne (nDf p m)) .nil
    rwa [List.append_nil] at this
  · refine List.nodup_cons.mpr ⟨fun m => ?_, List.nodup_append.mpr ⟨nd.2, q.nd, fun x m y m2 e => dj y m2 (by rw [← e]; exact List.mem_cons_of_mem _ m)⟩⟩
    rcases List.mem_append.mp m with m | m
    · exact nd.1 m
    · exact nDf D m rfl
  · rcases List.mem_cons.mp m with rfl | m
    · exact a.pv _ List.mem_cons_self
    · rcases List.mem_append.mp m with m | m
      · exact a.pv p (List.mem_cons_of_mem _ m)
      · have := q.pv p m
        exact ⟨this.nb, this.nm, this.n0.elim .inl fun h => .inr ⟨hb h.1, h.2⟩, this.np⟩
/-- cells that no slot holds change -/
theorem Rep.ownR {K : PySem.W.Frag} {g : G} {σ : L2.St} {H : Hp} {env : List Ev} {p : Addr} {ys : HO} {b : Option Nat} (r : Rep K g σ H env) (a : Priv g b p) (hp : ∃ u, H p = some u) (ns : ∀ i, p ∉ g.F i) (ni : ¬ Imm ys) : Rep K g σ (upd H p ys) env :=
  r.move (r.ok.own a ni hp) .rfl rfl fun i c m => ⟨fun b q => q, upd_ne fun e => ns i (e ▸ m)⟩
def dLcG {β : Type} (cv : (β → Prop) → Ar → Prop) (out : List β → Ow) (vs : List Nat) (it : DI) (b : DG) (dt : DT) (de : DE) : DE := fun env Ed Q => ownFree env vs = true ∧ it env Ed fun l => ∃ I : Nat → List β → Prop, I 0 [] ∧
  (∀ i x acc, l[i]? = some x → I i acc → onS (b x (wipeE env vs)) fun e2 => dt e2 (fun _ => False) fun c => (c = true → de e2 (fun _ => False) (cv fun y => I (i + 1) (acc ++ [y]))) ∧ (c = false → I (i + 1) acc)) ∧
  ∀ acc, I l.length acc → Q (.fr (out acc))
def dLc (vs : List Nat) (it : DI) (b : DG) (dt : DT) (de : DE) : DE := dLcG asD Ow.ls vs it b dt de
section
variable {K : PySem.W.Frag} {W : WX} {σ : L2.St} {H : Hp} {Q : VK} {β : Type} {cv : (β → Prop) → Ar → Prop} {e : β → Ow} {out : List β → Ow}
theorem lift_lcG {vs : List Nat} {it : DI} {b : DG} {dt : DT} {de : DE} (up : TakeUp K cv e) (ho : ∀ {B H v fs} {acc : List β}, OwIs K B H v (.tr (acc.map e)) fs → OwIs K B H v (out acc) fs) (h : lift K W (dLcG cv out vs it b dt de) σ H Q) : tLc (liftI K W it) (liftG K vs b) (liftT K WF dt) (lift K WF de) vs σ H Q := by
  obtain ⟨g, env, Ed, Qd, R, ⟨ow, h⟩, kv, kx⟩ := h
  refine ⟨g, env, Ed, _, R, h, fun J l H1 g1 l1 R1 rn ⟨I, I0, step, fin⟩ => ?_, kx⟩
  intro D hD
  obtain ⟨zl, Gd, Y, w, hgd, hy⟩ := rn
  have kx0 : ∀ {g σ env}, KX K WF g σ env (fun _ => False) := fun _ _ _ _ _ _ _ _ z => z.elim
  refine lc_it w (fun i H' => ∃ g' acc xs gs, G.Le g1 g' ∧ Rep K g' σ H' env ∧ H' D = some (.lst xs) ∧ OwnAt K g' H' none (.ref D) (.tr (acc.map e)) (D :: gs) ∧ xs.length ≤ i ∧ Off g' (D :: gs) ∧ I i acc) ?_ (fun i H' hi ⟨g', acc, xs, gs, l2, R2, _⟩ => hgd g' _ _ H' l2.b R2) ?_ ?_
  · obtain ⟨R2, ow, ns⟩ := upd_ls (xs := []) (l := []) R1 hD .nil (by decide)
    exact ⟨g1, [], [], [], .rfl, R2, upd_same, ⟨ow.is_.toTr, ow.nd, ow.pv, ow.pin⟩, Nat.zero_le _, ns, I0⟩
  · rintro i x H2 H3 hi ⟨g2, acc, xs, gs, l2, R2, hxs, o2, zl2, ns2, Ii⟩ y
    have S2 := R2.side o2 ns2
    obtain ⟨g3, dx, el, l3, S3, ix⟩ := hy i H2 x H3 hi y (g2.side H2 (D :: gs)) σ env l2.b S2
    obtain ⟨e2, eb, st⟩ := onS_some (step i dx acc el Ii)
    obtain ⟨g4, l4, eB, S4⟩ := S3.wipe vs
    refine ⟨g4, wipeE env vs, dx, e2, S4, by rw [eB]; exact ix, eb, fun σ2 g5 l5 R5 o => ⟨wipe_only o, g5, e2, fun _ => False, _, R5, st, fun c H4 g6 l6 R6 ⟨q1, q2⟩ => ?_, kx0⟩⟩
    cases c with
    | true =>
      rw [if_pos rfl]
      refine lift.use R6 (q1 rfl) (fun u r H5 g7 l7 R7 i7 q => ?_) kx0
      obtain ⟨yo, fs, g8, l8, R8, o8, ns8, Inext⟩ := up R7 i7 q
      have l38 := l4.trans (l5.trans (l6.trans (l7.trans l8)))
      obtain ⟨F', R9, sub⟩ := S3.unwipe l38 R8 o ow
      have l9 : G.Le g8 { g8 with F := F' } := ⟨rfl, rfl, fun _ h => h, Same.rfl', rfl, rfl, rfl⟩
      have o9 : OwnAt K { g8 with F := F' } H5 none u (e yo) fs := ⟨o8.is_, o8.nd, fun p m => ⟨(o8.pv p m).nb, (o8.pv p m).nm, (o8.pv p m).n0, (o8.pv p m).np⟩, o8.pin⟩
      obtain ⟨RA, oA, nsA, lA, hA, tr, _⟩ := Rep.back o2 (l3.trans (l38.trans l9)) R9
      obtain ⟨oB, djB⟩ := tr _ _ _ _ o9
      have hD5 : H5 D = some (.lst xs) := (hA D List.mem_cons_self).trans hxs
      have hb : xs.length + 1 ≤ 100000 := by omega
      refine ⟨xs, hD5, by rw [sizeLine_eq]; omega, _, acc ++ [yo], xs ++ [u], gs ++ fs, l2.trans lA, RA.ownR (oA.pv D List.mem_cons_self) ⟨_, hD5⟩ (fun i => nsA i D List.mem_cons_self) (fun h => h), upd_same, by rw [List.map_append]; exact oA.app hD5 oB (fun h => h) djB hb, by rw [List.length_append]; exact Nat.succ_le_succ zl2, fun i p m h => ?_, Inext⟩
      rcases List.mem_cons.mp m with rfl | m
      · exact nsA i _ List.mem_cons_self h
      · rcases List.mem_append.mp m with m | m
        · exact nsA i p (List.mem_cons_of_mem _ m) h
        · exact ns8 i p m (sub i p h)
    | false =>
      rw [if_neg (by decide)]
      have l36 := l4.trans (l5.trans l6)
      obtain ⟨F', R9, sub⟩ := S3.unwipe l36 R6 o ow
      have l9 : G.Le g6 { g6 with F := F' } := ⟨rfl, rfl, fun _ h => h, Same.rfl', rfl, rfl, rfl⟩
      obtain ⟨RA, oA, nsA, lA, hA, tr, _⟩ := Rep.back o2 (l3.trans (l36.trans l9)) R9
      exact ⟨_, acc, xs, gs, l2.trans lA, RA, (hA D List.mem_cons_self).trans hxs, oA, by omega, nsA, q2 rfl⟩
  · rintro H2 ⟨g2, acc, xs, gs, l2, R2, hxs, o2, zl2, ns2, Ii⟩
    exact kv _ (.fr (out acc)) H2 g2 (l1.trans l2) R2 ⟨_, ⟨ho o2.is_, o2.nd, o2.pv, o2.pin⟩, ns2⟩ (fin acc Ii)
theorem lift_lc {vs : List Nat} {it : DI} {b : DG} {dt : DT} {de : DE} (h : lift K W (dLc vs it b dt de) σ H Q) : tLc (liftI K W it) (liftG K vs b) (liftT K WF dt) (lift K WF de) vs σ H Q := lift_lcG up_d (fun h => h.toLs) h
end
/-! ### as a value -/
section
variable {X : Cx} {W : WX} {elt tg iter : Expr} {ifs : List Expr} {scope : Scope} {own : List (Str × Nat)} {pos : Pos}
def QTs (X : Cx) (W : WX) (es : List Expr) (d : DT) : Prop := PTs X es (liftT X.K W d)
def QPTs (X : Cx) (es : List Expr) (p : PF) : Prop := ∀ W, QTs X W es (dPT p)
theorem _root_.L2.PTs.mono {X es t t'} (h : PTs X es t) (m : ∀ σ H Q, t' σ H Q → t σ H Q) : PTs X es t' := ⟨fun pins s σ H Q I q => h.run pins s σ H Q I (m _ _ _ q)⟩
def dYes : DT := fun _ _ Q => Q true
theorem qts_nil : QTs X W [] dYes := pts_nil.mono fun σ H Q ⟨g, env, Ed, Qd, R, h, kv, kx⟩ => kv true H g .rfl R h
theorem qts_one {c d} (h : QT X W c d) : QTs X W [c] d := pts_one h
theorem qpts_nil : QPTs X [] (pc (.bl true)) := fun W => qts_nil.mono fun σ H Q h => h.imp fun env Ed Q ⟨b, e, q⟩ => by cases e; exact q
theorem qpts_one {c p} (h : QPT X c p) : QPTs X [c] p := fun W => pts_one (h W)
theorem qe_lc {it : DI} {b : DG} {dt : DT} {de : DE} (hc : X.calm = true) (hN : X.N.Nodup) (hi : QI X W tg iter it) (ok : BlkOk X.N X.env.scope scope own)
    (hg : ∀ (s : Shared) (H : Hp) (C : Addr) (cl : List (Str × Addr)) (fp : List Addr), QG (X.blk s H scope (compEnvC scope cl C X.env) fp) (own.map Prod.snd) tg b)
    (ht : ∀ (s : Shared) (H : Hp) (C : Addr) (cl : List (Str × Addr)) (fp : List Addr), QTs (X.blk s H scope (compEnvC scope cl C X.env) fp) WF ifs dt)
    (he : ∀ (s : Shared) (H : Hp) (C : Addr) (cl : List (Str × Addr)) (fp : List Addr), QE (X.blk s H scope (compEnvC scope cl C X.env) fp) WF elt de) (hs : ∀ x, foldedSetIterable iter X.env x = pure x := by intro _; rfl) :
    QE X W (.ListComp elt [⟨tg, iter, ifs, 0⟩] scope pos) (dLc (own.map Prod.snd) it b dt de) :=
  (pe_lc (g := liftG X.K (own.map Prod.snd) b) (tt := liftT X.K WF dt) (te := lift X.K WF de) hc hN hi ok hg ht he hs).mono fun _ _ _ h => lift_lc h
def pcol (f : D → Option (Option D)) : List D → Option (List D)
  | [] => some []
  | x :: l => match f x, pcol f l with
    | some none, some r => some r
    | some (some y), some r => some (y :: r)
    | _, _ => none
theorem pcol_cons {f x l r} (h : pcol f (x :: l) = some r) : ∃ o m, f x = some o ∧ pcol f l = some m ∧ r = o.toList ++ m := by
  unfold pcol at h
  split at h
  · rename_i e1 e2; cases h; exact ⟨_, _, e1, e2, rfl⟩
  · rename_i e1 e2; cases h; exact ⟨_, _, e1, e2, rfl⟩
  · cases h
/-- the comprehension's turn -/
def pturn (b : DG) (pt pe : PF) (env : List Ev) (x : D) : Option (Option D) := match b x env with
  | some e2 => match pt e2 with
    | some (.bl true) => match pe e2 with
      | some y => some (some y)
      | none => none
    | some (.bl false) => some none
    | _ => none
  | none => none
/-- an iteration whose items are known -/
structure DIp where
  di : DI
  p : List Ev → Option (List D)
  ok : ∀ env Ed Ld l, p env = some l → Ld l → di env Ed Ld
def plc (vs : List Nat) (it : List Ev → Option (List D)) (b : DG) (pt pe : PF) : PF := fun env => if ownFree env vs = true then match it env with
  | some l => match pcol (pturn b pt pe (wipeE env vs)) l with
    | some r => some (.lst r)
    | none => none
  | none => none
  else none
theorem pcol_app {f} : ∀ {l : List D} {r}, pcol f l = some r → ∀ i, ∃ a b, pcol f (l.take i) = some a ∧ pcol f (l.drop i) = some b ∧ r = a ++ b
  | [], _, h, i => by cases h; exact ⟨[], [], by simp [pcol], by simp [pcol], rfl⟩
  | x :: l, r, h, 0 => ⟨[], r, rfl, h, rfl⟩
  | x :: l, r, h, i + 1 => by
    obtain ⟨o, m, e1, e2, rfl⟩ := pcol_cons h
    obtain ⟨a, b, h1, h2, rfl⟩ := pcol_app e2 i
    refine ⟨o.toList ++ a, b, ?_, h2, by rw [List.append_assoc]⟩
    rw [List.take_succ_cons, pcol, e1, h1]
    cases o <;> rfl
theorem plc_dLc {vs : List Nat} {it : DIp} {b : DG} {pt pe : PF} {env Ed} {l : List D} {Q : Ar → Prop} (h : plc vs it.p b pt pe env = some (.lst l)) (q : Q (.fr (.ls l))) : dLc vs it.di b (dPT pt) (dP pe) env Ed Q := by
  unfold plc at h
  split at h
  · rename_i ow
    refine ⟨ow, ?_⟩
    split at h
    · rename_i its ei
      split at h
      · rename_i r er
        cases h
        refine it.ok env Ed _ _ ei ⟨fun i acc => pcol (pturn b pt pe (wipeE env vs)) (its.take i) = some acc, rfl, fun i x acc ex Ii => ?_, fun acc hI => ?_⟩
        · have Ii : pcol (pturn b pt pe (wipeE env vs)) (its.take i) = some acc := Ii
          obtain ⟨a, d, h1, h2, e3⟩ := pcol_app er i
          have hi := (List.getElem?_eq_some_iff.mp ex).1
          rw [List.drop_eq_getElem_cons hi, (List.getElem?_eq_some_iff.mp ex).2] at h2
          obtain ⟨o, m, e1, e2, _⟩ := pcol_cons h2
          have nxt : pcol (pturn b pt pe (wipeE env vs)) (its.take (i + 1)) = some (acc ++ o.toList) := by
            obtain ⟨a2, d2, h3, h4, e4⟩ := pcol_app er (i + 1)
            rw [h3]
            rw [h1] at Ii; cases Ii
            rw [e2] at h4; cases h4
            rw [e3] at e4
            have : d = o.toList ++ m := by
              obtain ⟨o', m', e1', e2', e5⟩ := pcol_cons h2
              rw [e1] at e1'; cases e1'; rw [e2] at e2'; cases e2'; exact e5
            rw [this, ← List.append_assoc] at e4
            exact congrArg some (List.append_cancel_right e4).symm
          unfold pturn at e1
          cases eb : b x (wipeE env vs) with
          | none => rw [eb] at e1; cases e1
          | some e2 =>
            rw [eb] at e1
            show dPT pt e2 (fun _ => False) _
            dsimp only at e1
            split at e1
            · rename_i ht
              split at e1
              · rename_i y hy
                cases e1
                exact ⟨true, ht, fun _ => ⟨y, hy, nxt⟩, fun z => by cases z⟩
              · cases e1
            · rename_i ht
              cases e1
              exact ⟨false, ht, fun z => (by cases z), fun _ => by simpa using nxt⟩
            · cases e1
        · have hI : pcol (pturn b pt pe (wipeE env vs)) (its.take its.length) = some acc := hI
          rw [List.take_length, er] at hI; cases hI; exact q
      · cases h
    · cases h
  · cases h
/-- a pure expression that gives a fresh list -/
def dF (p : PF) : DE := fun env _ Q => ∃ l, p env = some (.lst l) ∧ Q (.fr (.ls l))
theorem plc_lst {vs it b pt pe env z} (h : plc vs it b pt pe env = some z) : ∃ l, z = .lst l := by
  unfold plc at h
  split at h
  · split at h
    · split at h
      · cases h; exact ⟨_, rfl⟩
      · cases h
    · cases h
  · cases h
theorem lift_F {K : PySem.W.Frag} {p : PF} {σ : L2.St} {H : Hp} {Q : VK} (hl : ∀ env z, p env = some z → ∃ l, z = .lst l) (h : lift K W (dP p) σ H Q) : lift K W (dF p) σ H Q := by
  obtain ⟨g, env, Ed, Qd, R, ⟨z, e, q⟩, kv, kx⟩ := h
  obtain ⟨l, rfl⟩ := hl _ _ e
  exact ⟨g, env, Ed, fun r => r = .fr (.ls l), R, ⟨l, e, rfl⟩, lift_fr (H := H) (Ed := Ed) kv q, kx⟩
theorem qf_lc {it : DIp} {b : DG} {pt pe : PF} (hc : X.calm = true) (hN : X.N.Nodup) (hi : QI X W tg iter it.di) (ok : BlkOk X.N X.env.scope scope own)
    (hg : ∀ (s : Shared) (H : Hp) (C : Addr) (cl : List (Str × Addr)) (fp : List Addr), QG (X.blk s H scope (compEnvC scope cl C X.env) fp) (own.map Prod.snd) tg b)
    (ht : ∀ (s : Shared) (H : Hp) (C : Addr) (cl : List (Str × Addr)) (fp : List Addr), QPTs (X.blk s H scope (compEnvC scope cl C X.env) fp) ifs pt)
    (he : ∀ (s : Shared) (H : Hp) (C : Addr) (cl : List (Str × Addr)) (fp : List Addr), QP (X.blk s H scope (compEnvC scope cl C X.env) fp) elt pe) (hs : ∀ x, foldedSetIterable iter X.env x = pure x := by intro _; rfl) :
    QE X W (.ListComp elt [⟨tg, iter, ifs, 0⟩] scope pos) (dF (plc (own.map Prod.snd) it.p b pt pe)) :=
  (qe_lc hc hN hi ok hg (fun s H C cl fp => ht s H C cl fp WF) (fun s H C cl fp => he s H C cl fp WF) hs).mono fun _ _ _ h => h.imp fun env Ed Q ⟨l, e, q⟩ => plc_dLc e q
theorem qp_lc {it : DIp} {b : DG} {pt pe : PF} (hc : X.calm = true) (hN : X.N.Nodup) (hi : ∀ W, QI X W tg iter it.di) (ok : BlkOk X.N X.env.scope scope own)
    (hg : ∀ (s : Shared) (H : Hp) (C : Addr) (cl : List (Str × Addr)) (fp : List Addr), QG (X.blk s H scope (compEnvC scope cl C X.env) fp) (own.map Prod.snd) tg b)
    (ht : ∀ (s : Shared) (H : Hp) (C : Addr) (cl : List (Str × Addr)) (fp : List Addr), QPTs (X.blk s H scope (compEnvC scope cl C X.env) fp) ifs pt)
    (he : ∀ (s : Shared) (H : Hp) (C : Addr) (cl : List (Str × Addr)) (fp : List Addr), QP (X.blk s H scope (compEnvC scope cl C X.env) fp) elt pe) (hs : ∀ x, foldedSetIterable iter X.env x = pure x := by intro _; rfl) :
    QP X (.ListComp elt [⟨tg, iter, ifs, 0⟩] scope pos) (plc (own.map Prod.snd) it.p b pt pe) :=
  fun W => (qf_lc hc hN (hi W) ok hg ht he hs).mono fun _ _ _ h => lift_F (fun _ _ => plc_lst) h
end
/-! ### known items -/
def pseq (p : PF) : List Ev → Option (List D) := fun env => match p env with
  | some (.lst l) => some l
  | some (.tup l) => some l
  | _ => none
def ipSeq (p : PF) : DIp := ⟨iSeqD (dP p), pseq p, fun env Ed Ld l h q => by
  unfold pseq at h
  split at h
  · rename_i e; cases h; exact ⟨_, e, q⟩
  · rename_i e; cases h; exact ⟨_, e, q⟩
  · cases h⟩
def prng1 (p : PF) : List Ev → Option (List D) := fun env => match p env with
  | some (.int n) => if -100000 ≤ n ∧ n ≤ 100000 then some (rgD 0 n.toNat) else none
  | _ => none
def ipRng1 (p : PF) : DIp := ⟨iRng1D (dP p), prng1 p, fun env Ed Ld l h q => by
  unfold prng1 at h
  split at h
  · rename_i e
    split at h
    · rename_i b; cases h; exact ⟨_, e, b, q⟩
    · cases h
  · cases h⟩
def pstr (p : PF) : List Ev → Option (List D) := fun env => match p env with
  | some (.str z) => if z.cps.size ≤ 100000 then some (ltrs z) else none
  | _ => none
def ipStr (p : PF) : DIp := ⟨iStrD (dP p), pstr p, fun env Ed Ld l h q => by
  unfold pstr at h
  split at h
  · rename_i e1
    split at h
    · rename_i b; cases h; exact ⟨_, e1, b, q⟩
    · cases h
  · cases h⟩
end LR
set_option Elab.async false
set_option maxRecDepth 100000
set_option linter.all false
set_option maxHeartbeats 4000000
namespace LR
open PySem PySem.Spec PyProof.Rows L2
/-! # the data layer: statements -/
structure Dn where
  nx : List Ev → Prop
  rt : List Ev → Ar → Prop
  bk : List Ev → Prop := fun _ => False
  ct : List Ev → Prop := fun _ => False
  er : Er → List Ev → Prop := fun _ _ => False
abbrev DS := Dn → List Ev → Prop
structure Lk (K : PySem.W.Frag) (W : WX) (g : G) (D : Ends) (Dd : Dn) : Prop where
  nx : ∀ σ' H' g' env', G.Le g g' → Rep K g' σ' H' env' → Dd.nx env' → D.nx σ' H'
  bk : ∀ σ' H' g' env', G.Le g g' → Rep K g' σ' H' env' → Dd.bk env' → D.bk σ' H'
  ct : ∀ σ' H' g' env', G.Le g g' → Rep K g' σ' H' env' → Dd.ct env' → D.ct σ' H'
  rt : ∀ v r σ' H' g' env', G.Le g g' → Rep K g' σ' H' env' → IsR K g' H' v r → Dd.rt env' r → D.rt v H'
  er : ∀ e cls dd σ' H' g' env', G.Le g g' → Rep K g' σ' H' env' → IsEr g'.B cls dd e → Dd.er e env' → W cls dd σ' H'
def liftS (K : PySem.W.Frag) (W : WX) (ds : DS) : TS := fun D σ H => ∃ g env Dd, Rep K g σ H env ∧ ds Dd env ∧ Lk K W g D Dd
def QS (X : Cx) (W : WX) (st : Stmt) (ds : DS) : Prop := PS X st (liftS X.K W ds)
def QSs (X : Cx) (W : WX) (st : List Stmt) (ds : DS) : Prop := PSs X st (liftS X.K W ds)
theorem _root_.L2.PS.mono {X st t t'} (h : PS X st t) (m : ∀ D σ H, t' D σ H → t D σ H) : PS X st t' := ⟨fun pins s σ H D I q => h.run pins s σ H D I (m _ _ _ q)⟩
theorem _root_.L2.PSs.mono {X st t t'} (h : PSs X st t) (m : ∀ D σ H, t' D σ H → t D σ H) : PSs X st t' := ⟨fun pins s σ H D I q => h.run pins s σ H D I (m _ _ _ q)⟩
section
variable {K : PySem.W.Frag} {W : WX} {g g' : G} {D : Ends} {Dd : Dn} {σ : L2.St} {H : Hp} {env : List Ev}
theorem Lk.mono (l : Lk K W g D Dd) (le : G.Le g g') : Lk K W g' D Dd :=
  ⟨fun σ' H' g2 env' l2 => l.nx σ' H' g2 env' (le.trans l2), fun σ' H' g2 env' l2 => l.bk σ' H' g2 env' (le.trans l2), fun σ' H' g2 env' l2 => l.ct σ' H' g2 env' (le.trans l2),
    fun v r σ' H' g2 env' l2 => l.rt v r σ' H' g2 env' (le.trans l2), fun e cls dd σ' H' g2 env' l2 => l.er e cls dd σ' H' g2 env' (le.trans l2)⟩
theorem Lk.kx (l : Lk K W g D Dd) : KX K W g σ env (fun e => Dd.er e env) := fun e cls dd H' g' le R i q => l.er e cls dd σ H' g' env le R i q
theorem liftS.imp {d d' : DS} (m : ∀ Dd env, d' Dd env → d Dd env) (h : liftS K W d' D σ H) : liftS K W d D σ H :=
  let ⟨g, env, Dd, R, h, l⟩ := h; ⟨g, env, Dd, R, m _ _ h, l⟩
end
section
variable {X : Cx} {W : WX} {st : Stmt} {rest sts : List Stmt} {pos : Pos} {e : Expr} {i : Nat}
def dNext : DS := fun Dd env => Dd.nx env
def dSeq (a b : DS) : DS := fun Dd env => a { Dd with nx := b Dd } env
theorem qss_nil : QSs X W [] dNext := pss_nil.mono fun D σ H ⟨g, env, Dd, R, h, l⟩ => l.nx _ _ _ _ .rfl R h
theorem qss_cons {a b} (h : QS X W st a) (t : QSs X W rest b) : QSs X W (st :: rest) (dSeq a b) := (pss_cons h t).mono fun D σ H ⟨g, env, Dd, R, h, l⟩ =>
  ⟨g, env, { Dd with nx := b Dd }, R, h, ⟨fun σ' H' g' env' le R' q => ⟨g', env', Dd, R', q, l.mono le⟩, l.bk, l.ct, l.rt, l.er⟩⟩
theorem qss_one {a} (h : QS X W st a) : QSs X W [st] a := pss_one h
def dBreak : DS := fun Dd env => Dd.bk env
theorem qs_break {pos} : QS X W (.Break pos) dBreak := ps_break.mono fun D σ H ⟨g, env, Dd, R, h, l⟩ => l.bk _ _ _ _ .rfl R h
/-- a list of the def's own is data from here on -/
def dFz (is : List Nat) (s : DS) : DS := fun Dd env => s Dd (is.foldl fz env)
theorem Rep.frzs {K : PySem.W.Frag} {g : G} {σ : L2.St} {H : Hp} {env : List Ev} (R : Rep K g σ H env) (is : List Nat) : ∃ g', G.Le g g' ∧ Rep K g' σ H (is.foldl fz env) := by
  induction is generalizing g env with
  | nil => exact ⟨g, .rfl, R⟩
  | cons i r ih =>
    obtain ⟨g1, l1, R1⟩ := R.frz i
    obtain ⟨g2, l2, R2⟩ := ih R1
    exact ⟨g2, l1.trans l2, R2⟩
theorem qss_fz {a} (is : List Nat) (h : QSs X W sts a) : QSs X W sts (dFz is a) := PSs.mono h fun D σ H ⟨g, env, Dd, R, h, l⟩ => by
  obtain ⟨g', le, R'⟩ := R.frzs is
  exact ⟨g', _, Dd, R', h, l.mono le⟩
def dDrop (d : DE) : DS := fun Dd env => d env (fun e => Dd.er e env) fun _ => Dd.nx env
theorem qs_expr {d} (h : QE X W e d) (hs : swapsWith e none pos.line X.env = pure false := by rfl) : QS X W (.Expr e pos) (dDrop d) := (ps_expr h hs).mono fun D σ H ⟨g, env, Dd, R, h, l⟩ =>
  lift.use R h (fun v r H1 g1 l1 R1 i1 q => l.nx _ _ _ _ l1 R1 q) l.kx
def dRet (d : DE) : DS := fun Dd env => d env (fun e => Dd.er e env) (Dd.rt env)
theorem qs_ret {d} (h : QE X W e d) : QS X W (.Return (some e) pos) (dRet d) := (ps_ret h).mono fun D σ H ⟨g, env, Dd, R, h, l⟩ =>
  lift.use R h (fun v r H1 g1 l1 R1 i1 q => l.rt _ _ _ _ _ _ l1 R1 i1 q) l.kx
/-- what one owns, what may be changed -/
def ownO : Ev → Option Ow
  | .own o _ => some o
  | _ => none
def reown : Ev → Ow → Ev
  | .own _ b, o => .own o b
  | e, _ => e
/-- return x, x of the def's own -/
def dRetO (i : Nat) : DS := fun Dd env => match nth env i with
  | .own l none => Dd.rt (sth env i .any) (.fr l)
  | _ => False
theorem Rep.giveUp {K : PySem.W.Frag} {g : G} {σ : L2.St} {H : Hp} {env : List Ev} {i : Nat} {o : Ow} {b : Option Nat} {v : V} (R : Rep K g σ H env) (a : OwnAt K g H b v o (g.F i)) : Rep K (g.setF i []) σ H (sth env i .any) ∧ OwnAt K (g.setF i []) H b v o (g.F i) ∧ Off (g.setF i []) (g.F i) :=
  ⟨R.drop i, a.setF, fun j p m h => by
    have h : p ∈ LR.setF g.F i [] j := h
    by_cases n : j = i
    · subst n; rw [setF_eq] at h; cases h
    · rw [setF_ne n] at h; exact R.di i j p (Ne.symm n) m h⟩
theorem qs_retO (h : PE X e (tVar i)) : QS X W (.Return (some e) pos) (dRetO i) := (ps_ret h).mono fun D σ H ⟨g, env, Dd, R, h, l⟩ => by
  unfold dRetO at h
  cases en : nth env i with
  | own m b =>
    cases b with
    | none =>
      rw [en] at h
      have s := R.sl i
      rw [en] at s
      obtain ⟨v, es, o⟩ := s
      obtain ⟨R2, o2, ns⟩ := R.giveUp o
      exact ⟨v, es, l.rt _ (.fr m) σ H _ _ G.setF_le R2 ⟨_, o2, ns⟩ h⟩
    | some _ => rw [en] at h; exact h.elim
  | _ => rw [en] at h; exact h.elim
def dIfS (c : DT) (t u : DS) : DS := fun Dd env => c env (fun e => Dd.er e env) fun b => (b = true → t Dd env) ∧ (b = false → u Dd env)
theorem qs_if {c : Expr} {a b : List Stmt} {dc ta tb} (hc : QT X W c dc) (ha : QSs X W a ta) (hb : QSs X W b tb) : QS X W (.If c a b pos) (dIfS dc ta tb) := (ps_if hc ha hb).mono fun D σ H ⟨g, env, Dd, R, h, l⟩ => by
  refine ⟨g, env, _, _, R, h, fun c H1 g1 l1 R1 ⟨q1, q2⟩ => ?_, l.kx⟩
  cases c with
  | true => rw [if_pos rfl]; exact ⟨g1, env, Dd, R1, q1 rfl, l.mono l1⟩
  | false => rw [if_neg (by decide)]; exact ⟨g1, env, Dd, R1, q2 rfl, l.mono l1⟩
def dNever : DS := fun _ _ => False
theorem qs_never : QS X W st dNever := ps_never.mono fun D σ H ⟨g, env, Dd, R, h, l⟩ => h
/-! ## stores -/
def dSet (w : Bool) (i : Nat) (d : DE) : DS := fun Dd env => d env (fun e => Dd.er e env) fun a => Dd.nx (sth env i (toEv w a))
theorem lift_set {K : PySem.W.Frag} {W : WX} {w : Bool} {d : DE} {D : Ends} {σ : L2.St} {H : Hp} (h : liftS K W (dSet w i d) D σ H) : tAsg (lift K W d) (gName i) D σ H := by
  obtain ⟨g, env, Dd, R, h, l⟩ := h
  refine lift.use R h (fun v r H1 g1 l1 R1 i1 q => ?_) l.kx
  obtain ⟨g2, l2, R2⟩ := R1.set (i := i) w i1
  exact l.nx _ _ _ _ (l1.trans l2) R2 q
def dAsg (b : DG) (d : DE) : DS := fun Dd env => d env (fun e => Dd.er e env) (asD fun x => onS (b x env) Dd.nx)
theorem qs_asg {tg : Expr} {vs b d} (he : QE X W e d) (hg : QG X vs tg b) (hs : swapsWithSole [tg] e pos.line X.env = pure false := by rfl) (hw : swappedStores [tg] e X.env = pure none := by rfl) (h1 : (assignEach [tg] X.env).map (·.2) = [assign tg X.env] := by rfl) : QS X W (.Assign [tg] e pos) (dAsg b d) :=
  (ps_asg he hg hs hw h1).mono fun D σ H ⟨g, env, Dd, R, h, l⟩ => by
  refine lift.useD R h (fun v x H1 g1 l1 R1 i1 q => ?_) l.kx
  obtain ⟨e, eb, q⟩ := onS_some q
  exact ⟨g1, env, x, e, R1, i1, eb, fun σ' g' l' R' _ => l.nx _ _ _ _ (l1.trans l') R' q⟩
/-! ## lists of the def's own -/
theorem Rep.ownS {K : PySem.W.Frag} {g : G} {σ : L2.St} {H : Hp} {env : List Ev} (R : Rep K g σ H env) {i : Nat} {l m : Ow} {b : Option Nat} {v : V} {p : Addr} {ys : HO} {fs : List Addr} (en : nth env i = .own l b) (es : σ[i]? = some (some v)) (mp : p ∈ g.F i) (ni : ¬ Imm ys)
    (iy : OwIs K g.B (upd H p ys) v m fs) (nd : fs.Nodup) (sub : ∀ a ∈ fs, a ∈ g.F i ∨ (Priv g none a ∧ ∀ j, a ∉ g.F j)) : Rep K (g.setF i fs) σ (upd H p ys) (sth env i (reown (nth env i) m)) := by
  have s := R.sl i
  rw [en] at s
  obtain ⟨v', es', o⟩ := s
  have pvs : ∀ a ∈ fs, Priv g b a := fun a ma => (sub a ma).elim (o.pv a) fun ⟨q, _⟩ => ⟨q.nb, q.nm, q.n0.elim .inl (fun z => by cases z.1), q.np⟩
  rw [en]
  refine R.moveS (lt_of_own en) _ ((R.ok.own (o.pv p mp) ni (o.ex p mp)).setF) G.setF_le rfl rfl (fun _ _ => rfl) ⟨v, es, iy, nd, fun a ma => (pvs a ma).setF, by rw [es] at es'; cases es'; exact o.pin⟩ (fun z => by cases z) (fun j n a ma h => ?_) fun j n a ma => ⟨fun b' q => q.setF, upd_ne fun e => R.di i j p (Ne.symm n) mp (e ▸ ma)⟩
  rcases sub a ma with q | ⟨_, q⟩
  · exact R.di i j a (Ne.symm n) q h
  · exact q j h
/-- .. a list of data -/
theorem Rep.ownL {K : PySem.W.Frag} {g : G} {σ : L2.St} {H : Hp} {env : List Ev} (R : Rep K g σ H env) {i : Nat} {l : Ow} {m : List D} {b : Option Nat} {p : Addr} {ys : List V} (en : nth env i = .own l b) (es : σ[i]? = some (some (.ref p))) (mp : p ∈ g.F i) (iy : Iss K g.B ys m) (z : ys.length ≤ 100000) :
    Rep K (g.setF i [p]) σ (upd H p (.lst ys)) (sth env i (reown (nth env i) (.ls m))) :=
  R.ownS en es mp (fun h => h) (.l upd_same iy z) (by simp) fun a ma => .inl (by rw [List.mem_singleton.mp ma]; exact mp)
theorem Rep.lsE {K : PySem.W.Frag} {g : G} {σ : L2.St} {H : Hp} {env : List Ev} (R : Rep K g σ H env) {i : Nat} {l : List D} (en : ownO (nth env i) = some (.ls l)) : ∃ b p xs, nth env i = .own (.ls l) b ∧ σ[i]? = some (some (.ref p)) ∧ p ∈ g.F i ∧ H p = some (.lst xs) ∧ Iss K g.B xs l ∧ xs.length ≤ 100000 := by
  have s := R.sl i
  cases e : nth env i with
  | own o b =>
    rw [e] at s en
    obtain ⟨v, es, o'⟩ := s
    cases en
    obtain ⟨p, xs, rfl, ef, hp, i1, z⟩ := o'.is_.lE
    exact ⟨b, p, xs, rfl, es, by rw [ef]; exact List.mem_cons_self, hp, i1, z⟩
  | _ => rw [e] at en; cases en
/-- x.m(e ..), x a list of the def's own: what becomes of it -/
def dOwn (i : Nat) (f : List D → List D → Option (List D)) (da : DA) : DS := fun Dd env => ∃ l, ownO (nth env i) = some (.ls l) ∧ da env (fun e => Dd.er e env) fun as => ∃ ys m, allD as = some ys ∧ f l ys = some m ∧ m.length ≤ 100000 ∧ Dd.nx (sth env i (reown (nth env i) (.ls m)))
/-- .. as the library's rule has it -/
structure OwnM (K : PySem.W.Frag) (r : V → List V → Hp → VK → Prop) (f : List D → List D → Option (List D)) : Prop where
  ok : ∀ {g : G} {H : Hp} {p : Addr} {xs us : List V} {l ys m : List D} {Q : VK}, Same g.B H → H p = some (.lst xs) → Iss K g.B xs l → Iss K g.B us ys → f l ys = some m → m.length ≤ 100000 →
    (∀ v zs, Iss K g.B zs m → Q v (upd H p (.lst zs))) → r (.ref p) us H Q
theorem qs_own {r : V → List V → Hp → VK → Prop} {f : List D → List D → Option (List D)} {da} (hf : OwnM X.K r f) (hp : PS X st (tDrop (tBM X.K "list" r (tVar i) (liftA X.K W da)))) : QS X W st (dOwn i f da) := hp.mono fun D σ H ⟨g, env, Dd, R, ⟨l0, en, h⟩, l⟩ => by
  obtain ⟨b, p, xs, e0, es, mp, hx, _, _⟩ := R.lsE en
  refine ⟨.ref p, es, .inl ⟨rfl, _, SqL.of hx⟩, g, env, _, _, R, h, fun us as H1 g1 l1 R1 i1 ⟨ys, m, e1, e2, z, q⟩ => ?_, l.kx⟩
  obtain ⟨b', p', xs', e0', es', mp', hx', ix', _⟩ := R1.lsE en
  rw [es] at es'; cases es'
  exact hf.ok R1.ok.sb hx' ix' (i1.all e1) e2 z fun v zs iz => l.nx _ _ _ _ (l1.trans G.setF_le) (R1.ownL e0 es mp' iz (by rw [iz.length]; exact z)) q
theorem Rep.trE {K : PySem.W.Frag} {g : G} {σ : L2.St} {H : Hp} {env : List Ev} (R : Rep K g σ H env) {i : Nat} {ts : List Ow} (en : ownO (nth env i) = some (.tr ts)) : ∃ b p vs gs, nth env i = .own (.tr ts) b ∧ σ[i]? = some (some (.ref p)) ∧ g.F i = p :: gs ∧ H p = some (.lst vs) ∧ OwnAt K g H b (.ref p) (.tr ts) (p :: gs) ∧ vs.length = ts.length ∧ vs.length ≤ 100000 := by
  have s := R.sl i
  cases e : nth env i with
  | own o b =>
    rw [e] at s en
    obtain ⟨v, es, o'⟩ := s
    cases en
    obtain ⟨p, vs, gs, rfl, ef, hp, i1, z⟩ := o'.is_.trE
    exact ⟨b, p, vs, gs, rfl, es, ef, hp, by rw [← ef]; exact o', i1.length, z⟩
  | _ => rw [e] at en; cases en
end
section
variable {K : PySem.W.Frag}
def appF : List D → List D → Option (List D)
  | l, [y] => some (l ++ [y])
  | _, _ => none
theorem m_append : OwnM K rAppend appF := ⟨fun {g H p xs us l ys m Q} sb hp ix iu e z k => by
  cases iu with
  | nil => cases e
  | cons i1 t => cases t with
    | nil =>
      cases e
      have hl := ix.length
      rw [List.length_append] at z
      have z : l.length + 1 ≤ 100000 := z
      exact ⟨p, xs, _, rfl, rfl, hp, by rw [sizeLine_eq]; omega, k _ _ (ix.append (.one i1))⟩
    | cons => cases e⟩
end
section
variable {X : Cx} {W : WX} {st : Stmt} {pos : Pos} {e : Expr} {i : Nat}
/-- x[k] = e, x a list of the def's own -/
def dPut (i : Nat) (pk : PF) (d : DE) : DS := fun Dd env => d env (fun e => Dd.er e env) (asD fun y => ∃ l k j, ownO (nth env i) = some (.ls l) ∧ pk env = some (.int k) ∧ ixN l.length k = some j ∧ Dd.nx (sth env i (reown (nth env i) (.ls (l.set j y)))))
theorem qs_put {pk : PF} {d} (hp : PS X st (tAsg (lift X.K W d) (gSub (tVar i) (lift X.K W (dP pk)) rSetL))) : QS X W st (dPut i pk d) := hp.mono fun D σ H ⟨g, env, Dd, R, h, l⟩ => by
  refine lift.useD R h (fun v y H1 g1 l1 R1 i1 ⟨m, k, j, en, ek, ej, q⟩ => ?_) l.kx
  obtain ⟨b, p, xs, e0, es, mp, hx, ix, _⟩ := R1.lsE en
  refine ⟨.ref p, es, lift.useP R1 ek fun u H2 g2 l2 R2 i2 => ?_⟩
  obtain ⟨b', p', xs', e0', es', mp', hx', ix', z'⟩ := R2.lsE en
  rw [es] at es'; cases es'
  refine ⟨p, xs', k, j, rfl, i2.intE, hx', by rw [ix'.length]; exact ej, l.nx _ _ _ _ ((l1.trans l2).trans G.setF_le) (R2.ownL e0' es mp' (ix'.set j (i1.mono l2.b)) (by rw [List.length_set]; exact z')) q⟩
/-- y = x.pop(k) -/
def dPopK (i : Nat) (pk : PF) (j : Nat) : DS := fun Dd env => ∃ l k n y, ownO (nth env i) = some (.ls l) ∧ pk env = some (.int k) ∧ ixN l.length k = some n ∧ l[n]? = some y ∧ Dd.nx (sth (sth env i (reown (nth env i) (.ls (l.eraseIdx n)))) j (.d y))
theorem qs_popK {pk : PF} {j : Nat} (hp : PS X st (tAsg (tBM X.K "list" rPopAt (tVar i) (tCons (lift X.K W (dP pk)) tNil)) (gName j))) : QS X W st (dPopK i pk j) := hp.mono fun D σ H ⟨g, env, Dd, R, ⟨l0, k, n, y, en, ek, ek2, ey, q⟩, l⟩ => by
  obtain ⟨b, p, xs, e0, es, mp, hx, ix, _⟩ := R.lsE en
  refine ⟨.ref p, es, .inl ⟨rfl, _, SqL.of hx⟩, lift.useP R ek fun u H1 g1 l1 R1 i1 => ?_⟩
  obtain ⟨b', p', xs', e0', es', mp', hx', ix', hz⟩ := R1.lsE en
  rw [es] at es'; cases es'
  obtain ⟨v, ev, iv⟩ := ix'.getD ey
  have bk := ixN_seq ek2
  have hl := ix'.length
  have er : Iss X.K g1.B (xs'.eraseIdx n) (l0.eraseIdx n) := by
    rw [List.eraseIdx_eq_take_drop_succ, List.eraseIdx_eq_take_drop_succ]
    exact (ix'.take _).append (ix'.drop _)
  refine ⟨p, xs', k, n, v, rfl, by rw [i1.intE], hx', by omega, by omega, by rw [hl]; exact bk.1, ev, ?_⟩
  have R2 := R1.ownL e0' es mp' er (by rw [er.length]; have := List.length_eraseIdx_le l0 n; omega)
  obtain ⟨g3, l3, _, R3⟩ := R2.setD (i := j) (e := .d y) ⟨v, rfl, iv⟩ rfl
  exact l.nx _ _ _ _ ((l1.trans G.setF_le).trans l3) R3 q
mutual
def imd : D → Bool
  | .non => true
  | .bl _ => true
  | .int _ => true
  | .str _ => true
  | .cls _ => true
  | .ty _ => true
  | .tup l => imds l
  | .ins _ _ l => imds l
  | .lst _ => false
  | .dic _ _ => false
def imds : List D → Bool
  | [] => true
  | x :: r => imd x && imds r
end
mutual
theorem Is.less {K : PySem.W.Frag} {B B' : Hp} (s : ∀ p o, B p = some o → Imm o → B' p = some o) : ∀ {v x}, Is K B v x → imd x = true → Is K B' v x
  | _, _, .non, _ => .non
  | _, _, .bl b, _ => .bl b
  | _, _, .int i, _ => .int i
  | _, _, .str x, _ => .str x
  | _, _, .lst h a z, q => by cases q
  | _, _, .tup h a z, q => .tup (s _ _ h trivial) (a.less s q) z
  | _, _, .ins h k a c n, q => .ins (s _ _ h trivial) k (a.less s q) c n
  | _, _, .cls a, _ => .cls a
  | _, _, .ty n, _ => .ty n
  | _, _, .dic h k a z, q => by cases q
theorem Iss.less {K : PySem.W.Frag} {B B' : Hp} (s : ∀ p o, B p = some o → Imm o → B' p = some o) : ∀ {v x}, Iss K B v x → imds x = true → Iss K B' v x
  | _, _, .nil, _ => .nil
  | _, _, .cons h t, q => by
    have q := (Bool.and_eq_true _ _).mp q
    exact .cons (h.less s q.1) (t.less s q.2)
end
def un : List Ev → List Ev
  | [] => []
  | .own l _ :: r => .d l.d :: un r
  | e :: r => e :: un r
def dLoan (p : PF) : DE := fun env _ Q => ∃ x, p (un env) = some x ∧ imd x = true ∧ Q (.d x)
def dLoanT (p : PF) : DT := fun env _ Q => ∃ b, p (un env) = some (.bl b) ∧ Q b
def unE : Ev → Ev
  | .own l _ => .d l.d
  | e => e
theorem nth_un : ∀ {env : List Ev} {j : Nat}, nth (un env) j = unE (nth env j)
  | [], _ => rfl
  | e :: _, 0 => by cases e <;> rfl
  | e :: r, n + 1 => by
    have := nth_un (env := r) (j := n)
    cases e <;> exact this
theorem un_len : ∀ {env : List Ev}, (un env).length = env.length
  | [] => rfl
  | e :: r => by
    have := un_len (env := r)
    cases e <;> exact congrArg (· + 1) this
open Classical in
/-- all that one owns is data for a while -/
noncomputable def G.lent (g : G) (H : Hp) : G := { g with B := fun a => if ∃ i, a ∈ g.F i then H a else g.B a, F := fun _ => [] }
section
variable {K : PySem.W.Frag} {g g2 : G} {σ : L2.St} {H H' : Hp} {env : List Ev} {a : Addr}
open Classical in
theorem lent_own (c : ∃ i, a ∈ g.F i) : (g.lent H).B a = H a := by
  show (if ∃ i, a ∈ g.F i then H a else g.B a) = _
  rw [if_pos c]
open Classical in
theorem lent_not (c : ¬ ∃ i, a ∈ g.F i) : (g.lent H).B a = g.B a := by
  show (if ∃ i, a ∈ g.F i then H a else g.B a) = _
  rw [if_neg c]
theorem Rep.ownP (R : Rep K g σ H env) (c : ∃ i, a ∈ g.F i) : ∃ b, Priv g b a := by
  obtain ⟨i, m⟩ := c
  obtain ⟨v, o, b, _, _, q⟩ := R.ownC m
  exact ⟨b, q.pv a m⟩
theorem Rep.ownI (R : Rep K g σ H env) (c : ∃ i, a ∈ g.F i) {o} (e : H a = some o) : ¬ Imm o := by
  obtain ⟨i, m⟩ := c
  obtain ⟨v, o, b, _, _, q⟩ := R.ownC m
  exact q.notImm a m _ e
theorem G.lent_le (R : Rep K g σ H env) : G.Le g (g.lent H) := ⟨rfl, rfl, fun _ h => h, fun a o e => by
  by_cases c : ∃ i, a ∈ g.F i
  · obtain ⟨b, q⟩ := R.ownP c
    rw [q.nb] at e; cases e
  · rw [lent_not c]; exact e, rfl, rfl, rfl⟩
theorem Rep.lend (R : Rep K g σ H env) : Rep K (g.lent H) σ H (un env) := by
  have le := G.lent_le R
  refine ⟨⟨fun a o e => ?_, fun a m => ⟨(R.ok.pl a m).1, ?_⟩, fun a o e i => le.b _ _ (R.ok.im a o e i), R.ok.fr, R.ok.nw, fun a o e => ?_, R.ok.m0, fun a o nx e e2 => ?_, R.ok.xp⟩, by rw [un_len]; exact R.ln, fun j => ?_, fun _ _ => rfl, fun i j p _ hi => nomatch hi⟩
  · by_cases c : ∃ i, a ∈ g.F i
    · rw [lent_own c] at e; exact e
    · rw [lent_not c] at e; exact R.ok.sb a o e
  · by_cases c : ∃ i, a ∈ g.F i
    · obtain ⟨b, q⟩ := R.ownP c; exact absurd m q.nm
    · rw [lent_not c]; exact (R.ok.pl a m).2
  · obtain ⟨h1, h2, h3⟩ := R.ok.pv a o e
    refine ⟨h1, ?_, h3⟩
    by_cases c : ∃ i, a ∈ g.F i
    · obtain ⟨b, q⟩ := R.ownP c
      have e : g.P a = some o := e
      rw [q.np] at e; cases e
    · rw [lent_not c]; exact h2
  · by_cases c : ∃ i, a ∈ g.F i
    · obtain ⟨b, q⟩ := R.ownP c
      have e : g.H0 a = some o := e
      rcases q.n0 with q | q
      · rw [q] at e; cases e
      · exact absurd q.2 nx
    · rw [lent_not c]; exact R.ok.bn a o nx e e2
  · have s := R.sl j
    rw [nth_un]
    cases e : nth env j with
    | own l b =>
      rw [e] at s; obtain ⟨v, e1, o⟩ := s
      exact ⟨v, e1, o.is_.is_ le.b fun a m => lent_own ⟨j, m⟩⟩
    | any => trivial
    | d x => rw [e] at s; obtain ⟨v, e1, i1⟩ := s; exact ⟨v, e1, i1.mono le.b⟩
    | pool => rw [e] at s; exact s
    | scr ns => rw [e] at s; exact s
    | err ea dd fs => rw [e] at s; exact ⟨s.1, fun d h => le.b _ _ (s.2 d h)⟩
    | raw v => rw [e] at s; exact s
open Classical in
noncomputable def G.unlent (g g2 : G) : G := { g2 with B := fun a => if ∃ i, a ∈ g.F i then none else g2.B a, F := g.F }
open Classical in
theorem unlent_own (c : ∃ i, a ∈ g.F i) : (g.unlent g2).B a = none := by
  show (if ∃ i, a ∈ g.F i then none else g2.B a) = _
  rw [if_pos c]
open Classical in
theorem unlent_not (c : ¬ ∃ i, a ∈ g.F i) : (g.unlent g2).B a = g2.B a := by
  show (if ∃ i, a ∈ g.F i then none else g2.B a) = _
  rw [if_neg c]
theorem Rep.lentAt (R : Rep K g σ H env) (l2 : G.Le (g.lent H) g2) (c : ∃ i, a ∈ g.F i) : ∃ o, H a = some o ∧ g2.B a = some o := by
  obtain ⟨i, m⟩ := c
  obtain ⟨v, o, b, _, _, q⟩ := R.ownC m
  obtain ⟨u, e⟩ := q.ex a m
  exact ⟨u, e, l2.b _ _ (by rw [lent_own ⟨i, m⟩]; exact e)⟩
theorem Rep.unlend (R : Rep K g σ H env) (l2 : G.Le (g.lent H) g2) (R2 : Rep K g2 σ H' (un env)) : G.Le g (g.unlent g2) ∧ Rep K (g.unlent g2) σ H' env ∧ (∀ a o, g2.B a = some o → Imm o → (g.unlent g2).B a = some o) ∧ (∀ a fs, g2.B a = some (.xd fs) → (g.unlent g2).B a = some (.xd fs)) ∧ ∀ a, (∃ i, a ∈ g.F i) → H' a = H a := by
  have le := (G.lent_le R).trans l2
  have hcell : ∀ a, (∃ i, a ∈ g.F i) → H' a = H a := fun a c => by
    obtain ⟨o, h1, h2⟩ := R.lentAt l2 c
    rw [h1]; exact R2.ok.sb _ _ h2
  have le3 : G.Le g (g.unlent g2) := ⟨le.h0, le.m0, le.m, fun a o e => by
    by_cases c : ∃ i, a ∈ g.F i
    · obtain ⟨b, q⟩ := R.ownP c
      rw [q.nb] at e; cases e
    · rw [unlent_not c]; exact le.b _ _ e, le.p, le.b0, le.x⟩
  have b3 : ∀ {a o}, (g.unlent g2).B a = some o → g2.B a = some o := fun {a o} e => by
    by_cases c : ∃ i, a ∈ g.F i
    · rw [unlent_own c] at e; cases e
    · rw [unlent_not c] at e; exact e
  have n3 : ∀ {a}, g2.B a = none → (g.unlent g2).B a = none := fun {a} e => by
    by_cases c : ∃ i, a ∈ g.F i
    · exact unlent_own c
    · rw [unlent_not c]; exact e
  have keepI : ∀ a o, g2.B a = some o → Imm o → (g.unlent g2).B a = some o := fun a o e i => by
    by_cases c : ∃ i, a ∈ g.F i
    · obtain ⟨u, h1, h2⟩ := R.lentAt l2 c
      rw [e] at h2; cases h2; exact (R.ownI c h1 i).elim
    · rw [unlent_not c]; exact e
  refine ⟨le3, ⟨⟨fun a o e => R2.ok.sb a o (b3 e), fun a m => ⟨(R2.ok.pl a m).1, n3 (R2.ok.pl a m).2⟩, fun a o e i => keepI a o (R2.ok.im a o e i) i, R2.ok.fr, R2.ok.nw, fun a o e => ?_, R2.ok.m0, fun a o nx e e2 => n3 (R2.ok.bn a o nx e e2), R2.ok.xp⟩, R.ln, fun j => ?_, R.nf, R.di⟩, keepI, fun a fs e => ?_, hcell⟩
  · obtain ⟨h1, h2, h3⟩ := R2.ok.pv a o e
    exact ⟨h1, n3 h2, h3⟩
  · have s := R.sl j
    show Sl K (g.unlent g2) H' σ[j]? (g.F j) (nth env j)
    refine s.mono le3 fun b v o a => ⟨a.is_.mono le3.b fun p m => hcell p ⟨j, m⟩, a.nd, fun p m => ⟨unlent_own ⟨j, m⟩, fun mm => ?_, ?_, ?_⟩, fun u e => by rw [le3.x]; exact a.pin u e⟩
    · have := (R2.ok.pl p mm).2
      obtain ⟨u, _, h2⟩ := R.lentAt l2 ⟨j, m⟩
      rw [h2] at this; cases this
    · have := (a.pv p m).n0
      rcases this with q | q
      · exact .inl ((congrFun le3.h0 p).trans q)
      · exact .inr ⟨q.1, by rw [le3.xa]; exact q.2⟩
    · show g2.P p = none
      rw [le.p]; exact (a.pv p m).np
  · by_cases c : ∃ i, a ∈ g.F i
    · obtain ⟨i, m⟩ := c
      obtain ⟨v, o, b, _, _, q⟩ := R.ownC m
      obtain ⟨u, h1, h2⟩ := R.lentAt l2 ⟨i, m⟩
      rw [e] at h2; cases h2
      rcases q.is_.cell a m with ⟨_, h⟩ | ⟨_, h⟩ <;> rw [h1] at h <;> cases h
    · rw [unlent_not c]; exact e
end
theorem qe_loan {p} (h : QP X e p) : QE X W e (dLoan p) := (h W).mono fun σ H Q ⟨g, env, Ed, Qd, R, ⟨x, ex, sx, q⟩, kv, kx⟩ =>
  lift.useP R.lend ex fun v H1 g1 l1 R1 i1 => by
    obtain ⟨l3, R3, im, _⟩ := R.unlend l1 R1
    exact kv v (.d x) H1 _ l3 R3 (i1.less im sx) q
theorem qt_loan {p} (h : QPT X e p) : QT X W e (dLoanT p) := PT.mono (h W) fun σ H Q ⟨g, env, Ed, Qd, R, ⟨b, ex, q⟩, kv, kx⟩ =>
  ⟨g.lent H, un env, fun _ => False, fun c => c = b, R.lend, ⟨b, ex, rfl⟩, fun c H1 g1 l1 R1 ec => by
    subst ec
    obtain ⟨l3, R3, _⟩ := R.unlend l1 R1
    exact kv c H1 _ l3 R3 q, fun _ _ _ _ _ _ _ _ z => z.elim⟩
/-! ## loops -/
theorem Rep.dropE {K : PySem.W.Frag} {g : G} {σ : L2.St} {H : Hp} {env : List Ev} (R : Rep K g σ H env) : ∀ js, ∃ g', G.Le g g' ∧ g'.B = g.B ∧ Rep K g' σ H (wipeE env js)
  | [] => ⟨g, .rfl, rfl, R⟩
  | j :: js =>
    let ⟨_, l, e, R'⟩ := R.dropE js
    ⟨_, l.trans G.setF_le, e, R'.drop j⟩
def dFor (it : DI) (b : DG) (js : List Nat) (body : DS) : DS := fun Dd env => it env (fun e => Dd.er e env) fun l => ∃ I : Nat → List Ev → Prop, I 0 (wipeE env js) ∧
  (∀ i x e, l[i]? = some x → I i e → onS (b x e) fun e2 => body { Dd with nx := fun e' => I (i + 1) (wipeE e' js), ct := fun e' => I (i + 1) (wipeE e' js), bk := Dd.nx } e2) ∧
  ∀ e, I l.length e → Dd.nx e
theorem qs_for {tg iter : Expr} {body : List Stmt} {it vs b db} (js : List Nat) (hp : PassesOwn (model X.prog X.w) X.A X.env X.xe) (hc : X.calm = true) (hi : QI X W tg iter it) (hg : QG X vs tg b) (hb : QSs X W body db)
    (hs : ∀ x, foldedSetIterable iter X.env x = pure x := by intro _; rfl) : QS X W (.For tg iter body [] pos) (dFor it b js db) := (ps_for hp hc hi hg hb hs).mono fun D σ H ⟨g, env, Dd, R, h, l⟩ => by
  refine ⟨g, env, _, _, R, h, fun J l0 H1 g1 l1 R1 rn ⟨I, I0, step, fin⟩ => ?_, l.kx⟩
  obtain ⟨zl, Gd, Y, w, hgd, hy⟩ := rn
  refine for_it w (fun i σ' H' => ∃ g' e, G.Le g1 g' ∧ Rep X.K g' σ' H' e ∧ I i e) (let ⟨g0, l0, _, R0⟩ := R1.dropE js; ⟨g0, _, l0, R0, I0⟩) (fun i σ' H' hi ⟨g', e, l2, R2, _⟩ => hgd g' _ _ H' l2.b R2) ?_ ?_
  · rintro i x σ2 H2 H3 hi ⟨g2, e, l2, R2, Ii⟩ y
    obtain ⟨g3, dx, el, l3, R3, ix⟩ := hy i H2 x H3 hi y g2 σ2 e l2.b R2
    obtain ⟨e2, eb, st⟩ := onS_some (step i dx e el Ii)
    have back : ∀ {σ' H' g' e'}, G.Le g3 g' → Rep X.K g' σ' H' e' → I (i + 1) (wipeE e' js) → ∃ g' e, G.Le g1 g' ∧ Rep X.K g' σ' H' e ∧ I (i + 1) e := fun {σ' H' g' e'} l4 R4 q => let ⟨g5, l5, _, R5⟩ := R4.dropE js; ⟨g5, _, l2.trans (l3.trans (l4.trans l5)), R5, q⟩
    refine ⟨g3, e, dx, e2, R3, ix, eb, fun σ' g4 l4 R4 o => ⟨g4, e2, _, R4, st, ?_⟩⟩
    have l' := l.mono (l1.trans (l2.trans (l3.trans l4)))
    exact ⟨fun σ' H' g' e' l5 R4 q => back (l4.trans l5) R4 q, fun σ' H' g' e' l4 R4 q => l'.nx _ _ _ _ l4 R4 q, fun σ' H' g' e' l5 R4 q => back (l4.trans l5) R4 q, l'.rt, l'.er⟩
  · rintro σ2 H2 ⟨g2, e, l2, R2, Ii⟩
    exact l.nx _ _ _ _ (l1.trans l2) R2 (fin e Ii)
def dWhile (c : DT) (js : List Nat) (body : DS) : DS := fun Dd env => ∃ I : Nat → List Ev → Prop, (∃ m, I m (wipeE env js)) ∧
  ∀ m e, I m e → c e (fun r => Dd.er r e) fun k => (k = true → body { Dd with nx := fun e' => ∃ m', m' < m ∧ I m' (wipeE e' js), ct := fun e' => ∃ m', m' < m ∧ I m' (wipeE e' js), bk := Dd.nx } e) ∧ (k = false → Dd.nx e)
theorem qs_while {c : Expr} {body : List Stmt} {dc db} (js : List Nat) (hp : PassesOwn (model X.prog X.w) X.A X.env X.xe) (hc : QT X W c dc) (hb : QSs X W body db) : QS X W (.While c body [] pos) (dWhile dc js db) := (ps_while hp hc hb).mono fun D σ H ⟨g, env, Dd, R, ⟨I, ⟨m0, I0⟩, step⟩, l⟩ => by
  refine ⟨fun m σ' H' => ∃ g' e, G.Le g g' ∧ Rep X.K g' σ' H' e ∧ I m e, ⟨m0, (let ⟨g0, l0, _, R0⟩ := R.dropE js; ⟨g0, _, l0, R0, I0⟩)⟩, ?_⟩
  rintro m σ1 H1 ⟨g1, e, l1, R1, Im⟩
  refine ⟨g1, e, _, _, R1, step m e Im, fun k H2 g2 l2 R2 ⟨q1, q2⟩ => ?_, fun r cls dd H' g' l2 R2 ir q => l.er _ _ _ _ _ _ _ (l1.trans l2) R2 ir q⟩
  cases k with
  | true =>
    rw [if_pos rfl]
    have back : ∀ {σ' H' g' e'}, G.Le g2 g' → Rep X.K g' σ' H' e' → (∃ m', m' < m ∧ I m' (wipeE e' js)) → ∃ m', m' < m ∧ ∃ g' e, G.Le g g' ∧ Rep X.K g' σ' H' e ∧ I m' e := fun {σ' H' g' e'} l4 R4 ⟨m', hm, q⟩ => let ⟨g5, l5, _, R5⟩ := R4.dropE js; ⟨m', hm, g5, _, l1.trans (l2.trans (l4.trans l5)), R5, q⟩
    have l' := l.mono (l1.trans l2)
    exact ⟨fun σ' H' => ∃ m', m' < m ∧ ∃ g' e, G.Le g g' ∧ Rep X.K g' σ' H' e ∧ I m' e, fun σ' H' h => h, g2, e, _, R2, q1 rfl, ⟨fun σ' H' g' e' l4 R4 q => back l4 R4 q, fun σ' H' g' e' l4 R4 q => l'.nx _ _ _ _ l4 R4 q, fun σ' H' g' e' l4 R4 q => back l4 R4 q, l'.rt, l'.er⟩⟩
  | false =>
    rw [if_neg (by decide)]
    exact l.nx _ _ _ _ (l1.trans l2) R2 (q2 rfl)
end
end LR
set_option Elab.async false
set_option maxRecDepth 100000
set_option linter.all false
set_option maxHeartbeats 4000000
namespace LR
open PySem PySem.Spec PyProof.Rows L2
/-! # the data layer: calls and defs -/
abbrev Fs := List Ar → (Er → Prop) → (Ar → Prop) → Prop
def IsRs (K : PySem.W.Frag) (g : G) (H : Hp) (v : V) : Ar → Prop
  | .d x => Is K g.B v x
  | .pool => ∃ p, v = .ref p ∧ g.M p
  | .fr l => ∃ fs, OwnAt K g H none v l fs
  | .scr _ => False
structure Enter (g : G) (H : Hp) : Prop where
  h0 : g.H0 = H
  m0 : g.M0 = g.M
  b0 : g.B0 = g.B
  p : g.P = fun _ => none
  x : g.X = fun _ => none
  f : g.F = fun _ => []
  ok : WOk g H
def spF (K : PySem.W.Frag) (f : Fs) : Sp := fun vs H Q E => ∃ g as Ed Qd, Enter g H ∧ IsAs K g vs as ∧ f as Ed Qd ∧
  (∀ v r H' g', G.Le g g' → WOk g' H' → IsRs K g' H' v r → Qd r → Q v H') ∧
  (∀ e cls dd H' g', G.Le g g' → WOk g' H' → IsEr g'.B cls dd e → Ed e → E cls dd H')
def enter (g : G) (H : Hp) : G := { H0 := H, M0 := g.M, M := g.M, B := g.B, P := fun _ => none, B0 := g.B, X := fun _ => none, F := fun _ => [] }
section
variable {K : PySem.W.Frag} {g : G} {σ : L2.St} {H H' : Hp} {env : List Ev} {vs : List V} {as : List Ar}
theorem no_xa {g : G} (h : g.X = fun _ => none) {a : Addr} : ¬ g.XA a := fun ⟨i, e⟩ => by rw [h] at e; cases e
theorem WOk.enter (w : WOk g H) : Enter (LR.enter g H) H :=
  ⟨rfl, rfl, rfl, rfl, rfl, rfl, ⟨w.sb, w.pl, w.im, fun _ _ _ _ h => h, fun _ m => .inl m, (fun a o e => nomatch (show (none : Option HO) = some o from e)), fun _ m => m, fun _ _ _ _ e => e, fun _ h => (no_xa rfl h).elim⟩⟩
theorem IsAs.enter (w : WOk g H) : ∀ {vs as}, IsAs K g vs as → IsAs K (LR.enter g H) vs as
  | _, _, .nil => .nil
  | _, _, .d h t => .d h (t.enter w)
  | _, _, .pool h t => .pool h (t.enter w)
  | _, _, .scr h t => .scr (by
      rcases h with h | ⟨o, h1, h2, h3⟩
      · exact .inl h
      · refine .inr ⟨o, w.fr _ _ (fun m => h3 (.inl m)) (fun m => h3 (.inr m)) h1, h2, fun m => ?_⟩
        rcases m with m | m
        · rcases w.nw _ m with q | q
          · exact h3 (.inl q)
          · rw [h1] at q; cases q
        · exact no_xa rfl m) (t.enter w)
/-- behind a call -/
def leave (g g' : G) : G := { g with B := g'.B, M := g'.M }
theorem leave_le {g' : G} (le : G.Le (enter g H) g') : G.Le g (leave g g') := ⟨rfl, rfl, le.m, le.b, rfl, rfl, rfl⟩
theorem Rep.leave (R : Rep K g σ H env) {g' : G} (le : G.Le (LR.enter g H) g') (w : WOk g' H') : Rep K (LR.leave g g') σ H' env := by
  have w0 := R.ok
  have notM : ∀ {a o}, H a = some o → ¬ g.M a → ¬ g'.M a := fun {a o} e n m => by
    rcases w.nw a m with q | q
    · rw [le.m0] at q; exact n q
    · rw [le.h0] at q
      have q : H a = none := q
      rw [e] at q; cases q
  have nx : ∀ {a}, ¬ g'.XA a := fun {a} h => by rw [le.xa] at h; exact no_xa rfl h
  have kp : ∀ {a o}, H a = some o → ¬ g.M a → H' a = some o := fun {a o} e n => w.fr a o (by rw [le.m0]; exact n) nx (by rw [le.h0]; exact e)
  have bn : ∀ {a o}, H a = some o → g.B a = none → g'.B a = none := fun {a o} e n => w.bn a o nx (by rw [le.h0]; exact e) (by rw [le.b0]; exact n)
  have l1 := leave_le le
  refine R.move ⟨w.sb, w.pl, w.im, fun a o n n2 e => ?_, fun a m => ?_, fun a o e => ?_, fun a m => le.m _ (w0.m0 a m), fun a o nx e e2 => ?_, fun a x => ?_⟩ l1 rfl fun i a m => ?_
  · refine kp (w0.fr a o n n2 e) fun m => ?_
    rcases w0.nw a m with q | q
    · exact n q
    · have e : g.H0 a = some o := e
      rw [e] at q; cases q
  · rcases w.nw a m with q | q
    · rw [le.m0] at q; exact w0.nw a q
    · rw [le.h0] at q; exact .inr (w0.entry_none q)
  · obtain ⟨h1, h2, h3⟩ := w0.pv a o e
    exact ⟨kp h1 h3, bn h1 h2, notM h1 h3⟩
  · have q := w0.bn a o nx e e2
    rcases Classical.em (g.M a) with m | m
    · exact (w.pl a (le.m _ m)).2
    · by_cases c : g.M0 a
      · exact absurd (w0.m0 a c) m
      · exact bn (w0.fr a o c nx e) q
  · obtain ⟨⟨o, h1⟩, h2⟩ := w0.xp a x
    refine ⟨?_, h2⟩
    by_cases m : g.M a
    · obtain ⟨⟨_, _, _, _, h⟩, _⟩ := w.pl a (le.m _ m); exact ⟨_, h⟩
    · exact ⟨o, kp h1 m⟩
  · obtain ⟨v, o, b, _, _, q⟩ := R.ownC m
    obtain ⟨u, hu⟩ := q.ex a m
    have p := q.pv a m
    exact ⟨fun b' z => ⟨bn hu p.nb, notM hu p.nm, z.n0, z.np⟩, by rw [hu]; exact kp hu p.nm⟩
theorem IsRs.leave (R : Rep K g σ H env) {g' : G} (le : G.Le (LR.enter g H) g') {v r} (i : IsRs K g' H' v r) : IsR K (LR.leave g g') H' v r := by
  cases r with
  | d x => exact i
  | pool => exact i
  | scr ns => exact i.elim
  | fr l =>
    obtain ⟨fs, o⟩ := i
    have n0 : ∀ p ∈ fs, H p = none := fun p m => by
      rcases (o.pv p m).n0 with q | q
      · rw [le.h0] at q; exact q
      · cases q.1
    refine ⟨fs, ⟨o.is_, o.nd, fun p m => ⟨(o.pv p m).nb, (o.pv p m).nm, .inl (R.ok.entry_none (n0 p m)), ?_⟩, fun _ e => by cases e⟩, fun j p m h => ?_⟩
    · show g.P p = none
      cases e : g.P p with
      | none => rfl
      | some u =>
        have := (R.ok.pv p u e).1
        rw [n0 p m] at this; cases this
    · obtain ⟨v', o', b, _, _, q⟩ := R.ownC h
      obtain ⟨u, hu⟩ := q.ex p h
      rw [n0 p m] at hu; cases hu
end
def dCall (f : Fs) (da : DA) : DE := fun env Ed Q => da env Ed fun as => f as Ed Q
section
variable {X : Cx} {W : WX} {k j : Nat} {C : Addr} {x m : Str} {f : Fs} {p pos apos : Pos} {e o : Expr} {es : List Expr}
theorem spF_run {K : PySem.W.Frag} {g : G} {σ : L2.St} {H : Hp} {env : List Ev} {vs as} {Ed Qd} {Q : VK} (R : Rep K g σ H env) (i : IsAs K g vs as) (h : f as Ed Qd) (kv : KV K g σ env Qd Q) (kx : KX K W g σ env Ed) : spF K f vs H Q (WE W σ) := by
  refine ⟨enter g H, as, Ed, Qd, R.ok.enter, i.enter R.ok, h, fun v r H' g' le w ir q => ?_, fun e cls dd H' g' le w ir q => ?_⟩
  · exact kv v r H' _ (leave_le le) (R.leave le w) (ir.leave R le) q
  · exact kx e cls dd H' _ (leave_le le) (R.leave le w) ir q
theorem lift_call {K : PySem.W.Frag} {da : DA} {σ : L2.St} {H : Hp} {Q : VK} (h : lift K W (dCall f da) σ H Q) : tCallT (spF K f) W (liftA K W da) σ H Q := by
  obtain ⟨g, env, Ed, Qd, R, h, kv, kx⟩ := h
  exact ⟨g, env, Ed, _, R, h, fun vs as H1 g1 l1 R1 i1 q => spF_run R1 i1 q (kv.mono l1) (kx.mono l1), kx⟩
theorem qe_cT {da} (c : CalX X.prog X.w X.K X.mg X.base k x (spF X.K f)) (hr : Room j X.A) (hk : k ≤ j) (tk : Takes X W) (hg : Gl X x) (ha : QA X W (e :: es) da)
    (hdb : (x == ("__debug__" : Str)) = false := by decide) (he : starEach (e :: es) X.env = (false, eval e X.env) :: starEach es X.env := by rfl) (hpl : (backTo pos (starEach es X.env)).any (·.1) = false := by rfl) :
    QE X W (.Call (.Name x p) (e :: es) [] pos) (dCall f da) := (pe_cT c hr hk tk hg ha hdb he hpl).mono fun _ _ _ h => lift_call h
/-- a method of an instance of the class at C -/
def dMeth (C : Addr) (m : Str) (f : Fs) (d : DE) (da : DA) : DE := fun env Ed Q => d env Ed fun a => ∃ ks ds, a = .d (.ins C ks ds) ∧ ks.contains m = false ∧ da env Ed fun as => f (a :: as) Ed Q
theorem lookup_none {β : Type} {m : Str} : ∀ {fs : List (Str × β)}, (fs.map (·.1)).contains m = false → fs.lookup m = none
  | [], _ => rfl
  | (k, v) :: r, h => by
    rw [List.map_cons, List.contains_cons, Bool.or_eq_false_iff] at h
    rw [List.lookup_cons, h.1]
    exact lookup_none h.2
theorem qe_mtT {pl : Sem Bool} {d da} (c : MetX X.prog X.w X.K X.mg X.base k C m (spF X.K f)) (hr : Room j X.A) (hk : k ≤ j) (tk : Takes X W) (ho : QE X W o d) (ha : QA X W (e :: es) da)
    (hst : starEach (e :: es) X.env = (false, eval e X.env) :: starEach es X.env := by rfl) (hpl : (backTo pos (starEach es X.env)).any (·.1) = false := by rfl)
    (ht : eval (.Call (.Attribute o m apos) (e :: es) [] pos) X.env = (do
      let ov ← eval o X.env
      standAt apos.atName
      let (f, first) ← holding [ov] (getMethod ov m pl)
      callWith pos f first (backTo pos (starEach (e :: es) X.env)) (backToKw pos (keywordEach [] X.env))) := by rfl) :
    QE X W (.Call (.Attribute o m apos) (e :: es) [] pos) (dMeth C m f d da) := (pe_mtT (pl := pl) c hr hk tk ho ha hst hpl ht).mono fun σ H Q ⟨g, env, Ed, Qd, R, h, kv, kx⟩ => by
  refine lift.use R h (fun v r H1 g1 l1 R1 i1 ⟨ks, ds, er, em, q⟩ => ?_) kx
  subst er
  have i1 : Is X.K g1.B v (.ins C ks ds) := i1
  cases i1 with
  | ins hp k a cl na =>
    subst k
    refine ⟨_, _, _, rfl, R1.ok.sb _ _ hp, lookup_none em, g1, env, Ed, _, R1, q, fun vs as H2 g2 l2 R2 i2 q2 => ?_, kx.mono l1⟩
    exact spF_run R2 (.d ((Is.ins hp rfl a cl na).mono l2.b) i2) q2 ((kv.mono l1).mono l2) ((kx.mono l1).mono l2)
/-- an instance of the class at C is made -/
theorem qe_mkT {da} (c : MakX X.prog X.w X.K X.mg X.base k x C sp) (hr : Room j X.A) (hk : k + 1 ≤ j) (tk : Takes X W) (hg : Gl X x) (ha : QA X W (e :: es) da)
    (hsp : ∀ {vs H Q E}, spF X.K f vs H Q E → ∀ y dx, H y = none → H dx = none → dx ≠ y → sp (.ref y :: vs) (upd (upd H dx (.own y)) y (.ins C dx [])) (fun v H2 => v = .non ∧ Q (.ref y) H2) E)
    (hdb : (x == ("__debug__" : Str)) = false := by decide) (he : starEach (e :: es) X.env = (false, eval e X.env) :: starEach es X.env := by rfl) (hpl : (backTo pos (starEach es X.env)).any (·.1) = false := by rfl) :
    QE X W (.Call (.Name x p) (e :: es) [] pos) (dCall f da) := (pe_mkT c hr hk tk hg ha hdb he hpl).mono fun σ H Q ⟨g, env, Ed, Qd, R, h, kv, kx⟩ =>
  ⟨g, env, Ed, _, R, h, fun vs as H1 g1 l1 R1 i1 q y dx h1 h2 h3 => hsp (spF_run R1 i1 q (kv.mono l1) (kx.mono l1)) y dx h1 h2 h3, kx⟩
end
/-! ## a def keeps its promise -/
def arE : Ar → Ev
  | .d x => .d x
  | .pool => .pool
  | .scr ns => .scr ns
  | .fr _ => .any
def envOf : List Ar → Nat → List Ev
  | _, 0 => []
  | [], n + 1 => .any :: envOf [] n
  | a :: r, n + 1 => arE a :: envOf r n
def rtF (Qd : Ar → Prop) : Ar → Prop
  | .scr _ => False
  | .d x => Qd (.d x)
  | .pool => Qd .pool
  | .fr l => Qd (.fr l)
def Dn.ofF (Ed : Er → Prop) (Qd : Ar → Prop) : Dn := { nx := fun _ => Qd (.d .non), rt := fun _ => rtF Qd, er := fun e _ => Ed e }
section
variable {P : Program} {w : World} {K : PySem.W.Frag} {mg : Str → Option Value} {base : Heap}
theorem envOf_len : ∀ (as : List Ar) (n : Nat), (envOf as n).length = n
  | _, 0 => by cases ‹List Ar› <;> rfl
  | [], n + 1 => congrArg (· + 1) (envOf_len [] n)
  | _ :: r, n + 1 => congrArg (· + 1) (envOf_len r n)
theorem envOf_nil : ∀ (n i : Nat), nth (envOf [] n) i = .any
  | 0, _ => rfl
  | n + 1, 0 => rfl
  | n + 1, i + 1 => envOf_nil n i
theorem IsAs.slots {g : G} {H : Hp} {fs : List Addr} : ∀ {vs as} (_ : IsAs K g vs as) (n i : Nat), vs.length ≤ n → Sl K g H ((vs.map some ++ List.replicate (n - vs.length) none)[i]?) fs (nth (envOf as n) i)
  | _, _, .nil, n, i, _ => by rw [envOf_nil]; trivial
  | _, _, .d h t, 0, i, hn => absurd hn (Nat.not_succ_le_zero _)
  | _, _, .pool h t, 0, i, hn => absurd hn (Nat.not_succ_le_zero _)
  | _, _, .scr h t, 0, i, hn => absurd hn (Nat.not_succ_le_zero _)
  | _, _, .d h t, n + 1, 0, _ => ⟨_, rfl, h⟩
  | _, _, .pool h t, n + 1, 0, _ => ⟨_, rfl, h⟩
  | _, _, .scr h t, n + 1, 0, _ => ⟨_, rfl, h⟩
  | _, _, .d h t, n + 1, i + 1, hn => by have := t.slots (H := H) (fs := fs) n i (Nat.le_of_succ_le_succ hn); simpa [envOf, nth] using this
  | _, _, .pool h t, n + 1, i + 1, hn => by have := t.slots (H := H) (fs := fs) n i (Nat.le_of_succ_le_succ hn); simpa [envOf, nth] using this
  | _, _, .scr h t, n + 1, i + 1, hn => by have := t.slots (H := H) (fs := fs) n i (Nat.le_of_succ_le_succ hn); simpa [envOf, nth] using this
theorem IsAs.length {g : G} : ∀ {vs as}, IsAs K g vs as → vs.length = as.length
  | _, _, .nil => rfl
  | _, _, .d _ t => congrArg (· + 1) t.length
  | _, _, .pool _ t => congrArg (· + 1) t.length
  | _, _, .scr _ t => congrArg (· + 1) t.length
theorem rep_start {g : G} {H : Hp} {vs as} {N : List Str} (en : Enter g H) (i : IsAs K g vs as) (hn : vs.length ≤ N.length) : Rep K g (L2.start N vs) H (envOf as N.length) := by
  refine ⟨en.ok, ?_, fun j => i.slots N.length j hn, fun j _ => by rw [en.f], fun a b p _ ha => ?_⟩
  · unfold L2.start
    rw [envOf_len, List.length_append, List.length_map, List.length_replicate]; omega
  · rw [en.f] at ha; cases ha
/-- the def's body by its data: every argument list of the promise leads to its end -/
theorem body_dl {X : Cx} {W : WX} {E : XK} {ds : DS} {f : Fs} {N : List Str} {vs : List V} {H : Hp} {Q : VK} (hW : ∀ cls dd σ H, E cls dd H → W cls dd σ H)
    (hd : ∀ as Ed Qd, f as Ed Qd → as.length ≤ N.length ∧ ds (Dn.ofF Ed Qd) (envOf as N.length)) (h : spF X.K f vs H Q E) : liftS X.K W ds { nx := fun _ H' => Q .non H', rt := Q } (L2.start N vs) H := by
  obtain ⟨g, as, Ed, Qd, en, ia, hf, kv, kx⟩ := h
  obtain ⟨hl, hds⟩ := hd as Ed Qd hf
  refine ⟨g, _, Dn.ofF Ed Qd, rep_start en ia (by rw [ia.length]; exact hl), hds, ⟨fun σ' H' g' env' le R q => kv .non (.d .non) H' g' le R.ok .non q, fun _ _ _ _ _ _ z => z.elim, fun _ _ _ _ _ _ z => z.elim, fun v r σ' H' g' env' le R ir q => ?_, fun e cls dd σ' H' g' env' le R ir q => hW _ _ _ _ (kx e cls dd H' g' le R.ok ir q)⟩⟩
  cases r with
  | d x => exact kv v (.d x) H' g' le R.ok ir q
  | pool => exact kv v .pool H' g' le R.ok ir q
  | scr ns => exact (show False from q).elim
  | fr l => obtain ⟨fs, o, _⟩ := ir; exact kv v (.fr l) H' g' le R.ok ⟨fs, o⟩ q
theorem spF_len {f : Fs} {n : Nat} (hl : ∀ as Ed Qd, f as Ed Qd → as.length = n) : ∀ vs H Q E, spF K f vs H Q E → vs.length = n := fun vs H Q E ⟨g, as, Ed, Qd, _, ia, hf, _⟩ => by
  rw [ia.length]; exact hl _ _ _ hf
theorem DefIn.dl {x : Str} {st : Stmt} {N ps : List Str} {k : Nat} {f : Fs} (D : DefIn K mg x st ps) (S : FnScope N ps (defScope st)) (hl : ∀ as Ed Qd, f as Ed Qd → as.length = ps.length) (hN : ps.length ≤ N.length)
    (hbody : ∀ (fa : Addr) (cdv : Value) (A : Around) (outer : List Env) (s : Shared) (H : Hp) (E : XK), Room k (A.deeper (envOfC x (defScope st) s.heap.objs.size fa cdv)) →
      ∃ ds, QSs (cxOf (L2.CX P w) P w K mg base N x (defScope st) fa cdv A outer s H E) (fun cls d _ H => E cls d H) (defBody st) ds ∧ ∀ as Ed Qd, f as Ed Qd → ds (Dn.ofF Ed Qd) (envOf as N.length)) : CalX P w K mg base (k + 1) x (spF K f) := by
  refine D.calX S (spF_len hl) fun fa cdv A outer s H vs Q E hr h => ?_
  obtain ⟨ds, hq, hd⟩ := hbody fa cdv A outer s H E hr
  exact ⟨_, hq, body_dl (X := cxOf (L2.CX P w) P w K mg base N x (defScope st) fa cdv A outer s H E) (fun _ _ _ _ h => h) (fun as Ed Qd hf => ⟨by rw [hl as Ed Qd hf]; exact hN, hd as Ed Qd hf⟩) h⟩
end
end LR
set_option Elab.async false
set_option maxRecDepth 100000
set_option linter.all false
set_option maxHeartbeats 4000000
namespace LR
open PySem PySem.Spec PyProof.Rows L2
/-! # the data layer: raise and try -/
section
variable {X : Cx} {W : WX} {pos : Pos}
/-! ## raise -/
/-- raise C(v), the error's own __init__ keeps the field -/
def dRaise (C : Addr) (fld : Str) (d : DE) : DS := fun Dd env => d env (fun e => Dd.er e env) (asD fun x => ∃ v, x = .int v ∧ v.natAbs < 2 ^ 1900 ∧ Dd.er ⟨C, some [(fld, .int v)]⟩ env)
theorem IsEr.new {K : PySem.W.Frag} {g : G} {σ : L2.St} {H : Hp} {env : List Ev} {C : Addr} {fs : List (Str × V)} {d : Addr} (R : Rep K g σ H env) (hd : H d = none) : Rep K (g.new d (.xd fs)) σ (upd H d (.xd fs)) env ∧ IsEr (g.new d (.xd fs)).B (.ref C) (some d) ⟨C, some fs⟩ :=
  ⟨R.new hd, rfl, d, rfl, by show upd g.B d _ d = _; exact upd_same⟩
theorem qs_raise {C : Addr} {fld : Str} {st : Stmt} {d : DE} (hp : PS X st (fun _ σ H => tMkE C fld (tCons (lift X.K W d) tNil) σ H fun cls dd H' => W cls dd σ H')) : QS X W st (dRaise C fld d) := hp.mono fun D σ H ⟨g, env, Dd, R, h, l⟩ => by
  refine lift.useD R h (fun v x H1 g1 l1 R1 i1 ⟨n, ex, hn, q⟩ => ?_) l.kx
  subst ex
  cases i1
  exact mkE (C := C) (fld := fld) (H := H1) (Q := fun cls dd H' => W cls dd σ H') hn fun d hd => by
    obtain ⟨R2, ir⟩ := IsEr.new (C := C) (fs := [(fld, .int n)]) R1 hd
    exact l.er _ _ _ _ _ _ _ (l1.trans (R1.le_new hd)) R2 ir q
/-! ## try -/
end
/-! ## in a suite: the error's field, isinstance -/
def toD : V → D
  | .int i => .int i
  | .str s => .str s
  | .bl b => .bl b
  | _ => .non
end LR
set_option Elab.async false
set_option maxRecDepth 100000
set_option linter.all false
set_option maxHeartbeats 4000000
namespace LR
open PySem PySem.Spec PyProof.Rows L2
/-! # the data layer: the rules as the texts use them -/
section
variable {X : Cx} {W : WX} {st : Stmt} {pos : Pos} {e : Expr} {i : Nat}
theorem qs_setN {x : Str} {d : DE} {pos' : Pos} (w : Bool) (hN : X.N.Nodup) (hi : X.N[i]? = some x) (hx : Loc X.env.scope x) (he : QE X W e d) (hs : swapsWith e (some (.Name x pos')) pos.line X.env = pure false := by rfl) (hf : X.fn x = true ∨ X.env.scope.names.lookup x = some .local := by first | exact .inl rfl | exact .inr rfl | assumption) :
    QS X W (.Assign [.Name x pos'] e pos) (dSet w i d) := (ps_set hN hi hx he hs hf).mono fun _ _ _ h => lift_set h
theorem lift_setT {K : PySem.W.Frag} {W : WX} {w : Bool} {d : DE} {t : TE} {D : Ends} {σ : L2.St} {H : Hp} (m : ∀ {σ H Q}, lift K W d σ H Q → t σ H Q) (h : liftS K W (dSet w i d) D σ H) : tAsg t (gName i) D σ H := m (lift_set h)
theorem qs_setLc {elt tg iter : Expr} {ifs : List Expr} {scope : Scope} {own : List (Str × Nat)} {spos py : Pos} {y : Str} {it : DI} {b : DG} {dt : DT} {de : DE} (w : Bool) (hc : X.calm = true) (hN : X.N.Nodup) (hy : X.N[i]? = some y) (hyl : X.env.scope.names.lookup y = some .local)
    (hsw : swapsWith (.ListComp elt [⟨tg, iter, ifs, 0⟩] scope pos) (some (.Name y py)) spos.line X.env = pure true) (hi : QI X W tg iter it) (ok : BlkOk X.N X.env.scope scope own)
    (hg : ∀ (s : Shared) (H : Hp) (C : Addr) (cl : List (Str × Addr)) (fp : List Addr), QG (X.blk s H scope (compEnvC scope cl C X.env) fp) (own.map Prod.snd) tg b)
    (ht : ∀ (s : Shared) (H : Hp) (C : Addr) (cl : List (Str × Addr)) (fp : List Addr), QTs (X.blk s H scope (compEnvC scope cl C X.env) fp) WF ifs dt)
    (he : ∀ (s : Shared) (H : Hp) (C : Addr) (cl : List (Str × Addr)) (fp : List Addr), QE (X.blk s H scope (compEnvC scope cl C X.env) fp) WF elt de) (hs : ∀ x, foldedSetIterable iter X.env x = pure x := by intro _; rfl) :
    QS X W (.Assign [.Name y py] (.ListComp elt [⟨tg, iter, ifs, 0⟩] scope pos) spos) (dSet w i (dLc (own.map Prod.snd) it b dt de)) :=
  (ps_setLc (g := liftG X.K (own.map Prod.snd) b) (tt := liftT X.K WF dt) (te := lift X.K WF de) hc hN hy hyl hsw hi ok hg ht he hs).mono fun _ _ _ h => lift_setT lift_lc h
theorem qs_setLcP {elt tg iter : Expr} {ifs : List Expr} {scope : Scope} {own : List (Str × Nat)} {spos py : Pos} {y : Str} {it : DIp} {b : DG} {pt pe : PF} (w : Bool) (hc : X.calm = true) (hN : X.N.Nodup) (hy : X.N[i]? = some y) (hyl : X.env.scope.names.lookup y = some .local)
    (hsw : swapsWith (.ListComp elt [⟨tg, iter, ifs, 0⟩] scope pos) (some (.Name y py)) spos.line X.env = pure true) (hi : QI X W tg iter it.di) (ok : BlkOk X.N X.env.scope scope own)
    (hg : ∀ (s : Shared) (H : Hp) (C : Addr) (cl : List (Str × Addr)) (fp : List Addr), QG (X.blk s H scope (compEnvC scope cl C X.env) fp) (own.map Prod.snd) tg b)
    (ht : ∀ (s : Shared) (H : Hp) (C : Addr) (cl : List (Str × Addr)) (fp : List Addr), QPTs (X.blk s H scope (compEnvC scope cl C X.env) fp) ifs pt)
    (he : ∀ (s : Shared) (H : Hp) (C : Addr) (cl : List (Str × Addr)) (fp : List Addr), QP (X.blk s H scope (compEnvC scope cl C X.env) fp) elt pe) (hs : ∀ x, foldedSetIterable iter X.env x = pure x := by intro _; rfl) :
    QS X W (.Assign [.Name y py] (.ListComp elt [⟨tg, iter, ifs, 0⟩] scope pos) spos) (dSet w i (dF (plc (own.map Prod.snd) it.p b pt pe))) :=
  PS.mono (qs_setLc w hc hN hy hyl hsw hi ok hg (fun s H C cl fp => ht s H C cl fp WF) (fun s H C cl fp => he s H C cl fp WF) hs) fun _ _ _ h => h.imp fun Dd env ⟨l, e, q⟩ => plc_dLc e q
/-- targets of several names -/
theorem qgs_cons' {vs : List Nat} {n : Nat} {t : Expr} {ts : List Expr} {b r} (h : QG X vs t b) (h2 : QGs X vs n ts r) (hst : (assignEach (t :: ts) X.env).map (·.2) = assign t X.env :: (assignEach ts X.env).map (·.2) := by rfl) : QGs X vs (n + 1) (t :: ts) (bsCons b r) :=
  qgs_cons h h2 (pgs_cons h h2.run hst)
theorem qg_tup' {vs : List Nat} {es : List Expr} {k n : Nat} {r} (hc : X.calm = true) (h : QGs X vs n es r) (hn : (assignEach es X.env).length = n := by rfl) (hst : (assignEach es X.env).findIdx? (·.1) = none := by rfl) : QG X vs (.Tuple es k pos) (bTup r) := qg_tup hc h (pg_tup hc h.run hn hst)
theorem qs_raiseE {x fld : Str} {C : Addr} {k : Nat} {e : Expr} {p pos2 : Pos} {d : DE} (hc : X.calm = true) (tk : Takes X W) (D : ErrOk X.prog X.w X.K X.mg X.base x C fld) (hr : Room k X.A) (hk : 2 ≤ k) (he : QE X W e d) (hg : Gl X x) (hdb : (x == ("__debug__" : Str)) = false := by decide)
    (hs : starEach [e] X.env = (false, eval e X.env) :: starEach [] X.env := by rfl) (hpl : (backTo pos2 (starEach [] X.env)).any (·.1) = false := by rfl) : QS X W (.Raise (some (.Call (.Name x p) [e] [] pos2)) none pos) (dRaise C fld d) :=
  qs_raise (ps_raise hc tk (pmk_err D hr hk (pa_cons he pa_nil hs) hg hdb hs hpl))
end
end LR
set_option Elab.async false
set_option maxRecDepth 100000
set_option linter.all false
set_option maxHeartbeats 4000000
namespace LR
open PySem PySem.Spec PyProof.Rows L2
/-! # the data layer: what is often asked of data -/
abbrev nat (n : Nat) : D := .int (n : Int)
abbrev intL (l : List Int) : D := .lst (l.map .int)
abbrev intT (l : List Int) : D := .tup (l.map .int)
abbrev edL (l : List (List Int)) : D := .lst (l.map intT)
abbrev edT (l : List (List Int)) : D := .tup (l.map intT)
/-! ## comprehensions -/
theorem pcol_map {α : Type} {f : D → Option (Option D)} {enc : α → D} {P : α → Bool} {F : α → D} : ∀ {l : List α}, (∀ x ∈ l, f (enc x) = some (if P x = true then some (F x) else none)) → pcol f (l.map enc) = some ((l.filter P).map F)
  | [], _ => rfl
  | x :: l, h => by
    have h1 := h x List.mem_cons_self
    have h2 := pcol_map (l := l) fun y hy => h y (List.mem_cons_of_mem _ hy)
    rw [List.map_cons, pcol, h1, h2]
    by_cases c : P x = true
    · rw [if_pos c, List.filter_cons_of_pos c]; rfl
    · rw [if_neg c, List.filter_cons_of_neg c]
theorem pcol_all {α : Type} {f : D → Option (Option D)} {enc : α → D} {F : α → D} {l : List α} (h : ∀ x ∈ l, f (enc x) = some (some (F x))) : pcol f (l.map enc) = some (l.map F) := by
  have := pcol_map (f := f) (enc := enc) (P := fun _ => true) (F := F) (l := l) fun x hx => by rw [h x hx]; rfl
  rwa [List.filter_eq_self.mpr (fun _ _ => rfl)] at this
theorem pturn_of {b : DG} {pt pe : PF} {env e2 : List Ev} {x y : D} {c : Bool} (h1 : b x env = some e2) (h2 : pt e2 = some (.bl c)) (h3 : c = true → pe e2 = some y) : pturn b pt pe env x = some (if c = true then some y else none) := by
  unfold pturn
  rw [h1]
  dsimp only
  rw [h2]
  cases c with
  | true => dsimp only; rw [h3 rfl]; rfl
  | false => rfl
theorem plc_of {vs : List Nat} {it : List Ev → Option (List D)} {b : DG} {pt pe : PF} {env : List Ev} {l r : List D} (h1 : ownFree env vs = true) (h2 : it env = some l) (h3 : pcol (pturn b pt pe (wipeE env vs)) l = some r) : plc vs it b pt pe env = some (.lst r) := by
  unfold plc
  rw [if_pos h1, h2]
  dsimp only
  rw [h3]
theorem pN1 {f : List D → Option D} {p : PF} {env : List Ev} {x z : D} (h : p env = some x) (h2 : f [x] = some z) : pN f [p] env = some z := by
  unfold pN evs
  rw [h]; exact h2
theorem pN2 {f : List D → Option D} {p q : PF} {env : List Ev} {x y z : D} (h : p env = some x) (h1 : q env = some y) (h2 : f [x, y] = some z) : pN f [p, q] env = some z := by
  unfold pN evs evs
  rw [h, h1]; exact h2
theorem p1_of {f : D → Option D} {p : PF} {env : List Ev} {x z : D} (h : p env = some x) (h2 : f x = some z) : p1 f p env = some z := by
  unfold p1
  rw [h]; exact h2
theorem p2_of {f : D → D → Option D} {p q : PF} {env : List Ev} {x y z : D} (h : p env = some x) (h1 : q env = some y) (h2 : f x y = some z) : p2 f p q env = some z := by
  unfold p2
  rw [h, h1]; exact h2
theorem pand_of {p q : PF} {env : List Ev} {a b : Bool} (h : p env = some (.bl a)) (h2 : a = true → q env = some (.bl b)) (h3 : a = false → b = false) : pand p q env = some (.bl b) := by
  unfold pand andD
  rw [h]
  cases a with
  | true => rw [h2 rfl]; simp
  | false =>
    have h3 := h3 rfl
    subst h3
    dsimp only
    split
    · rw [Bool.false_and]
    · rfl
theorem por_of {p q : PF} {env : List Ev} {a b : Bool} (h : p env = some (.bl a)) (h2 : a = false → q env = some (.bl b)) (h3 : a = true → b = true) : por p q env = some (.bl b) := by
  unfold por orD
  rw [h]
  cases a with
  | false => rw [h2 rfl]; simp
  | true =>
    have h3 := h3 rfl
    subst h3
    dsimp only
    split
    · rw [Bool.true_or]
    · rfl
theorem all_map {α : Type} {l : List α} {g : α → Bool} : allDD [.lst (l.map fun e => .bl (g e))] = some (.bl (l.all g)) := by
  show (bls _).map _ = _
  rw [show (fun e : α => D.bl (g e)) = D.bl ∘ g from rfl, ← List.map_map, bls_map]
  show some (D.bl ((l.map g).all id)) = _
  rw [List.all_map]; rfl
theorem any_map {α : Type} {l : List α} {g : α → Bool} : anyD [.lst (l.map fun e => .bl (g e))] = some (.bl (l.any g)) := by
  show (bls _).map _ = _
  rw [show (fun e : α => D.bl (g e)) = D.bl ∘ g from rfl, ← List.map_map, bls_map]
  show some (D.bl ((l.map g).any id)) = _
  rw [List.any_map]; rfl
/-! ## data that == tells apart as = does -/
theorem deq_int (i j : Int) : deq (.int i) (.int j) = decide (i = j) := by simp [deq, D.py, PyData.eqv]; rw [Bool.eq_iff_iff]; simp
theorem eqD_ok {x y : D} (h1 : okn 30 x = true) (h2 : okn 30 y = true) : eqD x y = some (.bl (deq x y)) := by
  unfold eqD
  split
  · rw [deq_int]
  · rw [if_pos ⟨by simpa [okn] using h1, by simpa [okn] using h2⟩]
    simp [deq, D.py, PyData.eqv]; rw [Bool.eq_iff_iff]; simp
  · simp [deq, D.py, PyData.eqv]; rw [Bool.eq_iff_iff]; simp
  · simp [deq, D.py, PyData.eqv]
  · simp [deq, D.py, PyData.eqv]
  · simp [deq, D.py, PyData.eqv]
  · rw [if_pos ⟨h1, h2⟩]
theorem eqD_nb {x y : D} (n : Nat) (h1 : okn 30 x = true) (h2 : okn 30 y = true) (h3 : nbn n x = true) (h4 : nbn n y = true) {c : Bool} (hc : c = true ↔ x = y) : eqD x y = some (.bl c) := by
  rw [eqD_ok h1 h2]
  have := deq_iff n x y h3 h4
  rw [← hc] at this
  congr 2
  rw [Bool.eq_iff_iff]; exact this
theorem inL_ints (i : Int) (l : List Int) : inL (.int i) (l.map .int) = some (.bl (decide (i ∈ l))) := by
  unfold inL
  rw [if_pos ⟨rfl, by simp [okn]⟩]
  congr 2
  rw [Bool.eq_iff_iff, List.any_eq_true, decide_eq_true_eq]
  constructor
  · rintro ⟨x, hx, e⟩
    obtain ⟨j, hj, rfl⟩ := List.mem_map.mp hx
    rw [deq_int, decide_eq_true_eq] at e
    subst e; exact hj
  · intro h
    exact ⟨.int i, List.mem_map.mpr ⟨i, h, rfl⟩, by rw [deq_int]; simp⟩
theorem inL_nb {α : Type} {enc : α → D} {x : α} {l : List α} (n : Nat) (h1 : okn 30 (enc x) = true) (h2 : ∀ y ∈ l, okn 29 (enc y) = true) (h3 : nbn n (enc x) = true) (h4 : ∀ y ∈ l, nbn n (enc y) = true) (inj : ∀ y ∈ l, enc y = enc x → y = x) [DecidableEq α] : inL (enc x) (l.map enc) = some (.bl (decide (x ∈ l))) := by
  unfold inL
  rw [if_pos ⟨h1, by rw [List.all_map, List.all_eq_true]; exact h2⟩]
  congr 2
  rw [Bool.eq_iff_iff, List.any_eq_true, decide_eq_true_eq]
  constructor
  · rintro ⟨z, hz, e⟩
    obtain ⟨y, hy, rfl⟩ := List.mem_map.mp hz
    have := (deq_iff n _ _ (h4 y hy) h3).mp e
    rw [← inj y hy this]; exact hy
  · intro h
    exact ⟨enc x, List.mem_map.mpr ⟨x, h, rfl⟩, (deq_iff n _ _ h3 h3).mpr rfl⟩
/-! ## indices -/
theorem atI_of {α : Type} {xs : List α} {k : Nat} {x : α} (h : xs[k]? = some x) : atI xs (k : Int) = some x := by
  have hk := (List.getElem?_eq_some_iff.mp h).1
  unfold atI ixN
  rw [if_pos (by omega), if_pos (by omega)]
  show xs[(k : Int).toNat]? = some x
  rw [Int.toNat_natCast]; exact h
theorem ixN_of {n k : Nat} (h : k < n) : ixN n (k : Int) = some k := by
  unfold ixN
  rw [if_pos (by omega), if_pos (by omega)]
  rfl
theorem rgD_nat (n : Nat) : rgD 0 ((n : Int).toNat) = (List.range n).map nat := by
  unfold rgD
  rw [Int.toNat_natCast]
  exact List.map_congr_left fun i _ => by show D.int _ = D.int _; rw [Int.zero_add]
end LR
set_option Elab.async false
set_option maxRecDepth 100000
set_option linter.all false
set_option maxHeartbeats 4000000
namespace LR
open PySem PySem.Spec PyProof.Rows L2
/-! # the data layer: more rules -/
section
variable {X : Cx} {W : WX} {pos : Pos} {e a b : Expr}
def negD : D → Option D
  | .int i => some (.int (-i))
  | _ => none
theorem qp_neg {p : PF} (h : QP X a p) : QP X (.UnaryOp .USub a pos) (p1 negD p) := fun W => (pe_un un_neg (h W)).mono fun σ H Q ⟨g, env, Ed, Qd, R, ⟨z, hz, q⟩, kv, kx⟩ => by
  obtain ⟨x, ex, ez⟩ := p1_some hz
  refine lift.useP R ex fun v H1 g1 l1 R1 i1 => ?_
  cases x with
  | int i => cases ez; exact ⟨i, i1.intE, kv _ (.d (.int (-i))) H1 g1 l1 R1 (.int _) q⟩
  | _ => cases ez
/-! ## fresh lists -/
/-- list(range(n)) -/
def dListRg (w : Bool) (d : DE) : DE := fun env Ed Q => d env Ed (asD fun x => ∃ n : Int, x = .int n ∧ 0 ≤ n ∧ n ≤ 100000 ∧ Q (if w then .fr (.ls (rgD 0 n.toNat)) else .d (.lst (rgD 0 n.toNat))))
theorem qe_listRg {d : DE} {p p2 pos2 : Pos} (w : Bool) (hc : X.calm = true) (hg : Gl X "list") (hm : X.mg "list" = none) (hg2 : Gl X "range") (hm2 : X.mg "range" = none) (ha : QE X W e d)
    (na : starEach [e] X.env = (false, eval e X.env) :: starEach [] X.env := by rfl) (nb : starEach [.Call (.Name "range" p2) [e] [] pos2] X.env = (false, eval (.Call (.Name "range" p2) [e] [] pos2) X.env) :: starEach [] X.env := by rfl) : QE X W (.Call (.Name "list" p) [.Call (.Name "range" p2) [e] [] pos2] [] pos) (dListRg w d) :=
  (pe_listRg hc hg hm (prg_1 hg2 hm2 ha na) nb).mono fun σ H Q ⟨g, env, Ed, Qd, R, h, kv, kx⟩ => by
  refine lift.useD R h (fun v y H1 g1 l1 R1 i1 ⟨n, ey, h0, h1, q⟩ => ?_) kx
  subst ey
  refine ⟨n, i1.intE, RgOk.of_le (by decide) (by omega) (by decide) h0, fun q' hq => ?_⟩
  have eq : rgV 0 n = (List.range n.toNat).map fun i => V.int (0 + (i : Nat)) := by unfold rgV; rw [Int.sub_zero]
  have iss : Iss X.K g1.B (rgV 0 n) (rgD 0 n.toNat) := by
    rw [eq]; unfold rgD
    have : ∀ l : List Nat, Iss X.K g1.B (l.map fun i => V.int (0 + (i : Nat))) (l.map fun i => D.int (0 + (i : Nat))) := fun l => by
      induction l with
      | nil => exact .nil
      | cons x r ih => exact .cons (.int _) ih
    exact this _
  have z : (rgV 0 n).length ≤ 100000 := by rw [rgV_length]; omega
  cases w with
  | true =>
    obtain ⟨R3, r3⟩ := upd_own R1 hq iss z
    exact kv _ _ _ _ l1 R3 r3 q
  | false => exact new_lst R1 iss z (fun v' H' g' l2 R2 i2 => kv _ (.d (.lst _)) _ _ (l1.trans l2) R2 i2 q) q' hq
def plistRg (p : PF) : PF := fun env => match p env with
  | some (.int n) => if 0 ≤ n ∧ n ≤ 100000 then some (.lst (rgD 0 n.toNat)) else none
  | _ => none
theorem qp_listRg {q : PF} {p p2 pos2 : Pos} (hc : X.calm = true) (hg : Gl X "list") (hm : X.mg "list" = none) (hg2 : Gl X "range") (hm2 : X.mg "range" = none) (ha : QP X e q)
    (na : starEach [e] X.env = (false, eval e X.env) :: starEach [] X.env := by rfl) (nb : starEach [.Call (.Name "range" p2) [e] [] pos2] X.env = (false, eval (.Call (.Name "range" p2) [e] [] pos2) X.env) :: starEach [] X.env := by rfl) : QP X (.Call (.Name "list" p) [.Call (.Name "range" p2) [e] [] pos2] [] pos) (plistRg q) :=
  fun W => PE.mono (qe_listRg false hc hg hm hg2 hm2 (ha W) na nb) fun _ _ _ h => h.imp fun env Ed Q ⟨z, hz, q'⟩ => by
    unfold plistRg at hz
    split at hz
    · rename_i n en
      split at hz
      · rename_i hn; cases hz; exact ⟨_, en, n, rfl, hn.1, hn.2, q'⟩
      · cases hz
    · cases hz
/-! ## what one owns lent to what gives none of it -/
theorem kx_unlend {K : PySem.W.Frag} {W : WX} {g : G} {σ : L2.St} {H : Hp} {env : List Ev} {Ed : Er → Prop} (R : Rep K g σ H env) (kx : KX K W g σ env Ed) : KX K W (g.lent H) σ (un env) Ed := fun er cls dd H1 g1 l1 R1 ir q => by
  obtain ⟨l3, R3, _, hx, _⟩ := R.unlend l1 R1
  refine kx er cls dd H1 _ l3 R3 ⟨ir.1, ?_⟩ q
  have h := ir.2
  cases e : er.fs with
  | none => rw [e] at h; exact h
  | some fs => rw [e] at h; obtain ⟨d, e1, e2⟩ := h; exact ⟨d, e1, hx _ _ e2⟩
def dLoanTE (d : DT) : DT := fun env Ed Q => d (un env) Ed Q
theorem qt_loanE {d : DT} (h : QT X W e d) : QT X W e (dLoanTE d) := PT.mono h fun σ H Q ⟨g, env, Ed, Qd, R, h, kv, kx⟩ => by
  refine ⟨g.lent H, un env, Ed, Qd, R.lend, h, fun b H1 g1 l1 R1 q => ?_, kx_unlend R kx⟩
  obtain ⟨l3, R3, _⟩ := R.unlend l1 R1
  exact kv b H1 _ l3 R3 q
end
end LR
set_option Elab.async false
set_option maxRecDepth 100000
set_option linter.all false
set_option maxHeartbeats 4000000
namespace LR
open PySem PySem.Spec PyProof.Rows L2
/-! # the data layer: promises told by heaps, told by data -/
section
variable {P : Program} {w : World} {K : PySem.W.Frag} {mg : Str → Option Value} {base : Heap} {k : Nat} {x m : Str} {C : Addr} {sp : Sp}
theorem fn_x {f : Addr} {fd : FuncData} {ps : List Str} (F : FnOk P w K mg base CX0 k f fd ps sp) : FnOk P w K mg base (L2.CX P w) k f fd ps sp :=
  ⟨F.len, fun A outer s H args us vs Q E hr he hb hv hs => codeAny_mono (F.run A outer s H args us vs Q E hr he hb hv hs) fun r s' h => by
    cases r with
    | ok f => cases f <;> exact h
    | error e => exact (show False from h).elim⟩
theorem Cal.toX (c : Cal P w K mg base k x sp) : CalX P w K mg base k x sp := by
  obtain ⟨f, fd, ps, F, r⟩ := c.ex
  exact ⟨f, fd, ps, fn_x F, r⟩
theorem Met.toX (c : Met P w K mg base k C m sp) : MetX P w K mg base k C m sp := by
  obtain ⟨f, fd, ps, a, b, F, r⟩ := c.ex
  exact ⟨f, fd, ps, a, b, fn_x F, r⟩
theorem Mak.toX (c : Mak P w K mg base k x C sp) : MakX P w K mg base k x C sp := by
  obtain ⟨f, fd, ps, a, F, r⟩ := c.ex
  exact ⟨f, fd, ps, a, fn_x F, r⟩
theorem CalX.imp {sp' : Sp} (c : CalX P w K mg base k x sp) (h : ∀ vs H Q E, sp' vs H Q E → sp vs H Q E) : CalX P w K mg base k x sp' := by
  obtain ⟨f, fd, ps, F, r⟩ := c.ex
  exact ⟨f, fd, ps, F.imp h, r⟩
theorem MetX.imp {sp' : Sp} (c : MetX P w K mg base k C m sp) (h : ∀ vs H Q E, sp' vs H Q E → sp vs H Q E) : MetX P w K mg base k C m sp' := by
  obtain ⟨f, fd, ps, a, b, F, r⟩ := c.ex
  exact ⟨f, fd, ps, a, b, F.imp h, r⟩
end
section
variable {K : PySem.W.Frag} {g : G} {H H' : Hp}
/-- all new objects are data -/
def G.grow (g : G) (H H' : Hp) : G := { g with B := fun a => match H a with
  | none => H' a
  | some _ => g.B a }
theorem grow_new {a} (h : H a = none) : (g.grow H H').B a = H' a := by
  show (match H a with | none => H' a | some _ => g.B a) = _
  rw [h]
theorem grow_old {a o} (h : H a = some o) : (g.grow H H').B a = g.B a := by
  show (match H a with | none => H' a | some _ => g.B a) = _
  rw [h]
theorem grow_le (w : WOk g H) : G.Le g (g.grow H H') := ⟨rfl, rfl, fun _ h => h, fun a o e => by rw [grow_old (w.sb _ _ e)]; exact e, rfl, rfl, rfl⟩
theorem WOk.keep (w : WOk g H) {p : Addr} (m : g.M p) (k : Keep p H H') (hp : IsPool H' p) : WOk (g.grow H H') H' := by
  have np : ∀ a, ¬ g.M a → a ≠ p := fun a n e => n (e ▸ m)
  have hpl : ∃ o, H p = some o := by obtain ⟨⟨_, _, _, _, h⟩, _⟩ := w.pl p m; exact ⟨_, h⟩
  have oldM : ∀ a, g.M a → ∃ o, H a = some o := fun a ma => by obtain ⟨⟨_, _, _, _, h⟩, _⟩ := w.pl a ma; exact ⟨_, h⟩
  have e0 : ∀ a o, g.H0 a = some o → ∃ o', H a = some o' := fun a o e => by
    cases h : H a with
    | some o' => exact ⟨o', rfl⟩
    | none => rw [w.entry_none h] at e; cases e
  have sb' : Same (g.grow H H').B H' := fun a o e => by
    cases h : H a with
    | none => rw [grow_new h] at e; exact e
    | some o' =>
      rw [grow_old h] at e
      have := w.sb _ _ e
      refine k a (fun c => ?_) _ this
      subst c; rw [(w.pl a m).2] at e; cases e
  refine ⟨sb', fun a ma => ?_, fun a o e im => ?_, fun a o n n2 e => ?_, w.nw, fun a o e => ?_, w.m0, fun a o nx e e2 => ?_, fun a x => ?_⟩
  · obtain ⟨o, h⟩ := oldM a ma
    refine ⟨?_, by rw [grow_old h]; exact (w.pl a ma).2⟩
    by_cases c : a = p
    · subst c; exact hp
    · obtain ⟨x1, x2, x3, x4, q⟩ := (w.pl a ma).1
      exact ⟨x1, x2, x3, x4, k a c _ q⟩
  · cases h : H a with
    | none => rw [grow_new h]; exact e
    | some o' =>
      rw [grow_old h]
      by_cases c : a = p
      · subst c; obtain ⟨_, _, _, _, q⟩ := hp; rw [q] at e; cases e; exact im.elim
      · have := k a c _ h
        rw [e] at this; cases this
        exact w.im a o h im
  · have h := w.fr a o n n2 e
    refine k a (fun c => ?_) _ h
    subst c
    rcases w.nw a m with q | q
    · exact n q
    · have e : g.H0 a = some o := e
      rw [e] at q; cases q
  · obtain ⟨h1, h2, h3⟩ := w.pv a o e
    exact ⟨k a (np a h3) _ h1, by rw [grow_old h1]; exact h2, h3⟩
  · obtain ⟨o', h⟩ := e0 a o e
    rw [grow_old h]; exact w.bn a o nx e e2
  · obtain ⟨⟨u, e⟩, q⟩ := w.xp a x
    refine ⟨?_, q⟩
    by_cases c : a = p
    · subst c; obtain ⟨_, _, _, _, q⟩ := hp; exact ⟨_, q⟩
    · exact ⟨u, k a c _ e⟩
theorem WOk.same (w : WOk g H) (s : Same H H') : WOk (g.grow H H') H' := by
  have oldM : ∀ a, g.M a → ∃ o, H a = some o := fun a ma => by obtain ⟨⟨_, _, _, _, h⟩, _⟩ := w.pl a ma; exact ⟨_, h⟩
  have e0 : ∀ a o, g.H0 a = some o → ∃ o', H a = some o' := fun a o e => by
    cases h : H a with
    | some o' => exact ⟨o', rfl⟩
    | none => rw [w.entry_none h] at e; cases e
  refine ⟨fun a o e => ?_, fun a ma => ?_, fun a o e im => ?_, fun a o n n2 e => s _ _ (w.fr a o n n2 e), w.nw, fun a o e => ?_, w.m0, fun a o nx e e2 => ?_, fun a x => ?_⟩
  · cases h : H a with
    | none => rw [grow_new h] at e; exact e
    | some o' => rw [grow_old h] at e; exact s _ _ (w.sb _ _ e)
  · obtain ⟨o, h⟩ := oldM a ma
    exact ⟨(w.pl a ma).1.same s, by rw [grow_old h]; exact (w.pl a ma).2⟩
  · cases h : H a with
    | none => rw [grow_new h]; exact e
    | some o' =>
      rw [grow_old h]
      have := s _ _ h
      rw [e] at this; cases this
      exact w.im a o h im
  · obtain ⟨h1, h2, h3⟩ := w.pv a o e
    exact ⟨s _ _ h1, by rw [grow_old h1]; exact h2, h3⟩
  · obtain ⟨o', h⟩ := e0 a o e
    rw [grow_old h]; exact w.bn a o nx e e2
  · obtain ⟨⟨u, e⟩, q⟩ := w.xp a x
    exact ⟨⟨u, s _ _ e⟩, q⟩
/-- a new pool -/
def G.pool (g : G) (p : Addr) : G := { g with M := fun a => g.M a ∨ a = p }
theorem pool_le {p} : G.Le g (g.pool p) := ⟨rfl, rfl, fun _ h => .inl h, Same.rfl', rfl, rfl, rfl⟩
theorem WOk.pool (w : WOk g H) {p} (h : H p = none) {o} (ho : IsPool (upd H p o) p) : WOk (g.pool p) (upd H p o) := by
  have nb : g.B p = none := by
    cases e : g.B p with
    | none => rfl
    | some u => rw [w.sb _ _ e] at h; cases h
  refine ⟨fun a u e => ?_, fun a m => ?_, fun a u e i => ?_, fun a u n n2 e => ?_, fun a m => ?_, fun a u e => ?_, fun a m => .inl (w.m0 a m), w.bn, fun a x => ?_⟩
  · have := w.sb a u e
    rw [upd_ne (ne_of_none this h)]; exact this
  · rcases m with m | m
    · obtain ⟨⟨x1, x2, x3, x4, q⟩, n⟩ := w.pl a m
      exact ⟨⟨x1, x2, x3, x4, by rw [upd_ne (ne_of_none q h)]; exact q⟩, n⟩
    · subst m; exact ⟨ho, nb⟩
  · by_cases c : a = p
    · subst c; obtain ⟨_, _, _, _, q⟩ := ho; rw [q] at e; cases e; exact i.elim
    · rw [upd_ne c] at e; exact w.im a u e i
  · have := w.fr a u n n2 e
    rw [upd_ne (ne_of_none this h)]; exact this
  · rcases m with m | m
    · exact w.nw a m
    · subst m; exact .inr (w.entry_none h)
  · obtain ⟨h1, h2, h3⟩ := w.pv a u e
    refine ⟨by rw [upd_ne (ne_of_none h1 h)]; exact h1, h2, fun m => ?_⟩
    rcases m with m | m
    · exact h3 m
    · subst m; rw [h] at h1; cases h1
  · obtain ⟨⟨u, e⟩, q⟩ := w.xp a x
    exact ⟨⟨u, by rw [upd_ne (ne_of_none e h)]; exact e⟩, q⟩
theorem ScrAt.at_ {a : Addr} {xs : List V} (en : Enter g H) (h : ScrAt K g.H0 (fun a => g.M0 a ∨ g.XA a) a xs) : SqL K H a xs := by
  rcases h with h | ⟨o, h1, h2, _⟩
  · exact h H
  · rw [en.h0] at h1; exact h2 H h1
/-- rows of ints as they lie -/
theorem iss_rows {B : Hp} : ∀ {es : List (List Int)} {xs}, Iss K B xs (es.map intT) → ∃ ts, xs = ts.map V.ref ∧ RowsH B ts es
  | [], _, h => by cases h; exact ⟨[], rfl, rfl, fun k t e a => by simp at a⟩
  | e :: es, _, h => by
    cases h with
    | cons a t =>
      obtain ⟨ts, rfl, r⟩ := iss_rows t
      obtain ⟨p, ys, rfl, hp, ip, _⟩ := Is.tupE a
      rw [iss_insE ip] at hp
      refine ⟨p :: ts, rfl, by rw [List.length_cons, List.length_cons, r.1], fun k t' e' h1 h2 => ?_⟩
      cases k with
      | zero => simp at h1 h2; subst h1; subst h2; exact hp
      | succ k => exact r.2 k t' e' (by simpa using h1) (by simpa using h2)
theorem rows_iss {B : Hp} : ∀ {es : List (List Int)} {ts}, RowsH B ts es → (∀ e ∈ es, e.length ≤ 1000) → Iss K B (ts.map V.ref) (es.map intT)
  | [], ts, h, _ => by
    have := h.1
    cases ts with
    | nil => exact .nil
    | cons => simp at this
  | e :: es, ts, h, z => by
    have hl := h.1
    cases ts with
    | nil => simp at hl
    | cons t ts =>
      refine .cons (.tup (xs := e.map V.int) (h.2 0 t e rfl rfl) (iss_ints e) ?_) (rows_iss ⟨by simpa using hl, fun k t' e' h1 h2 => h.2 (k + 1) t' e' (by simpa using h1) (by simpa using h2)⟩ fun e' he' => z e' (List.mem_cons_of_mem _ he'))
      rw [List.length_map]
      have := z e List.mem_cons_self
      omega
theorem IsAs.d1 {vs x as} (h : IsAs K g vs (.d x :: as)) : ∃ v r, vs = v :: r ∧ Is K g.B v x ∧ IsAs K g r as := by
  cases h with | d a t => exact ⟨_, _, rfl, a, t⟩
theorem IsAs.p1 {vs as} (h : IsAs K g vs (.pool :: as)) : ∃ p r, vs = .ref p :: r ∧ g.M p ∧ IsAs K g r as := by
  cases h with | pool a t => exact ⟨_, _, rfl, a, t⟩
theorem IsAs.s1 {vs ns as} (h : IsAs K g vs (.scr ns :: as)) : ∃ a r, vs = .ref a :: r ∧ ScrAt K g.H0 (fun a => g.M0 a ∨ g.XA a) a (ns.map V.int) ∧ IsAs K g r as := by
  cases h with | scr a t => exact ⟨_, _, rfl, a, t⟩
theorem IsAs.n0 {vs} (h : IsAs K g vs []) : vs = [] := by cases h; rfl
end
/-- a web, a game, as data -/
def webD (C : Addr) (h n : Int) (ss : List (List Int)) : D := .ins C ["height", "size", "edges"] [.int h, .int n, edT ss]
def gameD (C : Addr) (h : Int) (os : List Bool) (ss : List (List Int)) : D := .ins C ["height", "size", "edges", "owners"] [.int h, nat os.length, edT ss, .str (strO os)]
section
variable {K : PySem.W.Frag} {g : G} {H H' : Hp}
theorem ed3 {h n : Int} {es : List (List Int)} (ok : ∀ e ∈ es, EdgeOk h n e) : ∀ e ∈ es, e.length ≤ 1000 := fun e he => by
  obtain ⟨s, r, t, rfl, _⟩ := ok e he
  show 3 ≤ 1000; decide
/-- a web that lies in the heap is data, where what does not change is data -/
theorem webD_of {C x h n ss} (w : WOk g H) (cl : Cls K C) (na : ∀ f ∈ (["height", "size", "edges"] : List Str), NoAttr K C f) (W : WebAt C H x h n ss) (z : ss.length ≤ 1000) (ok : ∀ e ∈ ss, e.length ≤ 1000) : Is K g.B (.ref x) (webD C h n ss) := by
  obtain ⟨dx, te, us, h1, h2, h3⟩ := W
  have b1 := w.im _ _ h1 trivial
  have b2 := w.im _ _ h2 trivial
  have b3 : RowsH g.B us ss := ⟨h3.1, fun k t e a b => w.im _ _ (h3.2 k t e a b) trivial⟩
  refine .ins b1 rfl (.cons (.int h) (.cons (.int n) (.cons (.tup b2 (rows_iss b3 ok) ?_) .nil))) cl na
  rw [List.length_map, h3.1]; omega
theorem gameD_of {C x h os ss} (w : WOk g H) (cl : Cls K C) (na : ∀ f ∈ (["height", "size", "edges", "owners"] : List Str), NoAttr K C f) (W : GameAt C H x h os ss) (z : ss.length ≤ 1000) (ok : ∀ e ∈ ss, e.length ≤ 1000) : Is K g.B (.ref x) (gameD C h os ss) := by
  obtain ⟨dx, te, us, h1, h2, h3⟩ := W
  have b1 := w.im _ _ h1 trivial
  have b2 := w.im _ _ h2 trivial
  have b3 : RowsH g.B us ss := ⟨h3.1, fun k t e a b => w.im _ _ (h3.2 k t e a b) trivial⟩
  refine .ins b1 rfl (.cons (.int h) (.cons (.int _) (.cons (.tup b2 (rows_iss b3 ok) ?_) (.cons (.str _) .nil)))) cl na
  rw [List.length_map, h3.1]; omega
theorem gameD_at {C x h os ss} {B : Hp} (i : Is K B (.ref x) (gameD C h os ss)) : GameAt C B x h os ss := by
  cases i with
  | ins hp k a cl na =>
    rename_i dx fs
    obtain ⟨⟨k1, v1⟩, ⟨k2, v2⟩, ⟨k3, v3⟩, ⟨k4, v4⟩, rfl⟩ : ∃ p1 p2 p3 p4, fs = [p1, p2, p3, p4] := by
      have := a.length
      simp at this
      match fs, this with
      | [a, b, c, d], _ => exact ⟨a, b, c, d, rfl⟩
    simp only [List.map_cons, List.map_nil, List.cons.injEq, and_true] at k
    obtain ⟨rfl, rfl, rfl, rfl⟩ := k
    cases a with
    | cons a1 t => cases t with
      | cons a2 t => cases t with
        | cons a3 t => cases t with
          | cons a4 t =>
            cases a1; cases a2; cases a4
            obtain ⟨p, xs, e, hq, iq, _⟩ := Is.tupE a3
            have e : v3 = .ref p := e
            subst e
            obtain ⟨ts, rfl, r⟩ := iss_rows iq
            exact ⟨dx, p, ts, hp, hq, r⟩
/-- edges passed as a list or as a tuple -/
def edX (tp : Bool) (es : List (List Int)) : D := if tp then edT es else edL es
theorem edX_at {B : Hp} {v : V} {tp es} (i : Is K B v (edX tp es)) : ∃ a ts, v = .ref a ∧ (B a = some (.lst (ts.map V.ref)) ∨ B a = some (.tup (ts.map V.ref))) ∧ RowsH B ts es := by
  cases tp with
  | true =>
    obtain ⟨p, xs, rfl, hp, ip, _⟩ := Is.tupE i
    obtain ⟨ts, rfl, r⟩ := iss_rows ip
    exact ⟨p, ts, rfl, .inr hp, r⟩
  | false =>
    obtain ⟨p, xs, rfl, hp, ip, _⟩ := Is.lstE i
    obtain ⟨ts, rfl, r⟩ := iss_rows ip
    exact ⟨p, ts, rfl, .inl hp, r⟩
end
theorem made_same {H H' : Hp} {y dx C : Addr} (hy : H y = none) (hd : H dx = none) (k : Keep y (upd (upd H dx (.own y)) y (.ins C dx [])) H') : Same H H' := fun b o e => by
  refine k b (ne_of_none e hy) o ?_
  rw [upd_ne (ne_of_none e hy), upd_ne (ne_of_none e hd)]; exact e
end LR
set_option Elab.async false
set_option maxRecDepth 100000
set_option linter.all false
set_option maxHeartbeats 4000000
namespace LR
open PySem PySem.Spec PyProof.Rows L2
/-! # the data layer: dicts with ints for keys -/
def dkGet : List Int → List D → Int → Option D
  | k0 :: ks, d :: ds, k => if k0 = k then some d else dkGet ks ds k
  | _, _, _ => none
def dkPut (ks : List Int) (ds : List D) (k : Int) (v : D) : List Int × List D :=
  if k ∈ ks then (ks, List.zipWith (fun k0 d => if k0 = k then v else d) ks ds) else (ks ++ [k], ds ++ [v])
section
variable {K : PySem.W.Frag} {B : Hp}
theorem dk_inv {kvs : List (Key × V)} {ks : List Int} {ds : List D} (hk : kvs.map (·.1) = ks.map Sum.inl) (hi : Iss K B (kvs.map (·.2)) ds) : (kvs = [] ∧ ks = [] ∧ ds = []) ∨
    ∃ k v d r ks' ds', kvs = (.inl k, v) :: r ∧ ks = k :: ks' ∧ ds = d :: ds' ∧ Is K B v d ∧ r.map (·.1) = ks'.map Sum.inl ∧ Iss K B (r.map (·.2)) ds' := by
  cases kvs with
  | nil =>
    cases ks with
    | nil => cases hi; exact .inl ⟨rfl, rfl, rfl⟩
    | cons => simp at hk
  | cons p r =>
    obtain ⟨k0, v⟩ := p
    cases ks with
    | nil => simp at hk
    | cons k ks =>
      simp only [List.map_cons, List.cons.injEq] at hk
      obtain ⟨rfl, hk⟩ := hk
      cases hi with
      | cons a t => exact .inr ⟨k, v, _, r, ks, _, rfl, rfl, rfl, a, hk, t⟩
theorem valV_cons {k0 : Key} {v : V} {r : List (Key × V)} {k : Key} : valV ((k0, v) :: r) k = if k0 = k then some v else valV r k := by
  unfold valV
  rw [List.find?_cons]
  by_cases c : k0 = k
  · rw [if_pos c]; simp [c]
  · rw [if_neg c]; simp [c]
theorem dk_get : ∀ {kvs : List (Key × V)} {ks : List Int} {ds : List D}, kvs.map (·.1) = ks.map Sum.inl → Iss K B (kvs.map (·.2)) ds → ∀ k : Int,
    (∀ d, dkGet ks ds k = some d → ∃ v, valV kvs (.inl k) = some v ∧ Is K B v d) ∧ (dkGet ks ds k = none → valV kvs (.inl k) = none) ∧ ((dkGet ks ds k).isSome = decide (k ∈ ks)) := by
  intro kvs
  induction kvs with
  | nil =>
    intro ks ds hk hi k
    rcases dk_inv hk hi with ⟨_, rfl, rfl⟩ | ⟨k0, v, d, r, ks', ds', e, _⟩
    · exact ⟨(fun d h => by cases h), (fun _ => rfl), by simp [dkGet]⟩
    · cases e
  | cons p r ih =>
    intro ks ds hk hi k
    rcases dk_inv hk hi with ⟨e, _⟩ | ⟨k0, v, d, r', ks', ds', e, rfl, rfl, a, hk', hi'⟩
    · cases e
    · cases e
      obtain ⟨i1, i2, i3⟩ := ih hk' hi' k
      rw [valV_cons]
      unfold dkGet
      by_cases c : k0 = k
      · subst c
        rw [if_pos rfl, if_pos rfl]
        exact ⟨(fun d' h => by cases h; exact ⟨v, rfl, a⟩), (fun h => by cases h), by simp⟩
      · have c2 : ¬ (Sum.inl k0 : Key) = Sum.inl k := fun q => c (Sum.inl.inj q)
        rw [if_neg c, if_neg c2]
        refine ⟨i1, i2, ?_⟩
        rw [i3]
        have : (k ∈ k0 :: ks') ↔ k ∈ ks' := by
          rw [List.mem_cons]
          exact ⟨fun h => h.resolve_left fun e => c e.symm, .inr⟩
        exact decide_eq_decide.mpr this.symm
theorem dk_put {kvs : List (Key × V)} {ks : List Int} {ds : List D} (hk : kvs.map (·.1) = ks.map Sum.inl) (hi : Iss K B (kvs.map (·.2)) ds) {k : Int} {v : V} {d : D} (a : Is K B v d) :
    (putK kvs (.inl k) v).map (·.1) = (dkPut ks ds k d).1.map Sum.inl ∧ Iss K B ((putK kvs (.inl k) v).map (·.2)) (dkPut ks ds k d).2 := by
  have mem : (kvs.any fun kv => decide (kv.1 = .inl k)) = decide (k ∈ ks) := by
    rw [Bool.eq_iff_iff, List.any_eq_true, decide_eq_true_eq]
    have e : (∃ x ∈ kvs, decide (x.1 = Sum.inl k) = true) ↔ (Sum.inl k : Key) ∈ kvs.map (·.1) := by
      rw [List.mem_map]
      exact ⟨fun ⟨x, h1, h2⟩ => ⟨x, h1, of_decide_eq_true h2⟩, fun ⟨x, h1, h2⟩ => ⟨x, h1, decide_eq_true h2⟩⟩
    rw [e, hk, List.mem_map]
    exact ⟨fun ⟨x, h1, h2⟩ => by cases h2; exact h1, fun h => ⟨k, h, rfl⟩⟩
  unfold putK dkPut
  by_cases c : k ∈ ks
  · rw [mem, if_pos (decide_eq_true c), if_pos c]
    refine ⟨?_, ?_⟩
    · rw [List.map_map, ← hk]
      exact List.map_congr_left fun x _ => by show (if x.1 = Sum.inl k then (x.1, v) else x).1 = x.1; split <;> rfl
    · clear mem c
      induction kvs generalizing ks ds with
      | nil =>
        rcases dk_inv hk hi with ⟨_, rfl, rfl⟩ | ⟨k0, v, d, r, ks', ds', e, _⟩
        · exact .nil
        · cases e
      | cons p r ih =>
        rcases dk_inv hk hi with ⟨e, _⟩ | ⟨k0, v0, d0, r', ks', ds', e, rfl, rfl, a0, hk', hi'⟩
        · cases e
        · cases e
          rw [List.map_cons, List.map_cons, List.zipWith_cons_cons]
          refine .cons ?_ (ih hk' hi')
          by_cases c : k0 = k
          · subst c; rw [if_pos rfl, if_pos rfl]; exact a
          · have c2 : ¬ (Sum.inl k0 : Key) = Sum.inl k := fun q => c (Sum.inl.inj q)
            rw [if_neg c, if_neg c2]; exact a0
  · rw [mem, if_neg (by simp [c]), if_neg c]
    refine ⟨by rw [List.map_append, List.map_append, hk]; rfl, ?_⟩
    rw [List.map_append]
    exact hi.append (.one a)
theorem dkPut_len {ks : List Int} {ds : List D} {k v} (h : ks.length = ds.length) : (dkPut ks ds k v).1.length = (dkPut ks ds k v).2.length ∧ (dkPut ks ds k v).1.length ≤ ks.length + 1 := by
  unfold dkPut
  split
  · exact ⟨by show ks.length = _; rw [List.length_zipWith]; omega, by show ks.length ≤ _; omega⟩
  · exact ⟨by show (ks ++ [k]).length = (ds ++ [v]).length; rw [List.length_append, List.length_append, h]; rfl, by show (ks ++ [k]).length ≤ _; rw [List.length_append]; exact Nat.le_refl _⟩
end
def dgetD : D → D → Option D
  | .dic ks ds, .int k => dkGet ks ds k
  | _, _ => none
def dget1D : D → D → Option D
  | .dic ks ds, .int k => some ((dkGet ks ds k).getD .non)
  | _, _ => none
def dinD : D → D → Option D
  | .int k, .dic ks _ => some (.bl (decide (k ∈ ks)))
  | _, _ => none
def dninD (x y : D) : Option D := notO (dinD x y)
theorem Is.dicE {K : PySem.W.Frag} {B v ks ds} (h : Is K B v (.dic ks ds)) : ∃ p kvs, v = .ref p ∧ B p = some (.dK kvs) ∧ kvs.map (·.1) = ks.map Sum.inl ∧ Iss K B (kvs.map (·.2)) ds ∧ kvs.length ≤ 100000 := by
  cases h with | dic h k a z => exact ⟨_, _, rfl, h, k, a, z⟩
section
variable {X : Cx} {W : WX} {pos : Pos} {e a b : Expr}
theorem qp_dget {pd pk : PF} (hu : X.A.units + 1 < cLine) (hd : QP X a pd) (hk : QP X b pk) (hs : NoSl b) : QP X (.Subscript a b pos) (p2 dgetD pd pk) := fun W => (pe_dget hu (hd W) (hk W) hs).mono fun σ H Q ⟨g, env, Ed, Qd, R, ⟨z, hz, q⟩, kv, kx⟩ => by
  obtain ⟨x, y, ex, ey, ez⟩ := p2_some hz
  refine lift.useP R ex fun v H1 g1 l1 R1 i1 => lift.useP R1 ey fun u H2 g2 l2 R2 i2 => ?_
  unfold dgetD at ez
  split at ez
  · obtain ⟨p, kvs, rfl, hp, hk, hi, _⟩ := (i1.mono l2.b).dicE
    obtain ⟨w, ew, iw⟩ := (dk_get hk hi _).1 _ ez
    refine ⟨p, w, rfl, ?_, kv _ (.d z) H2 g2 (l1.trans l2) R2 iw q⟩
    rw [i2.intE, ← ew]
    exact DGet.k (k := .inl _) (R2.ok.sb _ _ hp)
  · cases ez
theorem dinD_bl {x y z} (h : dinD x y = some z) : ∃ k ks ds, x = .int k ∧ y = .dic ks ds ∧ z = .bl (decide (k ∈ ks)) := by
  unfold dinD at h
  split at h
  · cases h; exact ⟨_, _, _, rfl, rfl, rfl⟩
  · cases h
theorem pc_dinP {pk pd : PF} {σ : L2.St} {H : Hp} {Q : VK} (h : lift X.K W (dP (p2 dinD pk pd)) σ H Q) : tDIn (lift X.K W (dP pk)) (lift X.K W (dP pd)) σ H Q := by
  obtain ⟨g, env, Ed, Qd, R, ⟨z, hz, q⟩, kv, kx⟩ := h
  obtain ⟨x, y, ex, ey, ez⟩ := p2_some hz
  obtain ⟨k, ks, ds, rfl, rfl, rfl⟩ := dinD_bl ez
  refine lift.useP R ex fun v H1 g1 l1 R1 i1 => lift.useP R1 ey fun u H2 g2 l2 R2 i2 => ?_
  obtain ⟨p, kvs, rfl, hp, hk, hi, _⟩ := i2.dicE
  refine ⟨p, valV kvs (.inl k), rfl, by rw [i1.intE]; exact DGet.k (k := .inl _) (R2.ok.sb _ _ hp), ?_⟩
  obtain ⟨h1, h2, h3⟩ := dk_get hk hi k
  have : (valV kvs (.inl k)).isSome = decide (k ∈ ks) := by
    rw [← h3]
    cases c : dkGet ks ds k with
    | none => rw [h2 c]; rfl
    | some d => obtain ⟨w, ew, _⟩ := h1 d c; rw [ew]; rfl
  rw [this]
  exact kv _ (.d (.bl _)) H2 g2 (l1.trans l2) R2 (.bl _) q
theorem pc_dninP {pk pd : PF} {σ : L2.St} {H : Hp} {Q : VK} (h : lift X.K W (dP (p2 dninD pk pd)) σ H Q) : tDNotIn (lift X.K W (dP pk)) (lift X.K W (dP pd)) σ H Q := by
  obtain ⟨g, env, Ed, Qd, R, ⟨z, hz, q⟩, kv, kx⟩ := h
  obtain ⟨x, y, ex, ey, ez⟩ := p2_some hz
  obtain ⟨b', e', rfl⟩ := notO_some ez
  obtain ⟨k, ks, ds, rfl, rfl, e2⟩ := dinD_bl e'
  cases e2
  refine lift.useP R ex fun v H1 g1 l1 R1 i1 => lift.useP R1 ey fun u H2 g2 l2 R2 i2 => ?_
  obtain ⟨p, kvs, rfl, hp, hk, hi, _⟩ := i2.dicE
  refine ⟨p, valV kvs (.inl k), rfl, by rw [i1.intE]; exact DGet.k (k := .inl _) (R2.ok.sb _ _ hp), ?_⟩
  obtain ⟨h1, h2, h3⟩ := dk_get hk hi k
  have : (valV kvs (.inl k)).isSome = decide (k ∈ ks) := by
    rw [← h3]
    cases c : dkGet ks ds k with
    | none => rw [h2 c]; rfl
    | some d => obtain ⟨w, ew, _⟩ := h1 d c; rw [ew]; rfl
  rw [this]
  exact kv _ (.d (.bl _)) H2 g2 (l1.trans l2) R2 (.bl _) q
theorem qpt_din {pk pd : PF} (hm : behindInMarks .In b = false) (hu : X.A.units + 1 < cLine) (hk : QP X a pk) (hd : QP X b pd) : QPT X (.Compare a [.In] [b] pos) (p2 dinD pk pd) := fun W => (pt_cmp (pc_din hu (hk W) (hd W)) hm).mono fun _ _ _ h => pc_dinP (lift_dB (h.imp fun _ _ _ => dPT_dP))
theorem qpt_dnin {pk pd : PF} (hm : behindInMarks .NotIn b = false) (hu : X.A.units + 1 < cLine) (hk : QP X a pk) (hd : QP X b pd) : QPT X (.Compare a [.NotIn] [b] pos) (p2 dninD pk pd) := fun W => (pt_cmp (pc_dnotin hu (hk W) (hd W)) hm).mono fun _ _ _ h => pc_dninP (lift_dB (h.imp fun _ _ _ => dPT_dP))
/-! ## dicts of the def's own -/
def dDnew : DE := fun _ _ Q => Q (.fr (.dk [] []))
theorem qe_dnew : QE X W (.Dict [] [] pos) dDnew := pe_dnewK.mono fun σ H Q ⟨g, env, Ed, Qd, R, q, kv, kx⟩ p hp => by
  obtain ⟨R2, o, ns⟩ := upd_dk (kvs := []) (ks := []) (ds := []) R hp rfl .nil (by decide)
  exact kv _ (.fr (.dk [] [])) _ _ .rfl R2 ⟨_, o, ns⟩ q
/-- {k: v} -/
def dDis1 (pk : PF) (d : DE) : DE := fun env Ed Q => ∃ k : Int, pk env = some (.int k) ∧ d env Ed (asD fun x => Q (.fr (.dk [k] [x])))
theorem qe_dis1 {pk : PF} {d : DE} (hk : QP X a pk) (hd : QE X W b d) : QE X W (.Dict [some a] [b] pos) (dDis1 pk d) := (pe_disp (pps_cons (hk W) hd pps_nil) rfl rfl (by simp) (by show 1 ≤ 15; decide)).mono fun σ H Q ⟨g, env, Ed, Qd, R, ⟨k, ek, h⟩, kv, kx⟩ p hp => by
  obtain ⟨R2, ow, ns⟩ := upd_dk (kvs := []) (ks := []) (ds := []) R hp rfl .nil (by decide)
  have S1 := R2.side ow ns
  refine lift.useP S1 ek fun v H1 g1 l1 R1 i1 => lift.useD R1 h (fun u x H2 g2 l2 R2' i2 q => ?_) fun er cls dd H2 g2 l2 R2' ir q => ?_
  · obtain ⟨R3, o3, ns3, l3, hc, _⟩ := Rep.back ow (l1.trans l2) R2'
    have hp2 := (hc p (by simp)).trans upd_same
    refine ⟨hp2, [(.inl k, u)], by rw [i1.intE]; rfl, by show 1 ≤ 15; decide, ?_⟩
    have pp := o3.pv p (by simp)
    refine kv _ (.fr (.dk [k] [x])) _ _ l3 (R3.ownR pp ⟨_, hp2⟩ (fun i => ns3 i p (by simp)) (ys := .dK [(.inl k, u)]) (fun h => h)) ⟨[p], ⟨.dk upd_same rfl (.cons i2 .nil) (by show 1 ≤ 100000; decide), by simp, (fun a m => by rw [List.mem_singleton.mp m]; exact pp), o3.pin⟩, ns3⟩ q
  · obtain ⟨R3, o3, ns3, l3, hc, _⟩ := Rep.back ow (l1.trans l2) R2'
    exact kx er cls dd H2 _ l3 R3 ir q
/-- d[k] of a dict of one's own -/
def dDgetO (i : Nat) (pk : PF) : DE := fun env _ Q => ∃ ks ds k x, ownO (nth env i) = some (.dk ks ds) ∧ pk env = some (.int k) ∧ dkGet ks ds k = some x ∧ Q (.d x)
theorem Rep.dkE {K : PySem.W.Frag} {g : G} {σ : L2.St} {H : Hp} {env : List Ev} (R : Rep K g σ H env) {i : Nat} {ks : List Int} {ds : List D} (en : ownO (nth env i) = some (.dk ks ds)) : ∃ b p kvs, nth env i = .own (.dk ks ds) b ∧ σ[i]? = some (some (.ref p)) ∧ p ∈ g.F i ∧ H p = some (.dK kvs) ∧ kvs.map (·.1) = ks.map Sum.inl ∧ Iss K g.B (kvs.map (·.2)) ds ∧ kvs.length ≤ 100000 := by
  have s := R.sl i
  cases e : nth env i with
  | own o b =>
    rw [e] at s en
    obtain ⟨v, es, o'⟩ := s
    cases en
    obtain ⟨p, xs, rfl, ef, hp, hk, i1, z⟩ := o'.is_.dkE
    exact ⟨b, p, xs, rfl, es, by rw [ef]; exact List.mem_cons_self, hp, hk, i1, z⟩
  | _ => rw [e] at en; cases en
theorem qe_dgetO {i : Nat} {pk : PF} (hu : X.A.units + 1 < cLine) (hd : PE X a (tVar i)) (hk : QP X b pk) (hs : NoSl b) : QE X W (.Subscript a b pos) (dDgetO i pk) := (pe_dget hu hd (hk W) hs).mono fun σ H Q ⟨g, env, Ed, Qd, R, ⟨ks, ds, k, x, en, ek, ex, q⟩, kv, kx⟩ => by
  obtain ⟨b, p, kvs, e0, es, mp, hp, _, _, _⟩ := R.dkE en
  refine ⟨.ref p, es, lift.useP R ek fun u H2 g2 l2 R2 i2 => ?_⟩
  obtain ⟨b', p', kvs', e0', es', mp', hp', hk, hi, _⟩ := R2.dkE en
  rw [es] at es'; cases es'
  obtain ⟨w, ew, iw⟩ := (dk_get hk hi k).1 _ ex
  refine ⟨p, w, rfl, ?_, kv _ (.d x) _ _ l2 R2 iw q⟩
  rw [i2.intE, ← ew]
  exact DGet.k (k := .inl _) hp'
/-- d[k] = v -/
def dDput (i : Nat) (pk : PF) (d : DE) : DS := fun Dd env => d env (fun e => Dd.er e env) (asD fun y => ∃ ks ds k, ownO (nth env i) = some (.dk ks ds) ∧ pk env = some (.int k) ∧ ks.length < 100000 ∧ Dd.nx (sth env i (reown (nth env i) (.dk (dkPut ks ds k y).1 (dkPut ks ds k y).2))))
theorem qs_dput {i : Nat} {st : Stmt} {pk : PF} {d : DE} (hp : PS X st (sDPut (tVar i) (lift X.K W (dP pk)) (lift X.K W d))) : QS X W st (dDput i pk d) := hp.mono fun D σ H ⟨g, env, Dd, R, h, l⟩ => by
  refine lift.useD R h (fun v y H1 g1 l1 R1 i1 ⟨ks, ds, k, en, ek, hz, q⟩ => ?_) l.kx
  obtain ⟨b, p, kvs, e0, es, mp, hp, _, _, _⟩ := R1.dkE en
  refine ⟨.ref p, es, lift.useP R1 ek fun u H2 g2 l2 R2 i2 => ?_⟩
  obtain ⟨b', p', kvs', e0', es', mp', hp', hk, hi, _⟩ := R2.dkE en
  rw [es] at es'; cases es'
  obtain ⟨h1, h2⟩ := dk_put (k := k) hk hi (i1.mono l2.b)
  have hl : kvs'.length = ks.length := by have := congrArg List.length hk; simpa using this
  have hd : ds.length = ks.length := by have := hi.length; simp at this; omega
  have hz2 : (putK kvs' (.inl k) v).length ≤ 100000 := by
    have := congrArg List.length h1
    rw [List.length_map, List.length_map] at this
    have := (dkPut_len (k := k) (v := y) hd.symm).2
    omega
  refine ⟨p, _, rfl, by rw [i2.intE]; exact DPut.k (k := .inl k) hp' (by rw [hl, sizeLine_eq]; omega), ?_⟩
  exact l.nx _ _ _ _ ((l1.trans l2).trans G.setF_le) (R2.ownS e0' es mp' (fun h => h) (.dk upd_same h1 h2 hz2) (by simp) fun a ma => .inl (by rw [List.mem_singleton.mp ma]; exact mp')) q
end
end LR
set_option Elab.async false
set_option maxRecDepth 100000
set_option linter.all false
set_option maxHeartbeats 4000000
namespace LR
open PySem PySem.Spec PyProof.Rows L2
/-! # the data layer: nested lists of the def's own -/
section
variable {X : Cx} {W : WX} {elt tg iter e : Expr} {es ifs : List Expr} {scope : Scope} {own : List (Str × Nat)} {pos : Pos} {i : Nat}
/-! ## displays of what one owns -/
inductive IsOs (K : PySem.W.Frag) (g : G) (H : Hp) (σ : L2.St) : List V → List (Ow ⊕ Nat) → List Addr → Prop
  | nil : IsOs K g H σ [] [] []
  | o {v t fs vs ts gs} (h : OwIs K g.B H v t fs) (r : IsOs K g H σ vs ts gs) : IsOs K g H σ (v :: vs) (.inl t :: ts) (fs ++ gs)
  | s {v i vs ts gs} (h : σ[i]? = some (some v)) (r : IsOs K g H σ vs ts gs) : IsOs K g H σ (v :: vs) (.inr i :: ts) gs
theorem IsOs.same {K : PySem.W.Frag} {g g' : G} {H H' : Hp} {σ : L2.St} (s : Same g.B g'.B) : ∀ {vs ts fs}, IsOs K g H σ vs ts fs → (∀ a ∈ fs, H' a = H a) → IsOs K g' H' σ vs ts fs
  | _, _, _, .nil, _ => .nil
  | _, _, _, .o h r, k => .o (h.mono s fun a m => k a (List.mem_append_left _ m)) (r.same s fun a m => k a (List.mem_append_right _ m))
  | _, _, _, .s h r, k => .s h (r.same s k)
abbrev DO := List Ev → (Er → Prop) → (List (Ow ⊕ Nat) → Prop) → Prop
def liftO (K : PySem.W.Frag) (W : WX) (d : DO) : TA := fun σ H Q => ∃ g env Ed Qd, Rep K g σ H env ∧ d env Ed Qd ∧
  (∀ vs ts fs H' g', G.Le g g' → Rep K g' σ H' env → IsOs K g' H' σ vs ts fs → fs.Nodup → (∀ a ∈ fs, Priv g' none a) → Off g' fs → Qd ts → Q vs H') ∧ KX K W g σ env Ed
def QO (X : Cx) (W : WX) (es : List Expr) (d : DO) : Prop := PA X es (liftO X.K W d)
def doNil : DO := fun _ _ Q => Q []
def doCons (d : DE) (r : DO) : DO := fun env Ed Q => d env Ed (asO fun o => r env Ed fun ts => Q (.inl o :: ts))
theorem qo_nil : QO X W [] doNil := pa_nil.mono fun σ H Q ⟨g, env, Ed, Qd, R, h, kv, kx⟩ => kv [] [] [] H g .rfl R .nil .nil (fun _ m => nomatch m) Off.nil h
theorem qo_cons {d r} (h : QE X W e d) (t : QO X W es r) (hs : starEach (e :: es) X.env = (false, eval e X.env) :: starEach es X.env := by rfl) : QO X W (e :: es) (doCons d r) := (pa_cons h t hs).mono fun σ H Q ⟨g, env, Ed, Qd, R, h, kv, kx⟩ => by
  refine lift.use R h (fun v a H1 g1 l1 R1 i1 q1 => ?_) kx
  obtain ⟨o, fs, g2, l2, R2, o2, ns2, q⟩ := up_o R1 i1 q1
  refine ⟨g2.side H1 fs, env, Ed, _, R2.side o2 ns2, q, fun vs ts gs H3 g3 l3 R3 i3 nd pv off q3 => ?_, fun er cls dd H3 g3 l3 R3 ir q3 => ?_⟩
  · obtain ⟨R4, o4, ns4, l4, hc, _, tr⟩ := Rep.back o2 l3 R3
    refine kv _ _ (fs ++ gs) H3 _ ((l1.trans l2).trans l4) R4 (.o o4.is_ (i3.same (g := g3) (g' := g3.back g2.P) Same.rfl' fun _ _ => rfl)) (List.nodup_append.mpr ⟨o2.nd, nd, fun a m b m2 e => (tr _ b (pv b m2)).2 (e ▸ m)⟩) (fun a m => ?_) (fun j a m => ?_) q3
    · rcases List.mem_append.mp m with m | m
      · exact o4.pv a m
      · exact (tr _ a (pv a m)).1
    · rcases List.mem_append.mp m with m | m
      · exact ns4 j a m
      · exact off j a m
  · obtain ⟨R4, o4, ns4, l4, hc, _, tr⟩ := Rep.back o2 l3 R3
    exact kx er cls dd H3 _ ((l1.trans l2).trans l4) R4 ir q3
def takeO : List Ev → List (Ow ⊕ Nat) → Option (List Ev × List Ow)
  | env, [] => some (env, [])
  | env, .inl o :: r => (takeO env r).map fun p => (p.1, o :: p.2)
  | env, .inr i :: r => match nth env i with
    | .own o none => (takeO (sth env i .any) r).map fun p => (p.1, o :: p.2)
    | _ => none
theorem take_own {K : PySem.W.Frag} {σ : L2.St} {H : Hp} : ∀ {ts : List (Ow ⊕ Nat)} {g : G} {env env' : List Ev} {vs : List V} {fs : List Addr} {os : List Ow}, Rep K g σ H env → IsOs K g H σ vs ts fs → fs.Nodup → (∀ a ∈ fs, Priv g none a) → Off g fs → takeO env ts = some (env', os) →
    ∃ g' fs', G.Le g g' ∧ g'.B = g.B ∧ Rep K g' σ H env' ∧ OwIss K g'.B H vs os fs' ∧ fs'.Nodup ∧ (∀ a ∈ fs', Priv g' none a) ∧ Off g' fs' ∧ (∀ j a, a ∈ g'.F j → a ∈ g.F j) ∧ (∀ a ∈ fs', a ∈ fs ∨ ∃ j, a ∈ g.F j) ∧ ∀ b a, Priv g b a → Priv g' b a := by
  intro ts
  induction ts with
  | nil =>
    intro g env env' vs fs os R i nd pv off e
    cases i
    cases e
    exact ⟨g, [], .rfl, rfl, R, .nil, .nil, (fun _ m => nomatch m), Off.nil, fun _ _ h => h, (fun _ m => nomatch m), fun _ _ h => h⟩
  | cons t ts ih =>
    intro g env env' vs fs os R i nd pv off e
    cases t with
    | inl o =>
      cases i with
      | @o v _ hs vs _ gs h r =>
        obtain ⟨p, e1, e2⟩ := Option.map_eq_some_iff.mp e
        cases e2
        obtain ⟨env', os⟩ := p
        have nd' := List.nodup_append.mp nd
        obtain ⟨g', fs', le, eB, R', i', nd2, pv2, off2, sub, or_, kp⟩ := ih R r nd'.2.1 (fun a m => pv a (List.mem_append_right _ m)) (fun j a m => off j a (List.mem_append_right _ m)) e1
        refine ⟨g', hs ++ fs', le, eB, R', .cons (by rw [eB]; exact h) i', List.nodup_append.mpr ⟨nd'.1, nd2, fun a m b m2 ee => ?_⟩, fun a m => ?_, fun j a m => ?_, sub, fun a m => ?_, kp⟩
        · subst ee
          rcases or_ a m2 with q | ⟨j, q⟩
          · exact nd'.2.2 a m a q rfl
          · exact off j a (List.mem_append_left _ m) q
        · rcases List.mem_append.mp m with m | m
          · exact kp _ _ (pv a (List.mem_append_left _ m))
          · exact pv2 a m
        · rcases List.mem_append.mp m with m | m
          · exact fun h => off j a (List.mem_append_left _ m) (sub j a h)
          · exact off2 j a m
        · rcases List.mem_append.mp m with m | m
          · exact .inl (List.mem_append_left _ m)
          · exact (or_ a m).elim (fun q => .inl (List.mem_append_right _ q)) .inr
    | inr k =>
      cases i with
      | @s v _ vs _ _ h r =>
        unfold takeO at e
        split at e
        · rename_i o en
          obtain ⟨p, e1, e2⟩ := Option.map_eq_some_iff.mp e
          cases e2
          obtain ⟨env', os⟩ := p
          have s := R.sl k
          rw [en] at s
          obtain ⟨v', es, ow⟩ := s
          rw [h] at es; cases es
          obtain ⟨R1, o1, ns1⟩ := R.giveUp ow
          have subF : ∀ j a, a ∈ (g.setF k []).F j → a ∈ g.F j := fun j a m => by
            have m : a ∈ LR.setF g.F k [] j := m
            by_cases n : j = k
            · subst n; rw [setF_eq] at m; cases m
            · rw [setF_ne n] at m; exact m
          obtain ⟨g', fs', le, eB, R', i', nd2, pv2, off2, sub, or_, kp⟩ := ih R1 (r.same (g := g) (g' := g.setF k []) Same.rfl' fun _ _ => rfl) nd (fun a m => (pv a m).setF) (fun j a m q => off j a m (subF j a q)) e1
          refine ⟨g', g.F k ++ fs', G.setF_le.trans le, eB, R', .cons (by rw [eB]; exact o1.is_) i', List.nodup_append.mpr ⟨ow.nd, nd2, fun a m b m2 ee => ?_⟩, fun a m => ?_, fun j a m => ?_, fun j a m => subF j a (sub j a m), fun a m => ?_, fun b a q => kp b a q.setF⟩
          · subst ee
            rcases or_ a m2 with q | ⟨j, q⟩
            · exact off k a q m
            · exact ns1 j a m q
          · rcases List.mem_append.mp m with m | m
            · exact kp _ _ (o1.pv a m)
            · exact pv2 a m
          · rcases List.mem_append.mp m with m | m
            · exact fun q => ns1 j a m (sub j a q)
            · exact off2 j a m
          · rcases List.mem_append.mp m with m | m
            · exact .inr ⟨k, m⟩
            · exact (or_ a m).imp id fun ⟨j, q⟩ => ⟨j, subF j a q⟩
        · cases e
def dRetTup (d : DO) : DS := fun Dd env => d env (fun e => Dd.er e env) fun ts => ∃ env' os, takeO env ts = some (env', os) ∧ os.length ≤ 1000 ∧ Dd.rt env' (.fr (.tu os))
theorem qs_retTup {d x1 tpos} (h : QO X W es d) : QS X W (.Return (some (.Tuple es x1 tpos)) pos) (dRetTup d) := (ps_ret (pe_tup h)).mono fun D σ H ⟨g, env, Dd, R, h, l⟩ => by
  refine ⟨g, env, _, _, R, h, fun vs ts fs H1 g1 l1 R1 i1 nd pv off ⟨env', os, et, hz, q⟩ => ?_, l.kx⟩
  obtain ⟨g2, fs', l2, eB, R2, i2, nd2, pv2, off2, _⟩ := take_own R1 i1 nd pv off et
  refine ⟨by rw [i2.length]; exact len_1000 hz, fun p hp => ?_⟩
  have l3 := R2.le_new (o := .tup vs) hp
  have R3 := R2.new (u := .tup vs) hp
  have np : ∀ a ∈ fs', a ≠ p := fun a m e => by
    obtain ⟨c⟩ | ⟨c⟩ := i2.cell a m
    · obtain ⟨_, c⟩ := ‹∃ l, H1 a = some (.lst l)›; rw [e, hp] at c; cases c
    · obtain ⟨_, c⟩ := ‹∃ l, H1 a = some (.dK l)›; rw [e, hp] at c; cases c
  exact l.rt _ (.fr (.tu os)) _ _ _ _ ((l1.trans l2).trans l3) R3 ⟨fs', ⟨.tu (by show upd g2.B p _ p = _; exact upd_same) (i2.mono l3.b fun a m => upd_ne (np a m)) (by rw [i2.length]; omega), nd2, fun a m => (pv2 a m).new (np a m), fun _ h => by cases h⟩, off2⟩ q
end
end LR
set_option Elab.async false
set_option maxRecDepth 100000
set_option linter.all false
set_option maxHeartbeats 4000000
namespace LR
open PySem PySem.Spec PyProof.Rows L2
/-! # the data layer: places inside nested lists -/
def atO1 : Ow → Int → Option Ow
  | .tr ts, k => atI ts k
  | .tu ts, k => atI ts k
  | _, _ => none
def atO : Ow → List Int → Option Ow
  | o, [] => some o
  | o, k :: ks => (atO1 o k).bind fun t => atO t ks
def putO1 : Ow → Int → Ow → Ow
  | .tr ts, k, s => match ixN ts.length k with
    | some j => .tr (ts.set j s)
    | none => .tr ts
  | .tu ts, k, s => match ixN ts.length k with
    | some j => .tu (ts.set j s)
    | none => .tu ts
  | o, _, _ => o
def putO : Ow → List Int → Ow → Ow
  | _, [], s => s
  | o, k :: ks, s => match atO1 o k with
    | some t => putO1 o k (putO t ks s)
    | none => o
theorem atO_snoc : ∀ {ks : List Int} {o : Ow} {k : Int}, atO o (ks ++ [k]) = (atO o ks).bind fun s => atO1 s k
  | [], o, k => by
    show (atO1 o k).bind (fun t => some t) = _
    simp [atO]
  | j :: ks, o, k => by
    show (atO1 o j).bind (fun t => atO t (ks ++ [k])) = ((atO1 o j).bind fun t => atO t ks).bind _
    cases atO1 o j with
    | none => rfl
    | some t => exact atO_snoc (ks := ks)
theorem putO_snoc : ∀ {ks : List Int} {o s s2 t : Ow} {k : Int}, atO o ks = some s → atO1 s k = some t → putO o (ks ++ [k]) s2 = putO o ks (putO1 s k s2)
  | [], o, s, s2, t, k, h, h1 => by
    cases h
    show (match atO1 o k with | some t => putO1 o k (putO t [] s2) | none => o) = _
    rw [h1]; rfl
  | j :: ks, o, s, s2, t, k, h, h1 => by
    have h : (atO1 o j).bind (fun t => atO t ks) = some s := h
    show (match atO1 o j with | some t => putO1 o j (putO t (ks ++ [k]) s2) | none => o) = match atO1 o j with | some t => putO1 o j (putO t ks (putO1 s k s2)) | none => o
    cases e : atO1 o j with
    | none => rfl
    | some u =>
      rw [e] at h
      show putO1 o j _ = putO1 o j _
      rw [putO_snoc (ks := ks) h h1]
section
variable {K : PySem.W.Frag} {B H : Hp}
theorem OwIss.cut : ∀ {ts : List Ow} {vs gs} (_ : OwIss K B H vs ts gs) {j : Nat} {t : Ow}, ts[j]? = some t → ∃ v fs pre post, vs[j]? = some v ∧ OwIs K B H v t fs ∧ gs = pre ++ fs ++ post ∧
    ∀ Bx Hx s2 fs2, Same B Bx → OwIs K Bx Hx v s2 fs2 → (∀ a, a ∈ pre ∨ a ∈ post → Hx a = H a) → OwIss K Bx Hx vs (ts.set j s2) (pre ++ fs2 ++ post) := by
  intro ts
  induction ts with
  | nil => intro vs gs h j t e; simp at e
  | cons u ts ih =>
    intro vs gs h j t e
    cases h with
    | @cons v _ fs vs _ gs h r =>
      cases j with
      | zero =>
        simp at e; subst e
        refine ⟨v, fs, [], gs, rfl, h, rfl, fun Bx Hx s2 fs2 sb i2 k => ?_⟩
        exact .cons i2 (r.mono sb fun a m => k a (.inr m))
      | succ j =>
        obtain ⟨v', fs', pre, post, e1, i1, eg, cut⟩ := ih r (j := j) (by simpa using e)
        refine ⟨v', fs', fs ++ pre, post, by simpa using e1, i1, by rw [eg]; simp [List.append_assoc], fun Bx Hx s2 fs2 sb i2 k => ?_⟩
        have c := cut Bx Hx s2 fs2 sb i2 fun a m => k a (m.imp (List.mem_append_right _) id)
        have := OwIss.cons (h.mono (H' := Hx) sb fun a m => k a (.inl (List.mem_append_left _ m))) c
        rw [show fs ++ pre ++ fs2 ++ post = fs ++ (pre ++ fs2 ++ post) by simp [List.append_assoc]]
        exact this
/-- the part at ks of what lies at v0 -/
structure Foc (K : PySem.W.Frag) (B H : Hp) (v0 : V) (o : Ow) (fs : List Addr) (ks : List Int) (v : V) (s : Ow) (gs : List Addr) : Prop where
  at_ : atO o ks = some s
  is_ : OwIs K B H v s gs
  cut : ∃ pre post, fs = pre ++ gs ++ post ∧ ∀ Bx Hx s2 fs2, Same B Bx → OwIs K Bx Hx v s2 fs2 → (∀ a, a ∈ pre ∨ a ∈ post → Hx a = H a) → OwIs K Bx Hx v0 (putO o ks s2) (pre ++ fs2 ++ post)
theorem Foc.nil {v0 o fs} (i : OwIs K B H v0 o fs) : Foc K B H v0 o fs [] v0 o fs := ⟨rfl, i, [], [], by simp, fun Bx Hx s2 fs2 sb i2 k => by simpa [putO] using i2⟩
theorem Foc.step {v0 o fs ks v s gs} (f : Foc K B H v0 o fs ks v s gs) {k : Int} {t : Ow} (e : atO1 s k = some t) : ∃ p vs v' gs', v = .ref p ∧ ((p ∈ gs ∧ H p = some (.lst vs)) ∨ B p = some (.tup vs)) ∧ atI vs k = some v' ∧ Foc K B H v0 o fs (ks ++ [k]) v' t gs' := by
  obtain ⟨pre, post, ef, cut⟩ := f.cut
  have hat : atO o (ks ++ [k]) = some t := by rw [atO_snoc, f.at_]; exact e
  have hput : ∀ s2, putO o (ks ++ [k]) s2 = putO o ks (putO1 s k s2) := fun s2 => putO_snoc f.at_ e
  have hi := f.is_
  cases s with
  | tr ts =>
    obtain ⟨p, vs, g1, rfl, rfl, hp, a, z⟩ := hi.trE
    obtain ⟨j, ej, et⟩ : ∃ j, ixN ts.length k = some j ∧ ts[j]? = some t := by
      have e : atI ts k = some t := e
      unfold atI at e
      cases h : ixN ts.length k with
      | none => rw [h] at e; cases e
      | some j => rw [h] at e; exact ⟨j, rfl, e⟩
    obtain ⟨v', fs', pre', post', ev, i1, eg, cut'⟩ := a.cut et
    refine ⟨p, vs, v', fs', rfl, .inl ⟨List.mem_cons_self, hp⟩, by unfold atI; rw [a.length, ej]; exact ev, hat, i1, pre ++ p :: pre', post' ++ post, by rw [ef, eg]; simp [List.append_assoc], fun Bx Hx s2 fs2 sb i2 kk => ?_⟩
    rw [hput]
    have c := cut' Bx Hx s2 fs2 sb i2 fun a m => kk a (m.imp (fun m => List.mem_append_right _ (List.mem_cons_of_mem _ m)) fun m => List.mem_append_left _ m)
    have hp2 : Hx p = some (.lst vs) := by rw [kk p (.inl (List.mem_append_right _ List.mem_cons_self))]; exact hp
    have w := OwIs.tr hp2 c z
    have eq : putO1 (.tr ts) k s2 = .tr (ts.set j s2) := by simp only [putO1, ej]
    have := cut Bx Hx _ _ sb w fun a m => kk a (m.imp (List.mem_append_left _) (List.mem_append_right _))
    rw [eq]
    simpa [List.append_assoc] using this
  | tu ts =>
    obtain ⟨p, vs, rfl, hp, a, z⟩ := hi.tuE
    obtain ⟨j, ej, et⟩ : ∃ j, ixN ts.length k = some j ∧ ts[j]? = some t := by
      have e : atI ts k = some t := e
      unfold atI at e
      cases h : ixN ts.length k with
      | none => rw [h] at e; cases e
      | some j => rw [h] at e; exact ⟨j, rfl, e⟩
    obtain ⟨v', fs', pre', post', ev, i1, eg, cut'⟩ := a.cut et
    refine ⟨p, vs, v', fs', rfl, .inr hp, by unfold atI; rw [a.length, ej]; exact ev, hat, i1, pre ++ pre', post' ++ post, by rw [ef, eg]; simp [List.append_assoc], fun Bx Hx s2 fs2 sb i2 kk => ?_⟩
    rw [hput]
    have c := cut' Bx Hx s2 fs2 sb i2 fun a m => kk a (m.imp (List.mem_append_right _) fun m => List.mem_append_left _ m)
    have w := OwIs.tu (sb _ _ hp) c z
    have eq : putO1 (.tu ts) k s2 = .tu (ts.set j s2) := by simp only [putO1, ej]
    have := cut Bx Hx _ _ sb w fun a m => kk a (m.imp (List.mem_append_left _) (List.mem_append_right _))
    rw [eq]
    simpa [List.append_assoc] using this
  | ls l => cases e
  | dk ks ds => cases e
  | da x => cases e
end
def liftPl (K : PySem.W.Frag) (i : Nat) (pa : List Ev → Option (List Int)) : TE := fun σ H Q => ∃ g env o v0 fs B0 H0, Rep K g σ H env ∧ σ[i]? = some (some v0) ∧ OwIs K B0 H0 v0 o fs ∧ (∀ a ∈ fs, g.B a = H0 a) ∧ Same B0 g.B ∧
  ∃ ks s, pa env = some ks ∧ atO o ks = some s ∧ ∀ v gs H' g', G.Le g g' → Rep K g' σ H' env → Foc K B0 H0 v0 o fs ks v s gs → Q v H'
def paNil : List Ev → Option (List Int) := fun _ => some []
def paIx (pa : List Ev → Option (List Int)) (pk : PF) : List Ev → Option (List Int) := fun env => match pa env, pk env with
  | some ks, some (.int k) => some (ks ++ [k])
  | _, _ => none
section
variable {X : Cx} {W : WX} {i : Nat} {e a b : Expr} {pos : Pos} {pa : List Ev → Option (List Int)} {pk : PF} {st : Stmt}
theorem qpl_var (h : PE X e (tVar i)) : PE X e (liftPl X.K i paNil) := h.mono fun σ H Q ⟨g, env, o, v0, fs, B0, H0, R, ev, oi, hc, sb, ks, s, ep, ea, k⟩ => by
  cases ep
  cases ea
  exact ⟨v0, ev, k v0 fs H g .rfl R (.nil oi)⟩
theorem qpl_ix (h : PE X a (liftPl X.K i pa)) (hb : QP X b pk) (hs : PlainIx b) : PE X (.Subscript a b pos) (liftPl X.K i (paIx pa pk)) := (pe_ix ix_A h (hb WF) hs).mono fun σ H Q ⟨g, env, o, v0, fs, B0, H0, R, ev, oi, hc, sb, ks, t, ep, ea, k⟩ => by
  unfold paIx at ep
  split at ep
  · rename_i ks' k' e1 e2
    cases ep
    rw [atO_snoc] at ea
    obtain ⟨s, es, et⟩ := Option.bind_eq_some_iff.mp ea
    refine ⟨g, env, o, v0, fs, B0, H0, R, ev, oi, hc, sb, ks', s, e1, es, fun v gs H1 g1 l1 R1 f => ?_⟩
    refine lift.useP R1 e2 fun u H2 g2 l2 R2 i2 => ?_
    obtain ⟨p, vs, v', gs', rfl, hp, ev', f'⟩ := f.step et
    have fin := k v' gs' H2 g2 (l1.trans l2) R2 f'
    rw [i2.intE]
    rcases hp with ⟨m, hp⟩ | hp
    · have mf : p ∈ fs := by obtain ⟨pre, post, ef, _⟩ := f.cut; rw [ef]; exact List.mem_append_left _ (List.mem_append_right _ m)
      exact .inl ⟨p, vs, k', v', rfl, rfl, SqL.of (R2.ok.sb _ _ ((l1.trans l2).b _ _ ((hc p mf).trans hp))), ev', fin⟩
    · exact .inr (.inl ⟨p, vs, k', v', rfl, rfl, SqT.of (R2.ok.sb _ _ ((l1.trans l2).b _ _ (sb _ _ hp))), ev', fin⟩)
  · cases ep
theorem Rep.pl {K : PySem.W.Frag} {g : G} {σ : L2.St} {H : Hp} {env : List Ev} {o : Ow} {Q : VK} (R : Rep K g σ H env) (en : ownO (nth env i) = some o) {ks s} (ep : pa (un env) = some ks) (ea : atO o ks = some s)
    (k : ∀ b v0 v gs H' g', nth env i = .own o b → σ[i]? = some (some v0) → G.Le (g.lent H) g' → Rep K g' σ H' (un env) → Foc K g.B H v0 o (g.F i) ks v s gs → Q v H') : liftPl K i pa σ H Q := by
  have s' := R.sl i
  cases e : nth env i with
  | own o' b =>
    rw [e] at s' en
    obtain ⟨v0, es, oa⟩ := s'
    cases en
    exact ⟨g.lent H, un env, o, v0, g.F i, g.B, H, R.lend, es, oa.is_, fun a m => lent_own ⟨i, m⟩, (G.lent_le R).b, ks, s, ep, ea, fun v gs H' g' le R' f => k b v0 v gs H' g' e es le R' f⟩
  | _ => rw [e] at en; cases en
/-- the part at ks, a list of data, gets other items -/
theorem Rep.plPut {K : PySem.W.Frag} {g g2 : G} {σ : L2.St} {H H2 : Hp} {env : List Ev} {o : Ow} {b : Option Nat} {v0 v : V} {ks : List Int} {l m : List D} {gs : List Addr} (R : Rep K g σ H env) (en : nth env i = .own o b) (es : σ[i]? = some (some v0)) (f : Foc K g.B H v0 o (g.F i) ks v (.ls l) gs) (le : G.Le (g.lent H) g2) (R2 : Rep K g2 σ H2 (un env)) :
    ∃ p xs, v = .ref p ∧ H2 p = some (.lst xs) ∧ Iss K g.B xs l ∧ xs.length ≤ 100000 ∧ ∀ zs, Iss K (g.unlent g2).B zs m → zs.length ≤ 100000 → ∃ g', G.Le g g' ∧ Rep K g' σ (upd H2 p (.lst zs)) (sth env i (reown (nth env i) (putO o ks (.ls m)))) := by
  obtain ⟨l3, R3, _, _, hc⟩ := R.unlend le R2
  obtain ⟨p, xs, rfl, rfl, hp, ix, z⟩ := f.is_.lE
  obtain ⟨pre, post, ef, cut⟩ := f.cut
  have mp : p ∈ g.F i := by rw [ef]; simp
  have s := R.sl i
  rw [en] at s
  obtain ⟨v0', es', oa⟩ := s
  have nd := oa.nd
  rw [ef] at nd
  have nd1 := List.nodup_append.mp nd
  have nd2 := List.nodup_append.mp nd1.1
  have ne : ∀ a, a ∈ pre ∨ a ∈ post → a ≠ p := fun a m e => by
    subst e
    rcases m with m | m
    · exact nd2.2.2 a m a (by simp) rfl
    · exact nd1.2.2 a (by simp) a m rfl
  have inF : ∀ a, a ∈ pre ∨ a ∈ post → a ∈ g.F i := fun a m => by
    rw [ef]
    rcases m with m | m
    · exact List.mem_append_left _ (List.mem_append_left _ m)
    · exact List.mem_append_right _ m
  refine ⟨p, xs, rfl, (hc p ⟨i, mp⟩).trans hp, ix, z, fun zs iz hz => ?_⟩
  have w := cut (g.unlent g2).B (upd H2 p (.lst zs)) (.ls m) [p] l3.b (.l upd_same iz hz) fun a m => by rw [upd_ne (ne a m)]; exact hc a ⟨i, inF a m⟩
  have eF : pre ++ [p] ++ post = g.F i := ef.symm
  exact ⟨_, l3.trans G.setF_le, R3.ownS en es mp (fun h => h) w (by rw [eF]; exact oa.nd) fun a m => .inl (by rw [eF] at m; exact m)⟩
/-- x[..].m(e ..) -/
def dPlM (i : Nat) (pa : List Ev → Option (List Int)) (f : List D → List D → Option (List D)) (ps : List PF) : DS := fun Dd env => ∃ o ks l ys m, ownO (nth env i) = some o ∧ pa (un env) = some ks ∧ atO o ks = some (.ls l) ∧ evs ps (un env) = some ys ∧ imds ys = true ∧ f l ys = some m ∧ m.length ≤ 100000 ∧
  Dd.nx (sth env i (reown (nth env i) (putO o ks (.ls m))))
theorem qs_plM {r : V → List V → Hp → VK → Prop} {f : List D → List D → Option (List D)} {ps : List PF} (hf : OwnM X.K r f) (hp : PS X st (tDrop (tBM X.K "list" r (liftPl X.K i pa) (liftA X.K WF (daP ps))))) : QS X W st (dPlM i pa f ps) := hp.mono fun D σ H ⟨g, env, Dd, R, ⟨o, ks, l, ys, m, en, ep, ea, ey, iy, ef, hz, q⟩, lk⟩ => by
  refine R.pl en ep ea fun b v0 v gs H1 g1 e0 es l1 R1 fo => ?_
  obtain ⟨p, xs, ev, hp1, _, _, _⟩ := R.plPut (m := m) e0 es fo l1 R1
  subst ev
  refine ⟨.inl ⟨rfl, _, SqL.of hp1⟩, g1, un env, (fun _ => False), _, R1, ⟨ys, ey, rfl⟩, fun us as H2 g2 l2 R2 i2 ea2 => ?_, fun _ _ _ _ _ _ _ _ z => z.elim⟩
  subst ea2
  obtain ⟨p', xs', ev, hp2, ix, zx, put⟩ := R.plPut (m := m) e0 es fo (l1.trans l2) R2
  cases ev
  obtain ⟨l3, R3, im, _⟩ := R.unlend (l1.trans l2) R2
  exact hf.ok R3.ok.sb hp2 (ix.mono l3.b) ((i2.all (allD_map ys)).less im iy) ef hz fun v zs iz => by
    obtain ⟨g', l', R'⟩ := put zs iz (by rw [iz.length]; exact hz)
    exact lk.nx _ _ _ _ l' R' q
/-- x[..][k] = e -/
def dPlPut (i : Nat) (pa : List Ev → Option (List Int)) (pk : PF) (d : DE) : DS := fun Dd env => d env (fun e => Dd.er e env) (asD fun y => ∃ o ks l k j, ownO (nth env i) = some o ∧ pa (un env) = some ks ∧ atO o ks = some (.ls l) ∧ pk (un env) = some (.int k) ∧ ixN l.length k = some j ∧
  Dd.nx (sth env i (reown (nth env i) (putO o ks (.ls (l.set j y))))))
theorem qs_plPut {d : DE} (hp : PS X st (tAsg (lift X.K W d) (gSub (liftPl X.K i pa) (lift X.K WF (dP pk)) rSetL))) : QS X W st (dPlPut i pa pk d) := hp.mono fun D σ H ⟨g, env, Dd, R, h, lk⟩ => by
  refine lift.useD R h (fun y x H0 g0 l0 R0 i0 ⟨o, ks, l, k, j, en, ep, ea, ek, ej, q⟩ => ?_) lk.kx
  refine R0.pl en ep ea fun b v0 v gs H1 g1 e0 es l1 R1 fo => ?_
  refine lift.useP R1 ek fun u H2 g2 l2 R2 i2 => ?_
  obtain ⟨p, xs, ev, hp2, ix, zx, put⟩ := R0.plPut (m := l.set j x) e0 es fo (l1.trans l2) R2
  subst ev
  obtain ⟨l3, R3, im, _⟩ := R0.unlend (l1.trans l2) R2
  refine ⟨p, xs, k, j, rfl, i2.intE, hp2, by rw [ix.length]; exact ej, ?_⟩
  obtain ⟨g', l', R'⟩ := put (xs.set j y) ((ix.mono l3.b).set j (i0.mono l3.b)) (by rw [List.length_set]; exact zx)
  exact lk.nx _ _ _ _ (l0.trans l') R' q
/-- a fresh list read off what one owns -/
def dLoanF (d : DE) : DE := fun env Ed Q => d (un env) Ed fun r => ∃ l, r = .fr (.ls l) ∧ imds l = true ∧ Q (.fr (.ls l))
end
end LR
set_option Elab.async false
set_option maxRecDepth 100000
set_option linter.all false
set_option maxHeartbeats 4000000
namespace LR
open PySem PySem.Spec PyProof.Rows L2
/-! # the data layer: loops over what one owns -/
section
variable {K : PySem.W.Frag} {W : WX} {g g' : G} {σ σ' : L2.St} {H H' : Hp} {env e : List Ev} {i : Nat} {v : V} {o : Ow} {b : Option Nat} {fs : List Addr}
theorem IsR.back {r : Ar} {v : V} {a : G} (tr : ∀ b' v' o' fs', OwnAt K g' H' b' v' o' fs' → OwnAt K (g'.back a.P) H' b' v' o' fs' ∧ ∀ p ∈ fs', p ∉ fs) (i : IsR K g' H' v r) : IsR K (g'.back a.P) H' v r := by
  cases r with
  | d x => exact i
  | pool => exact i
  | scr ns => exact i
  | fr o => obtain ⟨gs, oa, ns⟩ := i; exact ⟨gs, (tr _ _ _ _ oa).1, ns⟩
end
end LR
set_option Elab.async false
set_option maxRecDepth 100000
set_option linter.all false
set_option maxHeartbeats 4000000
namespace LR
open PySem PySem.Spec PyProof.Rows L2
/-! # the data layer: more fresh lists, two iterations in one comprehension -/
/-! ## sorted edges -/
def rowD : List D → Option (List Int)
  | [] => some []
  | .int i :: r => (rowD r).map (i :: ·)
  | _ :: _ => none
def rowsD : List D → Option (List (List Int))
  | [] => some []
  | .tup l :: r => match rowD l, rowsD r with
    | some e, some es => some (e :: es)
    | _, _ => none
  | _ :: _ => none
theorem rowD_eq : ∀ {l e}, rowD l = some e → l = e.map .int
  | [], _, h => by cases h; rfl
  | .int i :: r, _, h => by
    obtain ⟨e, he, rfl⟩ := Option.map_eq_some_iff.mp h
    rw [rowD_eq he]; rfl
  | .non :: _, _, h => by cases h
  | .bl _ :: _, _, h => by cases h
  | .str _ :: _, _, h => by cases h
  | .lst _ :: _, _, h => by cases h
  | .tup _ :: _, _, h => by cases h
  | .ins _ _ _ :: _, _, h => by cases h
  | .cls _ :: _, _, h => by cases h
  | .ty _ :: _, _, h => by cases h
  | .dic _ _ :: _, _, h => by cases h
theorem rowD_ints : ∀ e : List Int, rowD (e.map .int) = some e
  | [] => rfl
  | i :: r => by show (rowD (r.map .int)).map (i :: ·) = _; rw [rowD_ints r]; rfl
theorem rowsD_eq : ∀ {l es}, rowsD l = some es → l = es.map intT
  | [], _, h => by cases h; rfl
  | .tup l :: r, es, h => by
    have h : (match rowD l, rowsD r with | some e, some es => some (e :: es) | _, _ => none) = some es := h
    split at h
    · rename_i e es' e1 e2
      cases h
      rw [rowD_eq e1, rowsD_eq e2]; rfl
    · cases h
  | .non :: _, _, h => by cases h
  | .bl _ :: _, _, h => by cases h
  | .int _ :: _, _, h => by cases h
  | .str _ :: _, _, h => by cases h
  | .lst _ :: _, _, h => by cases h
  | .ins _ _ _ :: _, _, h => by cases h
  | .cls _ :: _, _, h => by cases h
  | .ty _ :: _, _, h => by cases h
  | .dic _ _ :: _, _, h => by cases h
theorem rowsD_ed : ∀ es : List (List Int), rowsD (es.map intT) = some es
  | [] => rfl
  | e :: r => by
    show (match rowD (e.map .int), rowsD (r.map intT) with | some e, some es => some (e :: es) | _, _ => none) = _
    rw [rowD_ints, rowsD_ed r]
def leE (a b : List Int) : Bool := decide (TS.code 64 a ≤ TS.code 64 b)
def sortE (es : List (List Int)) : List (List Int) := es.mergeSort leE
def okE (es : List (List Int)) : Bool := decide (es.length < 64) && es.all fun e => decide (e.length = 3) && e.all fun i => decide (0 ≤ i) && decide (i < 64)
theorem sortE_perm (es : List (List Int)) : (sortE es).Perm es := List.mergeSort_perm es leE
theorem sortE_pw (es : List (List Int)) : (sortE es).Pairwise fun a b => TS.code 64 a ≤ TS.code 64 b := by
  have := List.pairwise_mergeSort (le := leE) (fun a b c h1 h2 => by unfold leE at *; simp only [decide_eq_true_eq] at *; omega) (fun a b => by unfold leE; simp only [Bool.or_eq_true, decide_eq_true_eq]; omega) es
  exact this.imp fun h => of_decide_eq_true h
theorem okE_at {es : List (List Int)} (h : okE es = true) : es.length < 64 ∧ ∀ e ∈ es, ∃ s r t, e = [s, r, t] ∧ (0 ≤ s ∧ s < 64) ∧ (0 ≤ r ∧ r < 64) ∧ (0 ≤ t ∧ t < 64) := by
  unfold okE at h
  rw [Bool.and_eq_true, List.all_eq_true] at h
  refine ⟨of_decide_eq_true h.1, fun e he => ?_⟩
  have q := h.2 e he
  rw [Bool.and_eq_true, List.all_eq_true] at q
  match e, q with
  | [s, r, t], q =>
    have b : ∀ i ∈ [s, r, t], 0 ≤ i ∧ i < 64 := fun i hi => by
      have := q.2 i hi
      rw [Bool.and_eq_true] at this
      exact ⟨of_decide_eq_true this.1, of_decide_eq_true this.2⟩
    exact ⟨s, r, t, rfl, b s (by simp), b r (by simp), b t (by simp)⟩
  | [], q => simp at q
  | [_], q => simp at q
  | [_, _], q => simp at q
  | _ :: _ :: _ :: _ :: _, q => simp at q
theorem sortE_unique {es ss : List (List Int)} (h : okE es = true) (p : ss.Perm es) (w : ss.Pairwise fun a b => TS.code 64 a ≤ TS.code 64 b) : ss = sortE es := by
  refine List.Perm.eq_of_pairwise (le := fun a b => TS.code 64 a ≤ TS.code 64 b) (fun a b ha hb h1 h2 => ?_) w (sortE_pw es) (p.trans (sortE_perm es).symm)
  obtain ⟨s, r, t, rfl, hs, hr, ht⟩ := (okE_at h).2 a (p.mem_iff.mp ha)
  obtain ⟨s', r', t', rfl, hs', hr', ht'⟩ := (okE_at h).2 b ((sortE_perm es).mem_iff.mp hb)
  rw [code3, code3] at h1 h2
  have : s = s' := by omega
  have : r = r' := by omega
  have : t = t' := by omega
  simp [*]
def sortED : List D → Option D
  | [.lst l] => match rowsD l with
    | some es => if okE es = true then some (edL (sortE es)) else none
    | none => none
  | [.tup l] => match rowsD l with
    | some es => if okE es = true then some (edL (sortE es)) else none
    | none => none
  | _ => none
section
variable {K : PySem.W.Frag}
theorem iss_ed {B : Hp} : ∀ {es : List (List Int)} {xs}, Iss K B xs (es.map intT) → ∀ ys : List V, ys.Perm xs → ∃ ss : List (List Int), ss.Perm es ∧ Iss K B ys (ss.map intT) := fun {es xs} i ys p => by
  induction p generalizing es with
  | nil => cases es with
    | nil => exact ⟨[], .nil, .nil⟩
    | cons e es => cases i
  | cons x p ih =>
    cases es with
    | nil => cases i
    | cons e es =>
      cases i with
      | cons a t =>
        obtain ⟨ss, h1, h2⟩ := ih t
        exact ⟨e :: ss, .cons e h1, .cons a h2⟩
  | swap x y l =>
    cases es with
    | nil => cases i
    | cons e es =>
      cases es with
      | nil => cases i with | cons a t => cases t
      | cons f es =>
        cases i with
        | cons a t => cases t with
          | cons b t => exact ⟨f :: e :: es, .swap .., .cons b (.cons a t)⟩
  | trans p q ih1 ih2 =>
    obtain ⟨ss, h1, h2⟩ := ih2 i
    obtain ⟨tt, h3, h4⟩ := ih1 h2
    exact ⟨tt, h3.trans h1, h4⟩
theorem iss_intE2 {B : Hp} : ∀ {e : List Int} {xs}, Iss K B xs (e.map .int) → xs = e.map V.int
  | [], _, h => by cases h; rfl
  | i :: r, _, h => by
    cases h with
    | cons a t => rw [a.intE, iss_intE2 t]; rfl
theorem row_tupI {g : G} {H : Hp} (sb : Same g.B H) {v : V} {e : List Int} (i : Is K g.B v (intT e)) : TupI K H v e := by
  obtain ⟨p, xs, rfl, hp, ip, zp⟩ := i.tupE
  rw [iss_intE2 ip] at hp
  exact ⟨p, rfl, SqT.of (sb _ _ hp)⟩
theorem edge_bd2 {e : List Int} (h : ∃ s r t, e = [s, r, t] ∧ (0 ≤ s ∧ s < 64) ∧ (0 ≤ r ∧ r < 64) ∧ (0 ≤ t ∧ t < 64)) : e.length = 3 ∧ TS.Bd 64 e := by
  obtain ⟨s, r, t, rfl, hs, hr, ht⟩ := h
  refine ⟨rfl, fun m hm => ?_⟩
  simp only [List.mem_cons, List.not_mem_nil, or_false] at hm
  rcases hm with rfl | rfl | rfl <;> omega
theorem sortQ_of {g : G} {σ : L2.St} {H : Hp} {env : List Ev} (R : Rep K g σ H env) {p : Addr} {xs : List V} {es : List (List Int)} (hp : g.B p = some (.lst xs) ∨ g.B p = some (.tup xs)) (ip : Iss K g.B xs (es.map intT)) (ok : okE es = true) {Q : VK}
    (k : ∀ ys r, Iss K g.B ys ((sortE es).map intT) → ys.length ≤ 100000 → H r = none → Q (.ref r) (upd H r (.lst ys))) : rSortQ K 3 64 [.ref p] H Q := by
  have sb := R.ok.sb
  have hl : xs.length = es.length := by rw [ip.length, List.length_map]
  have ok2 := okE_at ok
  refine ⟨p, xs, rfl, hp.imp (fun h => SqL.of (sb _ _ h)) (fun h => SqT.of (sb _ _ h)), by rw [hl]; exact ok2.1, fun x hx => ?_, fun ys r pm pw hr => ?_⟩
  · obtain ⟨j, hj⟩ := List.mem_iff_getElem?.mp hx
    obtain ⟨d, ed, id⟩ := ip.get hj
    rw [List.getElem?_map, Option.map_eq_some_iff] at ed
    obtain ⟨e, ee, rfl⟩ := ed
    have := edge_bd2 (ok2.2 e (List.mem_of_getElem? ee))
    exact ⟨e, row_tupI sb id, this.1, this.2⟩
  · obtain ⟨ss, h1, h2⟩ := iss_ed ip ys pm
    have w : ss.Pairwise fun a b => TS.code 64 a ≤ TS.code 64 b := by
      have key : ∀ {ys : List V} {ss : List (List Int)}, Iss K g.B ys (ss.map intT) → ys.Pairwise (fun x y => ∀ n m, TupI K H x n → TupI K H y m → TS.code 64 n ≤ TS.code 64 m) → ss.Pairwise fun a b => TS.code 64 a ≤ TS.code 64 b := fun {ys ss} i w => by
        induction ss generalizing ys with
        | nil => exact .nil
        | cons e es ih =>
          cases i with
          | cons a t =>
            obtain ⟨w1, w2⟩ := List.pairwise_cons.mp w
            refine List.pairwise_cons.mpr ⟨fun f hf => ?_, ih t w2⟩
            obtain ⟨j, hj⟩ := List.mem_iff_getElem?.mp hf
            obtain ⟨y, ey, iy⟩ := t.getD (i := j) (d := intT f) (by rw [List.getElem?_map, hj]; rfl)
            exact w1 y (List.mem_of_getElem? ey) e f (row_tupI sb a) (row_tupI sb iy)
      exact key h2 pw
    have := sortE_unique ok h1 w
    subst this
    exact k ys r h2 (by rw [h2.length, List.length_map, h1.length_eq]; have := ok2.1; omega) hr
theorem o_sortE : OpN K (rSortQ K 3 64) sortED := ⟨fun {g σ H env vs xs z Q} R i e k => by
  unfold sortED at e
  split at e
  · obtain ⟨v, rfl, i1⟩ := i.one_inv
    obtain ⟨p, ys, rfl, hp, ip, zp⟩ := i1.lstE
    split at e
    · rename_i es er
      split at e
      · rename_i ok
        cases e
        rw [rowsD_eq er] at ip
        exact sortQ_of R (.inl hp) ip ok fun ys r iy z hr => new_lst R iy z k r hr
      · cases e
    · cases e
  · obtain ⟨v, rfl, i1⟩ := i.one_inv
    obtain ⟨p, ys, rfl, hp, ip, zp⟩ := i1.tupE
    split at e
    · rename_i es er
      split at e
      · rename_i ok
        cases e
        rw [rowsD_eq er] at ip
        exact sortQ_of R (.inr hp) ip ok fun ys r iy z hr => new_lst R iy z k r hr
      · cases e
    · cases e
  · cases e⟩
end
end LR
set_option Elab.async false
set_option maxRecDepth 100000
set_option linter.all false
set_option maxHeartbeats 4000000
set_option Elab.async false
set_option maxRecDepth 100000
set_option linter.all false
set_option maxHeartbeats 4000000
set_option Elab.async false
set_option maxRecDepth 100000
set_option linter.all false
set_option maxHeartbeats 4000000
set_option Elab.async false
set_option maxRecDepth 100000
set_option linter.all false
set_option maxHeartbeats 4000000
namespace LR
open PySem PySem.Spec PyProof.Rows L2
/-! # the data layer: ladders, constants of classes, list(o) -/
theorem Room.dl1 {k : Nat} {A : Around} (r : Room k A) : A.units + 1 < cLine := Nat.lt_of_le_of_lt (Nat.add_le_add_left (by decide) _) r.units
/-! ## ladders -/
end LR
set_option Elab.async false
set_option maxRecDepth 100000
set_option linter.all false
set_option maxHeartbeats 4000000
namespace LR
open PySem PySem.Spec PyProof.Rows L2
/-! # the data layer: the law itself -/
section
variable {P : Program} {w : World} {K : PySem.W.Frag} {mg : Str → Option Value} {base : Heap}
def g0 (H : Hp) : G := { H0 := H, M0 := fun _ => False, M := fun _ => False, B := H, P := fun _ => none, B0 := H, X := fun _ => none, F := fun _ => [] }
theorem g0_enter {H : Hp} : Enter (g0 H) H :=
  ⟨rfl, rfl, rfl, rfl, rfl, rfl, ⟨Same.rfl', fun _ h => h.elim, fun _ _ h _ => h, fun _ _ _ _ h => h, fun _ h => h.elim, (fun a o e => nomatch (show (none : Option HO) = some o from e)), fun _ h => h.elim, fun _ _ _ _ e => e, fun _ h => (no_xa rfl h).elim⟩⟩
/-- the law keeps its promise where its body leads to True from every script -/
theorem law_dl {st : Stmt} {N : List Str} {k : Nat} {f : Addr} {fd : FuncData} (F : Fun K "law" "law" st f fd) (S : FnScope N ["script"] (defScope st)) (hN : 1 ≤ N.length)
    (hbody : ∀ (cdv : Value) (A : Around) (outer : List Env) (s : Shared) (H : Hp) (E : XK), Room k (A.deeper (envOfC "law" (defScope st) s.heap.objs.size f cdv)) →
      ∃ ds, QSs (cxOf CX0 P w K mg base N "law" (defScope st) f cdv A outer s H E).nox WF (defBody st) ds ∧ ∀ ns : List Int, ds (Dn.ofF (fun _ => False) (fun r => r = .d (.bl true))) (envOf [.scr ns] N.length)) :
    FnOk P w K mg base CX0 (k + 1) f fd ["script"] (spLaw K) := by
  refine F.ok S (fun vs H Q E h => ?_) (fun cdv A outer s H vs Q E hr h => ?_)
  · obtain ⟨a, ns, rfl, _⟩ := h; rfl
  obtain ⟨a, ns, rfl, hS, kk⟩ := h
  obtain ⟨ds, hq, hd⟩ := hbody cdv A outer s H E hr
  refine ⟨_, hq, ?_⟩
  refine body_dl (X := (cxOf CX0 P w K mg base N "law" (defScope st) f cdv A outer s H E).nox) (E := fun _ _ _ => False) (f := fun as Ed Qd => ∃ ns, as = [.scr ns] ∧ Ed = (fun _ => False) ∧ Qd = (fun r => r = .d (.bl true))) (fun _ _ _ _ h => h.elim) (fun as Ed Qd hf => ?_) (Q := Q) ?_
  · obtain ⟨ns, rfl, rfl, rfl⟩ := hf
    exact ⟨hN, hd ns⟩
  refine ⟨g0 H, [.scr ns], fun _ => False, fun r => r = .d (.bl true), g0_enter, .scr (ScrAt.of hS (fun _ h => ?_) fun _ h => ?_) .nil, ⟨ns, rfl, rfl, rfl⟩, fun v r H' g' le w ir e => ?_, fun _ _ _ _ _ _ _ _ z => z.elim⟩
  · exact (h.elim (fun z => z) fun z => no_xa rfl z).elim
  · exact (h.elim (fun z => z) fun z => no_xa rfl z).elim
  · subst e
    rw [Is.blE ir]; exact kk H'
theorem MetIn.dl {C : Addr} {m qual : Str} {st : Stmt} {N ps : List Str} {k : Nat} {f : Fs} (c : Cls K C) (D : MetIn K C m qual st ps) (S : FnScope N ps (defScope st)) (hl : ∀ as Ed Qd, f as Ed Qd → as.length = ps.length) (hN : ps.length ≤ N.length)
    (hbody : ∀ (fa : Addr) (cdv : Value) (A : Around) (outer : List Env) (s : Shared) (H : Hp) (E : XK), Room k (A.deeper (envOfC qual (defScope st) s.heap.objs.size fa cdv)) →
      ∃ ds, QSs (cxOf (L2.CX P w) P w K mg base N qual (defScope st) fa cdv A outer s H E) (fun cls d _ H => E cls d H) (defBody st) ds ∧ ∀ as Ed Qd, f as Ed Qd → ds (Dn.ofF Ed Qd) (envOf as N.length)) : MetX P w K mg base (k + 1) C m (spF K f) := by
  refine D.metX c S (spF_len hl) fun fa cdv A outer s H vs Q E hr h => ?_
  obtain ⟨ds, hq, hd⟩ := hbody fa cdv A outer s H E hr
  exact ⟨_, hq, body_dl (X := cxOf (L2.CX P w) P w K mg base N qual (defScope st) fa cdv A outer s H E) (fun _ _ _ _ h => h) (fun as Ed Qd hf => ⟨by rw [hl as Ed Qd hf]; exact hN, hd as Ed Qd hf⟩) h⟩
end
/-! ## data for the law's own comparing -/
mutual
def dtF : Dt → D
  | .non => .non
  | .bl b => .bl b
  | .int i => .int i
  | .str x => .str x
  | .lst l => .lst (dtFs l)
  | .tup l => .tup (dtFs l)
def dtFs : List Dt → List D
  | [] => []
  | d :: r => dtF d :: dtFs r
end
section
variable {K : PySem.W.Frag} {B H : Hp}
mutual
theorem dtF_at (s : Same B H) : ∀ {v : V} (d : Dt), Is K B v (dtF d) → At H v d
  | _, .non, h => by cases h; exact .non
  | _, .bl b, h => by cases h; exact .bl b
  | _, .int i, h => by cases h; exact .int i
  | _, .str x, h => by cases h; exact .str x
  | _, .lst l, h => by
    rw [dtF] at h
    cases h with | lst h a z => exact .lst (s _ _ h) (dtFs_at s l a) z
  | _, .tup l, h => by
    rw [dtF] at h
    cases h with | tup h a z => exact .tup (s _ _ h) (dtFs_at s l a) z
theorem dtFs_at (s : Same B H) : ∀ {vs : List V} (l : List Dt), Iss K B vs (dtFs l) → Ats H vs l
  | _, [], h => by
    rw [dtFs] at h; cases h; exact .nil
  | _, d :: r, h => by
    rw [dtFs] at h
    cases h with | cons a t => exact .cons (dtF_at s d a) (dtFs_at s r t)
end
end
mutual
theorem dtF_inj : ∀ (a b : Dt), dtF a = dtF b → a = b
  | .lst l, .lst m, h => by rw [dtF, dtF] at h; injection h with h; rw [dtFs_inj l m h]
  | .tup l, .tup m, h => by rw [dtF, dtF] at h; injection h with h; rw [dtFs_inj l m h]
  | .non, .non, _ => rfl
  | .bl b, .bl c, h => by rw [dtF, dtF] at h; injection h with h; rw [h]
  | .int b, .int c, h => by rw [dtF, dtF] at h; injection h with h; rw [h]
  | .str b, .str c, h => by rw [dtF, dtF] at h; injection h with h; rw [h]
  | .lst _, .non, h => by rw [dtF, dtF] at h; cases h
  | .lst _, .bl _, h => by rw [dtF, dtF] at h; cases h
  | .lst _, .int _, h => by rw [dtF, dtF] at h; cases h
  | .lst _, .str _, h => by rw [dtF, dtF] at h; cases h
  | .lst _, .tup _, h => by rw [dtF, dtF] at h; cases h
  | .tup _, .non, h => by rw [dtF, dtF] at h; cases h
  | .tup _, .bl _, h => by rw [dtF, dtF] at h; cases h
  | .tup _, .int _, h => by rw [dtF, dtF] at h; cases h
  | .tup _, .str _, h => by rw [dtF, dtF] at h; cases h
  | .tup _, .lst _, h => by rw [dtF, dtF] at h; cases h
  | .non, .bl _, h => by rw [dtF, dtF] at h; cases h
  | .non, .int _, h => by rw [dtF, dtF] at h; cases h
  | .non, .str _, h => by rw [dtF, dtF] at h; cases h
  | .non, .lst _, h => by rw [dtF, dtF] at h; cases h
  | .non, .tup _, h => by rw [dtF, dtF] at h; cases h
  | .bl _, .non, h => by rw [dtF, dtF] at h; cases h
  | .bl _, .int _, h => by rw [dtF, dtF] at h; cases h
  | .bl _, .str _, h => by rw [dtF, dtF] at h; cases h
  | .bl _, .lst _, h => by rw [dtF, dtF] at h; cases h
  | .bl _, .tup _, h => by rw [dtF, dtF] at h; cases h
  | .int _, .non, h => by rw [dtF, dtF] at h; cases h
  | .int _, .bl _, h => by rw [dtF, dtF] at h; cases h
  | .int _, .str _, h => by rw [dtF, dtF] at h; cases h
  | .int _, .lst _, h => by rw [dtF, dtF] at h; cases h
  | .int _, .tup _, h => by rw [dtF, dtF] at h; cases h
  | .str _, .non, h => by rw [dtF, dtF] at h; cases h
  | .str _, .bl _, h => by rw [dtF, dtF] at h; cases h
  | .str _, .int _, h => by rw [dtF, dtF] at h; cases h
  | .str _, .lst _, h => by rw [dtF, dtF] at h; cases h
  | .str _, .tup _, h => by rw [dtF, dtF] at h; cases h
theorem dtFs_inj : ∀ (a b : List Dt), dtFs a = dtFs b → a = b
  | [], [], _ => rfl
  | x :: r, y :: t, h => by
    rw [dtFs, dtFs] at h
    injection h with h1 h2
    rw [dtF_inj x y h1, dtFs_inj r t h2]
  | [], _ :: _, h => by rw [dtFs, dtFs] at h; cases h
  | _ :: _, [], h => by rw [dtFs, dtFs] at h; cases h
end
/-- plain data of depth n at most: what the law's comparing takes -/
def okp : Nat → D → Bool
  | _, .non => true
  | _, .bl _ => true
  | _, .int _ => true
  | _, .str _ => true
  | n + 1, .lst l => l.all (okp n)
  | n + 1, .tup l => l.all (okp n)
  | _, _ => false
theorem okp_dt : ∀ (n : Nat) (x : D), okp n x = true → ∃ d, dtF d = x ∧ dep d ≤ n := by
  have alls : ∀ (n : Nat), (∀ x, okp n x = true → ∃ d, dtF d = x ∧ dep d ≤ n) → ∀ l : List D, l.all (okp n) = true → ∃ m, dtFs m = l ∧ deps m ≤ n := fun n ih l => by
    induction l with
    | nil => exact fun _ => ⟨[], by rw [dtFs], by rw [deps]; omega⟩
    | cons x r ih2 =>
      intro h
      rw [List.all_cons, Bool.and_eq_true] at h
      obtain ⟨d, e1, e2⟩ := ih x h.1
      obtain ⟨m, e3, e4⟩ := ih2 h.2
      exact ⟨d :: m, by rw [dtFs, e1, e3], by rw [deps]; omega⟩
  have flat : ∀ (n : Nat) (x : D), (∀ l, x ≠ .lst l) → (∀ l, x ≠ .tup l) → okp n x = true → ∃ d, dtF d = x ∧ dep d ≤ n := fun n x h1 h2 h => by
    cases x with
    | non => exact ⟨.non, by rw [dtF], by simp [dep]⟩
    | bl b => exact ⟨.bl b, by rw [dtF], by simp [dep]⟩
    | int b => exact ⟨.int b, by rw [dtF], by simp [dep]⟩
    | str b => exact ⟨.str b, by rw [dtF], by simp [dep]⟩
    | lst l => exact absurd rfl (h1 l)
    | tup l => exact absurd rfl (h2 l)
    | _ => cases n <;> simp [okp] at h
  intro n
  induction n with
  | zero =>
    intro x h
    refine flat 0 x (fun l e => ?_) (fun l e => ?_) h
    · subst e; simp [okp] at h
    · subst e; simp [okp] at h
  | succ n ih =>
    intro x h
    by_cases c : ∃ l, x = .lst l
    · obtain ⟨l, rfl⟩ := c
      obtain ⟨m, e1, e2⟩ := alls n ih l (by simpa [okp] using h)
      exact ⟨.lst m, by rw [dtF, e1], by rw [dep]; omega⟩
    by_cases c2 : ∃ l, x = .tup l
    · obtain ⟨l, rfl⟩ := c2
      obtain ⟨m, e1, e2⟩ := alls n ih l (by simpa [okp] using h)
      exact ⟨.tup m, by rw [dtF, e1], by rw [dep]; omega⟩
    exact flat _ x (fun l e => c ⟨l, e⟩) (fun l e => c2 ⟨l, e⟩) h
end LR
set_option Elab.async false
set_option maxRecDepth 100000
set_option linter.all false
set_option maxHeartbeats 4000000
namespace LR
open PySem PySem.Spec PyProof.Rows L2
/-! # the data layer: zip of a tuple and a list; reversed of a tuple -/
section
variable {X : Cx} {W : WX} {tg e e2 : Expr} {p pos : Pos}
/-- what holds between two statements -/
def dCut (a b : DS) : DS := fun Dd env => ∃ P : List Ev → Prop, a { Dd with nx := P } env ∧ ∀ e, P e → b Dd e
theorem qss_cut {st : Stmt} {rest : List Stmt} {a b : DS} (h : QS X W st a) (t : QSs X W rest b) : QSs X W (st :: rest) (dCut a b) := (pss_cons h t).mono fun D σ H ⟨g, env, Dd, R, ⟨P, h, hb⟩, l⟩ =>
  ⟨g, env, { Dd with nx := P }, R, h, ⟨fun σ' H' g' env' le R' q => ⟨g', env', Dd, R', hb _ q, l.mono le⟩, l.bk, l.ct, l.rt, l.er⟩⟩
/-! ## is, is not of two bools -/
end
end LR
set_option Elab.async false
set_option maxRecDepth 100000
set_option linter.all false
set_option maxHeartbeats 4000000
set_option Elab.async false
set_option maxRecDepth 100000
set_option linter.all false
set_option maxHeartbeats 4000000
set_option Elab.async false
set_option maxRecDepth 100000
set_option linter.all false
set_option maxHeartbeats 4000000
namespace LR
open PySem PySem.Spec PyProof.Rows L2
/-! # the data layer: get of a call's dict, a star in a display -/
section
variable {X : Cx} {W : WX} {e a b : Expr} {es : List Expr}
def dDget1 (d : DE) (pk : PF) : DE := fun env Ed Q => d env Ed (asD fun x => ∃ y z, pk env = some y ∧ dget1D x y = some z ∧ Q (.d z))
theorem qe_dget1 {d : DE} {pk : PF} {apos cpos : Pos} (hu : X.A.units + 1 < cLine) (hd : QE X W a d) (hk : QP X b pk) (m : M1 X a "get" apos b cpos) : QE X W (.Call (.Attribute a "get" apos) [b] [] cpos) (dDget1 d pk) := (pe_dget1 hu hd (hk W) m).mono fun σ H Q ⟨g, env, Ed, Qd, R, h, kv, kx⟩ => by
  refine lift.useD R h (fun v x H1 g1 l1 R1 i1 ⟨y, z, ey, ez, q⟩ => ?_) kx
  unfold dget1D at ez
  split at ez
  · rename_i ks ds k _
    obtain ⟨p, kvs, rfl, hp, hk, hi, _⟩ := i1.dicE
    refine ⟨p, rfl, .inl ⟨_, .inl (R1.ok.sb _ _ hp)⟩, lift.useP R1 ey fun u H2 g2 l2 R2 i2 => ?_⟩
    cases ez
    refine ⟨valV kvs (.inl k), by rw [i2.intE]; exact DGet.k (k := .inl _) (R2.ok.sb _ _ (l2.b _ _ hp)), ?_⟩
    obtain ⟨h1, h2, _⟩ := dk_get hk hi k
    cases c : dkGet ks ds k with
    | none => rw [c] at q; rw [h2 c]; exact kv _ (.d .non) H2 g2 (l1.trans l2) R2 .non q
    | some d => rw [c] at q; obtain ⟨w, ew, iw⟩ := h1 d c; rw [ew]; exact kv _ (.d d) H2 g2 (l1.trans l2) R2 (Is.mono l2.b iw) q
  · cases ez
/-- [.., *e, ..] -/
def daStar (d : DE) (r : DA) : DA := fun env Ed Q => d env Ed (asD fun x => ∃ l, (x = .lst l ∨ x = .tup l) ∧ r env Ed fun as => Q (l.map Ar.d ++ as))
theorem isAs_app {K : PySem.W.Frag} {g : G} : ∀ {xs : List V} {l : List D} {vs as}, Iss K g.B xs l → IsAs K g vs as → IsAs K g (xs ++ vs) (l.map Ar.d ++ as)
  | [], [], _, _, .nil, t => t
  | _ :: _, _ :: _, _, _, .cons h r, t => .d h (isAs_app r t)
theorem qa_star {d r p} (h : QE X W e d) (t : QA X W es r) (hs : starEach (.Starred e p :: es) X.env = (true, eval e X.env) :: starEach es X.env := by rfl) : QA X W (.Starred e p :: es) (daStar d r) := (StX.pa_star h t hs).mono fun σ H Q ⟨g, env, Ed, Qd, R, h, kv, kx⟩ => by
  refine lift.useD R h (fun v x H1 g1 l1 R1 i1 ⟨l, hl, q⟩ => ?_) kx
  have fin : ∀ q0 xs, v = .ref q0 → (SqT X.K H1 q0 xs ∨ SqL X.K H1 q0 xs) → Iss X.K g1.B xs l → ∃ p xs, v = V.ref p ∧ (SqT X.K H1 p xs ∨ SqL X.K H1 p xs) ∧ liftA X.K W r σ H1 fun ys H2 => Q (xs ++ ys) H2 := fun q0 xs ev hs i => ⟨q0, xs, ev, hs, g1, env, Ed, _, R1, q, fun vs as H3 g3 l3 R3 i3 q3 => kv _ _ H3 g3 (l1.trans l3) R3 (isAs_app (i.mono l3.b) i3) q3, kx.mono l1⟩
  rcases hl with rfl | rfl
  · obtain ⟨p, xs, rfl, hp, ip, _⟩ := Is.lstE i1
    exact fin p xs rfl (.inr (SqL.of (R1.ok.sb _ _ hp))) ip
  · obtain ⟨p, xs, rfl, hp, ip, _⟩ := Is.tupE i1
    exact fin p xs rfl (.inl (SqT.of (R1.ok.sb _ _ hp))) ip
end
end LR
set_option Elab.async false
set_option maxRecDepth 100000
set_option linter.all false
set_option maxHeartbeats 4000000
namespace LR
open PySem PySem.Spec PyProof.Rows L2
/-! # rows of edges: equal to themselves, sorted -/
theorem eqD_refl {x : D} (n : Nat) (h1 : okn 30 x = true) (h3 : nbn n x = true) : eqD x x = some (.bl true) := eqD_nb n h1 h1 h3 h3 ⟨fun _ => rfl, fun _ => rfl⟩
theorem neD_refl {x : D} (n : Nat) (h1 : okn 30 x = true) (h3 : nbn n x = true) : neD x x = some (.bl false) := by
  unfold neD; rw [eqD_refl n h1 h3]; rfl
theorem intT_inj {a b : List Int} (h : intT a = intT b) : a = b := by
  have h : a.map D.int = b.map D.int := by injection h
  exact (List.map_inj_right (fun x y e => by injection e)).mp h
theorem strOk_owners (os : List Bool) : PyData.strOk (strO os) = true := by
  unfold PyData.strOk strO
  simp
  exact ⟨fun _ => by decide, fun _ => by decide⟩
theorem neD_owners (os : List Bool) : neD (.str (strO os)) (.str (strO os)) = some (.bl false) := neD_refl 0 (strOk_owners os) rfl
theorem sortED_ed {es : List (List Int)} (h : okE es = true) : sortED [edL es] = some (edL (sortE es)) := by
  show (match rowsD (es.map intT) with | some es => if okE es = true then some (edL (sortE es)) else none | none => none) = _
  rw [rowsD_ed]
  show (if okE es = true then _ else none) = _
  rw [if_pos h]
theorem okE_ed {h n : Int} {es : List (List Int)} (O : ∀ e ∈ es, EdgeOk h n e) (hh : h ≤ 3) (hn : n ≤ 9) (hl : es.length ≤ 63) : okE es = true := by
  unfold okE
  rw [Bool.and_eq_true, decide_eq_true_eq, List.all_eq_true]
  refine ⟨by omega, fun e he => ?_⟩
  obtain ⟨s, r, t, rfl, a, b, c⟩ := O e he
  simp
  omega
theorem elt_pw {h n : Int} {ss : List (List Int)} (O : ∀ e ∈ ss, EdgeOk h n e) (hh : h ≤ 3) (hn : n ≤ 9) (pw : ss.Pairwise elt) : ss.Pairwise fun a b => TS.code 64 a ≤ TS.code 64 b := by
  refine pw.imp_of_mem fun {a b} ha hb e => ?_
  obtain ⟨s, r, t, s', r', t', rfl, rfl, o⟩ := e
  obtain ⟨_, _, _, e1, a1, a2, a3⟩ := O _ ha
  obtain ⟨_, _, _, e2, b1, b2, b3⟩ := O _ hb
  cases e1; cases e2
  rw [code3, code3]
  omega
/-- the edges that a web keeps -/
theorem kept_sorted {h n : Int} {es ss : List (List Int)} (O : ∀ e ∈ es, EdgeOk h n e) (hh : h ≤ 3) (hn : n ≤ 9) (hl : es.length ≤ 63) (p : ss.Perm es) (pw : ss.Pairwise elt) : ss = sortE es :=
  sortE_unique (okE_ed O hh hn hl) p (elt_pw (fun e he => O e (p.mem_iff.mp he)) hh hn pw)
theorem prng1_nat {p : PF} {env : List Ev} {n : Nat} (h : p env = some (nat n)) (hn : n ≤ 100000) : (ipRng1 p).p env = some ((List.range n).map nat) := by
  show prng1 p env = _
  unfold prng1
  rw [h]
  show (if (-100000 : Int) ≤ (n : Int) ∧ (n : Int) ≤ 100000 then some (rgD 0 ((n : Int).toNat)) else none) = _
  rw [if_pos (by omega), rgD_nat]
theorem imds_intsL : ∀ l : List Int, imds (l.map .int) = true
  | [] => by simp [imds]
  | x :: l => by rw [List.map_cons, imds, imds_intsL l]; simp [imd]
theorem pand_b {p q : PF} {env : List Ev} {a b : Bool} (h : p env = some (.bl a)) (h2 : q env = some (.bl b)) : pand p q env = some (.bl (a && b)) :=
  pand_of h (fun z => by rw [z, Bool.true_and]; exact h2) fun z => by rw [z]; rfl
theorem por_b {p q : PF} {env : List Ev} {a b : Bool} (h : p env = some (.bl a)) (h2 : q env = some (.bl b)) : por p q env = some (.bl (a || b)) :=
  por_of h (fun z => by rw [z, Bool.false_or]; exact h2) fun z => by rw [z]; rfl
theorem some_dec {p q : Prop} [Decidable p] [Decidable q] (h : p ↔ q) : some (D.bl (decide p)) = some (D.bl (decide q)) := by
  congr 2; rw [decide_eq_decide]; exact h
theorem some_nat {i : Int} {n : Nat} (h : i = n) : some (D.int i) = some (nat n) := by rw [h]
end LR
set_option Elab.async false
set_option maxRecDepth 100000
set_option linter.all false
set_option maxHeartbeats 4000000
namespace LR
open PySem PySem.Spec PyProof.Rows L2
/-! # dict comprehensions with ints for keys; two names for one list, for two statements -/
theorem it_gen {J : It} {n : Nat} {G : Hp → Prop} {Y : Nat → Hp → V → Hp → Prop} (w : Walk J n G Y) {Body : (Hp → Prop) → V → Hp → Prop} {H0 : Hp} {Qd : Hp → Prop} (Pv : Nat → Hp → Prop) (h0 : Pv 0 H0) (hG : ∀ i H, i ≤ n → Pv i H → G H)
    (hs : ∀ i x H H', i < n → Pv i H → Y i H x H' → Body (Pv (i + 1)) x H') (hd : ∀ H, Pv n H → Qd H) :
    ∃ W : Nat → Nat → Hp → Prop, (∃ m, W 0 m H0) ∧ ∀ i m H, W i m H → (J.stop i H ∧ Qd H) ∨ (J.go i H ∧ ∃ Nx : Hp → Prop, (∀ H', Nx H' → ∃ m', m' < m ∧ W (i + 1) m' H') ∧ ∀ x H', J.yld i H x H' → Body Nx x H') := by
  refine ⟨fun i m H => i ≤ n ∧ m = n - i ∧ Pv i H, ⟨n, Nat.zero_le _, rfl, h0⟩, ?_⟩
  rintro i m H ⟨hi, rfl, p⟩
  have g := hG i H hi p
  by_cases c : i = n
  · subst c
    exact .inl ⟨w.stops H g, hd H p⟩
  · have il : i < n := by omega
    exact .inr ⟨w.goes i H il g, Pv (i + 1), fun H' q => ⟨n - (i + 1), by omega, by omega, rfl, q⟩, fun x H' y => hs i x H H' il p (w.yields i H x H' il g y)⟩
def dDc (vs : List Nat) (it : DI) (b : DG) (dt : DT) (pk : PF) (de : DE) : DE := fun env Ed Q => ownFree env vs = true ∧ it env Ed fun l => ∃ I : Nat → List Int → List D → Prop, I 0 [] [] ∧
  (∀ i x ks ds, l[i]? = some x → I i ks ds → onS (b x (wipeE env vs)) fun e2 => dt e2 (fun _ => False) fun c => (c = true → ∃ k : Int, pk e2 = some (.int k) ∧ de e2 (fun _ => False) (asD fun y => I (i + 1) (dkPut ks ds k y).1 (dkPut ks ds k y).2)) ∧ (c = false → I (i + 1) ks ds)) ∧
  ∀ ks ds, I l.length ks ds → Q (.fr (.dk ks ds))
section
variable {K : PySem.W.Frag} {W : WX} {σ : L2.St} {H : Hp} {Q : VK}
theorem lift_dc {vs : List Nat} {it : DI} {b : DG} {dt : DT} {pk : PF} {de : DE} (h : lift K W (dDc vs it b dt pk de) σ H Q) : tDc (liftI K W it) (liftG K vs b) (liftT K WF dt) (lift K WF (dP pk)) (lift K WF de) vs σ H Q := by
  obtain ⟨g, env, Ed, Qd, R, ⟨ow, h⟩, kv, kx⟩ := h
  refine ⟨g, env, Ed, _, R, h, fun J l H1 g1 l1 R1 rn ⟨I, I0, step, fin⟩ => ?_, kx⟩
  intro D hD
  obtain ⟨zl, Gd, Y, w, hgd, hy⟩ := rn
  have kx0 : ∀ {g σ env}, KX K WF g σ env (fun _ => False) := fun _ _ _ _ _ _ _ _ z => z.elim
  refine it_gen w (Qd := fun H => Q (.ref D) H) (Body := fun Nx x H' => liftG K vs b x (wipe σ vs) H' fun σ2 H2 => wipe σ2 vs = wipe σ vs ∧ liftT K WF dt σ2 H2 fun c H3 => if c = true then lift K WF (dP pk) σ2 H3 fun y H4 => lift K WF de σ2 H4 fun z H5 => ∃ kvs k, y = kV k ∧ H5 D = some (.dK kvs) ∧ kvs.length < sizeLine ∧ Nx (upd H5 D (.dK (putK kvs k z))) else Nx H3)
    (fun i H' => ∃ g' ks ds kvs, G.Le g1 g' ∧ Rep K g' σ H' env ∧ H' D = some (.dK kvs) ∧ kvs.map (·.1) = ks.map Sum.inl ∧ Iss K g'.B (kvs.map (·.2)) ds ∧ OwnAt K g' H' none (.ref D) (.dk ks ds) [D] ∧ kvs.length ≤ i ∧ Off g' [D] ∧ I i ks ds) ?_ (fun i H' hi ⟨g', ks, ds, kvs, l2, R2, _⟩ => hgd g' _ _ H' l2.b R2) ?_ ?_
  · obtain ⟨R2, o, ns⟩ := upd_dk (kvs := []) (ks := []) (ds := []) R1 hD rfl .nil (by decide)
    exact ⟨g1, [], [], [], .rfl, R2, upd_same, rfl, .nil, o, Nat.zero_le _, ns, I0⟩
  · rintro i x H2 H3 hi ⟨g2, ks, ds, kvs, l2, R2, hxs, hk2, hi2, o2, zl2, ns2, Ii⟩ y
    have S2 := R2.side o2 ns2
    obtain ⟨g3, dx, el, l3, S3, ix⟩ := hy i H2 x H3 hi y (g2.side H2 [D]) σ env l2.b S2
    obtain ⟨e2, eb, st⟩ := onS_some (step i dx ks ds el Ii)
    obtain ⟨g4, l4, eB, S4⟩ := S3.wipe vs
    refine ⟨g4, wipeE env vs, dx, e2, S4, by rw [eB]; exact ix, eb, fun σ2 g5 l5 R5 o => ⟨wipe_only o, g5, e2, fun _ => False, _, R5, st, fun c H4 g6 l6 R6 ⟨q1, q2⟩ => ?_, kx0⟩⟩
    cases c with
    | true =>
      rw [if_pos rfl]
      obtain ⟨k, ek, q1⟩ := q1 rfl
      refine lift.useP R6 ek fun u H5 g7 l7 R7 i7 => lift.useD R7 q1 (fun v yo H6 g8 l8 R8 i8 Inext => ?_) kx0
      have l38 := l4.trans (l5.trans (l6.trans (l7.trans l8)))
      obtain ⟨F', R9, sub⟩ := S3.unwipe l38 R8 o ow
      have l9 : G.Le g8 { g8 with F := F' } := ⟨rfl, rfl, fun _ h => h, Same.rfl', rfl, rfl, rfl⟩
      obtain ⟨RA, oA, nsA, lA, hA, _, _⟩ := Rep.back o2 (l3.trans (l38.trans l9)) R9
      have hD6 : H6 D = some (.dK kvs) := (hA D List.mem_cons_self).trans hxs
      have hb : kvs.length + 1 ≤ 100000 := by omega
      have hl : kvs.length = ks.length := by have := congrArg List.length hk2; simpa using this
      have hd : ds.length = ks.length := by have := hi2.length; simp at this; omega
      obtain ⟨h1, h2⟩ := dk_put (k := k) hk2 (hi2.mono lA.b) (v := v) (d := yo) i8
      have hz2 : (putK kvs (.inl k) v).length ≤ kvs.length + 1 := by
        have := congrArg List.length h1
        rw [List.length_map, List.length_map] at this
        have := (dkPut_len (k := k) (v := yo) hd.symm).2
        omega
      have pp := oA.pv D List.mem_cons_self
      refine ⟨kvs, .inl k, i7.intE, hD6, by rw [sizeLine_eq]; omega, _, (dkPut ks ds k yo).1, (dkPut ks ds k yo).2, putK kvs (.inl k) v, l2.trans lA, RA.ownR pp ⟨_, hD6⟩ (fun i => nsA i D List.mem_cons_self) (fun h => h), upd_same, h1, h2, ⟨.dk upd_same h1 h2 (by omega), by simp, fun a m => by rw [List.mem_singleton.mp m]; exact pp, oA.pin⟩, by omega, fun i p m h => nsA i p m h, Inext⟩
    | false =>
      rw [if_neg (by decide)]
      have l36 := l4.trans (l5.trans l6)
      obtain ⟨F', R9, sub⟩ := S3.unwipe l36 R6 o ow
      have l9 : G.Le g6 { g6 with F := F' } := ⟨rfl, rfl, fun _ h => h, Same.rfl', rfl, rfl, rfl⟩
      obtain ⟨RA, oA, nsA, lA, hA, tr, _⟩ := Rep.back o2 (l3.trans (l36.trans l9)) R9
      exact ⟨_, ks, ds, kvs, l2.trans lA, RA, (hA D List.mem_cons_self).trans hxs, hk2, hi2.mono lA.b, oA, by omega, nsA, q2 rfl⟩
  · rintro H2 ⟨g2, ks, ds, kvs, l2, R2, hxs, hk2, hi2, o2, zl2, ns2, Ii⟩
    exact kv _ (.fr (.dk ks ds)) H2 g2 (l1.trans l2) R2 ⟨_, o2, ns2⟩ (fin ks ds Ii)
end
section
variable {X : Cx} {W : WX} {kx vx tg iter : Expr} {ifs : List Expr} {scope : Scope} {own : List (Str × Nat)} {pos : Pos}
theorem qe_dc {it b dt pk de} (hc : X.calm = true) (hN : X.N.Nodup) (hi : QI X W tg iter it) (ok : BlkOk X.N X.env.scope scope own)
    (hg : ∀ (s : Shared) (H : Hp) (C : Addr) (cl : List (Str × Addr)) (fp : List Addr), QG (X.blk s H scope (compEnvC scope cl C X.env) fp) (own.map Prod.snd) tg b)
    (ht : ∀ (s : Shared) (H : Hp) (C : Addr) (cl : List (Str × Addr)) (fp : List Addr), QTs (X.blk s H scope (compEnvC scope cl C X.env) fp) WF ifs dt)
    (hk : ∀ (s : Shared) (H : Hp) (C : Addr) (cl : List (Str × Addr)) (fp : List Addr), QP (X.blk s H scope (compEnvC scope cl C X.env) fp) kx pk)
    (he : ∀ (s : Shared) (H : Hp) (C : Addr) (cl : List (Str × Addr)) (fp : List Addr), QE (X.blk s H scope (compEnvC scope cl C X.env) fp) WF vx de)
    (hs : ∀ x : Value, foldedSetIterable iter X.env x = pure x := by intro _; rfl) : QE X W (.DictComp kx vx [⟨tg, iter, ifs, 0⟩] scope pos) (dDc (own.map Prod.snd) it b dt pk de) :=
  (pe_dc (g := liftG X.K (own.map Prod.snd) b) (tt := liftT X.K WF dt) (tk := lift X.K WF (dP pk)) (tv := lift X.K WF de) hc hN hi ok hg ht (fun s H C cl fp => hk s H C cl fp WF) he hs).mono fun _ _ _ h => lift_dc h
end
/-! ## x = o[..]; x[k] = e, and x = o[..]; x.append(e) -/
theorem Foc.mono {K : PySem.W.Frag} {B H B' H' : Hp} {v0 : V} {o : Ow} {fs : List Addr} {ks : List Int} {v : V} {s : Ow} {gs : List Addr} (f : Foc K B H v0 o fs ks v s gs) (sb : Same B B') (hc : ∀ a ∈ fs, H' a = H a) : Foc K B' H' v0 o fs ks v s gs := by
  obtain ⟨at_, is_, pre, post, ef, cut⟩ := f
  refine ⟨at_, is_.mono sb fun a m => hc a (by rw [ef]; simp [m]), pre, post, ef, fun Bx Hx s2 fs2 sb2 i2 k => cut Bx Hx s2 fs2 (fun p o e => sb2 _ _ (sb _ _ e)) i2 fun a m => ?_⟩
  rw [k a m]
  refine hc a ?_
  rw [ef]
  rcases m with m | m <;> simp [m]
/-! ## l.remove(x), l.index(x) of data -/
end LR
set_option Elab.async false
set_option maxRecDepth 100000
set_option linter.all false
set_option maxHeartbeats 4000000
namespace LR
open PySem PySem.Spec PyProof.Rows L2
/-! # a comprehension over a list of the def's own -/
section
variable {X : Cx} {W : WX} {i j : Nat} {elt tg iter : Expr} {ifs : List Expr} {scope : Scope} {own : List (Str × Nat)} {pos spos py : Pos} {y : Str} {b : DG} {dt : DT} {de : DE}
/-! ## .. and over what one has lent, put into a name -/
theorem lift_loanF {K : PySem.W.Frag} {σ : L2.St} {H : Hp} {Q : VK} {d : DE} (h : lift K W (dLoanF d) σ H Q) : lift K W d σ H Q := by
  obtain ⟨g, env, Ed, Qd, R, h, kv, kx⟩ := h
  refine lift.use R.lend h (fun v r H1 g1 l1 R1 i1 ⟨l, er, sx, q⟩ => ?_) (kx_unlend R kx)
  subst er
  obtain ⟨l3, R3, im, _⟩ := R.unlend l1 R1
  obtain ⟨fs, oa, ns⟩ := i1
  obtain ⟨p, xs, rfl, rfl, hp, ix, z⟩ := oa.is_.lE
  have pp := oa.pv p (by simp)
  refine kv _ (.fr (.ls l)) H1 _ l3 R3 ⟨[p], ⟨.l hp (ix.less im sx) z, by simp, fun a m => ?_, fun _ h => by cases h⟩, fun j a m h => ?_⟩ q
  · rw [List.mem_singleton.mp m]
    refine ⟨?_, pp.nm, pp.n0, pp.np⟩
    by_cases c : ∃ i, p ∈ g.F i
    · exact unlent_own c
    · rw [unlent_not c]; exact pp.nb
  · rw [List.mem_singleton.mp m] at h
    obtain ⟨u, _, e2⟩ := R.lentAt l1 ⟨j, h⟩
    rw [pp.nb] at e2; cases e2
theorem qs_setLcL {it : DI} (w : Bool) (hc : X.calm = true) (hN : X.N.Nodup) (hy : X.N[i]? = some y) (hyl : X.env.scope.names.lookup y = some .local)
    (hsw : swapsWith (.ListComp elt [⟨tg, iter, ifs, 0⟩] scope pos) (some (.Name y py)) spos.line X.env = pure true) (hi : QI X W tg iter it) (ok : BlkOk X.N X.env.scope scope own)
    (hg : ∀ (s : Shared) (H : Hp) (C : Addr) (cl : List (Str × Addr)) (fp : List Addr), QG (X.blk s H scope (compEnvC scope cl C X.env) fp) (own.map Prod.snd) tg b)
    (ht : ∀ (s : Shared) (H : Hp) (C : Addr) (cl : List (Str × Addr)) (fp : List Addr), QTs (X.blk s H scope (compEnvC scope cl C X.env) fp) WF ifs dt)
    (he : ∀ (s : Shared) (H : Hp) (C : Addr) (cl : List (Str × Addr)) (fp : List Addr), QE (X.blk s H scope (compEnvC scope cl C X.env) fp) WF elt de) (hs : ∀ x, foldedSetIterable iter X.env x = pure x := by intro _; rfl) :
    QS X W (.Assign [.Name y py] (.ListComp elt [⟨tg, iter, ifs, 0⟩] scope pos) spos) (dSet w i (dLoanF (dLc (own.map Prod.snd) it b dt de))) :=
  (ps_setLc (g := liftG X.K (own.map Prod.snd) b) (tt := liftT X.K WF dt) (te := lift X.K WF de) hc hN hy hyl hsw hi ok hg ht he hs).mono fun _ _ _ h => lift_setT (fun h => lift_lc (lift_loanF h)) h
theorem qs_setLcPL {it : DIp} {pt pe : PF} (w : Bool) (hc : X.calm = true) (hN : X.N.Nodup) (hy : X.N[i]? = some y) (hyl : X.env.scope.names.lookup y = some .local)
    (hsw : swapsWith (.ListComp elt [⟨tg, iter, ifs, 0⟩] scope pos) (some (.Name y py)) spos.line X.env = pure true) (hi : QI X W tg iter it.di) (ok : BlkOk X.N X.env.scope scope own)
    (hg : ∀ (s : Shared) (H : Hp) (C : Addr) (cl : List (Str × Addr)) (fp : List Addr), QG (X.blk s H scope (compEnvC scope cl C X.env) fp) (own.map Prod.snd) tg b)
    (ht : ∀ (s : Shared) (H : Hp) (C : Addr) (cl : List (Str × Addr)) (fp : List Addr), QPTs (X.blk s H scope (compEnvC scope cl C X.env) fp) ifs pt)
    (he : ∀ (s : Shared) (H : Hp) (C : Addr) (cl : List (Str × Addr)) (fp : List Addr), QP (X.blk s H scope (compEnvC scope cl C X.env) fp) elt pe) (hs : ∀ x, foldedSetIterable iter X.env x = pure x := by intro _; rfl) :
    QS X W (.Assign [.Name y py] (.ListComp elt [⟨tg, iter, ifs, 0⟩] scope pos) spos) (dSet w i (dLoanF (dF (plc (own.map Prod.snd) it.p b pt pe)))) :=
  (ps_setLc (g := liftG X.K (own.map Prod.snd) b) (tt := liftT X.K WF (dPT pt)) (te := lift X.K WF (dP pe)) hc hN hy hyl hsw hi ok hg (fun s H C cl fp => ht s H C cl fp WF) (fun s H C cl fp => he s H C cl fp WF) hs).mono fun _ _ _ h => lift_setT (fun h => lift_lc ((lift_loanF h).imp fun env Ed Q ⟨l, e, q⟩ => plc_dLc e q)) h
end
end LR
set_option Elab.async false
set_option maxRecDepth 100000
set_option linter.all false
set_option maxHeartbeats 4000000
set_option Elab.async false
set_option maxRecDepth 100000
set_option linter.all false
set_option maxHeartbeats 4000000
set_option Elab.async false
set_option maxRecDepth 100000
set_option linter.all false
set_option maxHeartbeats 4000000
set_option Elab.async false
set_option maxRecDepth 100000
set_option linter.all false
set_option maxHeartbeats 4000000
set_option Elab.async false
set_option maxRecDepth 100000
set_option linter.all false
set_option maxHeartbeats 4000000
namespace LR
open PySem PySem.Spec PyProof.Rows L2
/-! # names that are not read any more behind a block -/
def dEnd (js : List Nat) (a : DS) : DS := fun Dd env => a { Dd with nx := fun e => Dd.nx (wipeE e js) } env
theorem qss_end {X : Cx} {W : WX} {sts : List Stmt} {a : DS} (js : List Nat) (h : QSs X W sts a) : QSs X W sts (dEnd js a) := PSs.mono h fun D σ H ⟨g, env, Dd, R, h, l⟩ =>
  ⟨g, env, { Dd with nx := fun e => Dd.nx (wipeE e js) }, R, h, ⟨fun σ' H' g' env' le R' q => by
    obtain ⟨g2, l2, _, R2⟩ := R'.dropE js
    exact l.nx _ _ _ _ (le.trans l2) R2 q, l.bk, l.ct, l.rt, l.er⟩⟩
end LR
set_option Elab.async false
set_option maxRecDepth 100000
set_option linter.all false
set_option maxHeartbeats 4000000
namespace LR
/-! # rows that a ladder holds: the mathematics -/
def gp (ls : List Int) (s t : Nat) : Int := gapI ls s t
section
variable {ls : List Int} (hb : ∀ l ∈ ls, 1 ≤ l)
include hb
theorem gp_is {s t : Nat} (h : s ≤ t) : IsGap ls s t (gp ls s t) := by
  have := isGap_gapI hb (u := s) (w := t) (by omega) (by omega)
  rwa [Int.toNat_natCast, Int.toNat_natCast, Nat.min_eq_left h, Nat.max_eq_right h] at this
theorem gp_of {s t : Nat} {g : Int} (h : s ≤ t) (x : IsGap ls s t g) : gp ls s t = g := (gp_is hb h).one x
theorem gp_split {s t u : Nat} (h1 : s ≤ t) (h2 : t ≤ u) : gp ls s u = max (gp ls s t) (gp ls t u) := by
  obtain ⟨a0, a1, a2⟩ := gp_is hb h1
  obtain ⟨b0, b1, b2⟩ := gp_is hb h2
  refine gp_of hb (by omega) ⟨by omega, fun m z c d e => ?_, ?_⟩
  · by_cases q : m < t
    · have := a1 m z c q e; omega
    · have := b1 m z (by omega) d e; omega
  · by_cases q : gp ls s t ≤ gp ls t u
    · rw [Int.max_eq_right q]
      rcases b2 with b2 | ⟨m, c, d, e⟩
      · exact .inl b2
      · exact .inr ⟨m, by omega, d, e⟩
    · rw [Int.max_eq_left (by omega)]
      rcases a2 with a2 | ⟨m, c, d, e⟩
      · exact .inl a2
      · exact .inr ⟨m, c, by omega, e⟩
theorem gp_nil {s : Nat} : gp ls s s = 0 := gp_of hb (Nat.le_refl _) ⟨Int.le_refl _, fun m z c d e => by omega, .inl rfl⟩
theorem gp_one {s : Nat} {z : Int} (e : ls[s]? = some z) : gp ls s (s + 1) = z := by
  have := hb z (List.mem_of_getElem? e)
  refine gp_of hb (by omega) ⟨by omega, fun m y c d e2 => ?_, .inr ⟨s, Nat.le_refl _, by omega, e⟩⟩
  have : m = s := by omega
  subst this
  rw [e] at e2; cases e2; exact Int.le_refl _
end
theorem gp_left {ls ms : List Int} (h1 : ∀ l ∈ ls, 1 ≤ l) (h2 : ∀ l ∈ ls ++ ms, 1 ≤ l) {s t : Nat} (c : s ≤ t) (d : t ≤ ls.length) : gp (ls ++ ms) s t = gp ls s t := by
  obtain ⟨a0, a1, a2⟩ := gp_is h1 c
  refine gp_of h2 c ⟨a0, fun m z b1 b2 e => a1 m z b1 b2 (by rwa [List.getElem?_append_left (by omega)] at e), a2.imp id ?_⟩
  rintro ⟨m, b1, b2, e⟩
  exact ⟨m, b1, b2, by rwa [List.getElem?_append_left (by omega)]⟩
theorem gp_right {ls ms : List Int} (h1 : ∀ l ∈ ms, 1 ≤ l) (h2 : ∀ l ∈ ls ++ ms, 1 ≤ l) {s t : Nat} (c : s ≤ t) : gp (ls ++ ms) (ls.length + s) (ls.length + t) = gp ms s t := by
  obtain ⟨a0, a1, a2⟩ := gp_is h1 c
  refine gp_of h2 (by omega) ⟨a0, fun m z b1 b2 e => a1 (m - ls.length) z (by omega) (by omega) (by rwa [List.getElem?_append_right (by omega)] at e), a2.imp id ?_⟩
  rintro ⟨m, b1, b2, e⟩
  exact ⟨ls.length + m, by omega, by omega, by rw [List.getElem?_append_right (by omega), show ls.length + m - ls.length = m by omega]; exact e⟩
/-! ## choices of steps -/
/-- t above s, the gap r between -/
def rel (ls : List Int) (s t : Nat) (r : Int) : Bool := decide (s < t) && decide (gp ls s t = r)
theorem rel_iff {ls s t r} : rel ls s t r = true ↔ s < t ∧ gp ls s t = r := by unfold rel; simp
/-- steps c, one more than the row has levels, with the row's gaps between -/
def Ch (ls : List Int) : List Int → List Nat → Prop
  | [], [s] => s ≤ ls.length
  | r :: row, s :: t :: c => rel ls s t r = true ∧ Ch ls row (t :: c)
  | _, _ => False
theorem Ch.ne {ls row c} (h : Ch ls row c) : ∃ s r, c = s :: r := by
  cases c with
  | nil => cases row <;> exact h.elim
  | cons s r => exact ⟨s, r, rfl⟩
theorem Ch.one {ls row s} (h : Ch ls row [s]) : row = [] := by
  cases row with
  | nil => rfl
  | cons r row => exact h.elim
/-- by places -/
theorem ch_iff {ls : List Int} : ∀ {row c}, Ch ls row c ↔ c.length = row.length + 1 ∧ (∀ s ∈ c, s ≤ ls.length) ∧ ∀ k s t r, c[k]? = some s → c[k + 1]? = some t → row[k]? = some r → rel ls s t r = true := by
  intro row
  induction row with
  | nil =>
    intro c
    match c with
    | [] => exact ⟨fun h => h.elim, fun h => by have := h.1; simp at this⟩
    | [s] => exact ⟨fun h => ⟨rfl, fun s' hs => by rw [List.mem_singleton.mp hs]; exact h, fun k s t r h1 h2 h3 => by simp at h3⟩, fun h => h.2.1 s List.mem_cons_self⟩
    | _ :: _ :: _ => exact ⟨fun h => h.elim, fun h => by have := h.1; simp at this⟩
  | cons r row ih =>
    intro c
    match c with
    | [] => exact ⟨fun h => h.elim, fun h => by have := h.1; simp at this⟩
    | [s] => exact ⟨fun h => h.elim, fun h => by have := h.1; simp at this⟩
    | s :: t :: c =>
      constructor
      · rintro ⟨h1, h2⟩
        obtain ⟨q1, q2, q3⟩ := ih.mp h2
        refine ⟨by rw [List.length_cons, q1, List.length_cons], fun x hx => ?_, fun k a b g e1 e2 e3 => ?_⟩
        · rcases List.mem_cons.mp hx with rfl | hx
          · have := q2 t List.mem_cons_self
            have := (rel_iff.mp h1).1
            omega
          · exact q2 x hx
        · cases k with
          | zero => simp at e1 e2 e3; subst e1 e2 e3; exact h1
          | succ k => exact q3 k a b g (by simpa using e1) (by simpa using e2) (by simpa using e3)
      · rintro ⟨q1, q2, q3⟩
        exact ⟨q3 0 s t r rfl rfl rfl, ih.mpr ⟨by simpa using q1, fun x hx => q2 x (List.mem_cons_of_mem _ hx), fun k a b g e1 e2 e3 => q3 (k + 1) a b g (by simpa using e1) (by simpa using e2) (by simpa using e3)⟩⟩
/-! ## the least choice -/
def stps (ls : List Int) : List Nat := List.range (ls.length + 1)
/-- where a choice of the row may begin -/
def bk (ls : List Int) : List Int → List Nat
  | [] => stps ls
  | r :: row => (stps ls).filter fun s => (bk ls row).any fun t => rel ls s t r
def greedy (ls : List Int) : List Int → Nat → List Nat
  | [], _ => []
  | r :: row, s => match (bk ls row).find? fun t => rel ls s t r with
    | some t => t :: greedy ls row t
    | none => []
def least (ls row : List Int) : List Nat := match bk ls row with
  | [] => []
  | s :: _ => s :: greedy ls row s
theorem mem_stps {ls : List Int} {s : Nat} : s ∈ stps ls ↔ s ≤ ls.length := by unfold stps; rw [List.mem_range]; omega
theorem mem_bk {ls : List Int} : ∀ {row s}, s ∈ bk ls row ↔ ∃ c, Ch ls row (s :: c) := by
  intro row
  induction row with
  | nil => intro s; unfold bk; rw [mem_stps]; exact ⟨fun h => ⟨[], h⟩, fun ⟨c, h⟩ => by cases c with | nil => exact h | cons => exact h.elim⟩
  | cons r row ih =>
    intro s
    unfold bk
    rw [List.mem_filter, List.any_eq_true]
    constructor
    · rintro ⟨_, t, h1, h2⟩
      obtain ⟨c, hc⟩ := ih.mp h1
      exact ⟨t :: c, h2, hc⟩
    · rintro ⟨c, h⟩
      cases c with
      | nil => exact h.elim
      | cons t c =>
        refine ⟨mem_stps.mpr ?_, t, ih.mpr ⟨c, h.2⟩, h.1⟩
        exact (ch_iff.mp (show Ch ls (r :: row) (s :: t :: c) from h)).2.1 s List.mem_cons_self
theorem bk_sorted {ls : List Int} : ∀ row, (bk ls row).Pairwise (· < ·)
  | [] => List.pairwise_lt_range
  | _ :: _ => List.Pairwise.filter _ List.pairwise_lt_range
theorem find_least {l : List Nat} {p : Nat → Bool} (h : l.Pairwise (· < ·)) {t : Nat} (e : l.find? p = some t) : t ∈ l ∧ p t = true ∧ ∀ u ∈ l, p u = true → t ≤ u := by
  induction l with
  | nil => simp at e
  | cons x r ih =>
    rw [List.find?_cons] at e
    obtain ⟨h1, h2⟩ := List.pairwise_cons.mp h
    cases c : p x with
    | true =>
      rw [c] at e; cases e
      exact ⟨List.mem_cons_self, c, fun u hu _ => (List.mem_cons.mp hu).elim (fun e => by omega) fun m => by have := h1 u m; omega⟩
    | false =>
      rw [c] at e
      obtain ⟨q1, q2, q3⟩ := ih h2 e
      exact ⟨List.mem_cons_of_mem _ q1, q2, fun u hu pu => (List.mem_cons.mp hu).elim (fun e => by rw [e, c] at pu; cases pu) fun m => q3 u m pu⟩
theorem greedy_ch {ls : List Int} : ∀ {row s}, s ∈ bk ls row → Ch ls row (s :: greedy ls row s) := by
  intro row
  induction row with
  | nil => intro s h; exact mem_stps.mp h
  | cons r row ih =>
    intro s h
    unfold greedy
    unfold bk at h
    obtain ⟨_, h2⟩ := List.mem_filter.mp h
    cases e : (bk ls row).find? fun t => rel ls s t r with
    | none =>
      obtain ⟨t, m, q⟩ := List.any_eq_true.mp h2
      have := List.find?_eq_none.mp e t m
      exact absurd q this
    | some t =>
      obtain ⟨q1, q2, _⟩ := find_least (bk_sorted row) e
      exact ⟨q2, ih q1⟩
theorem least_ne {ls row : List Int} : least ls row ≠ [] ↔ ∃ c, Ch ls row c := by
  unfold least
  cases e : bk ls row with
  | nil =>
    refine ⟨fun h => absurd rfl h, fun ⟨c, h⟩ => ?_⟩
    obtain ⟨s, r, rfl⟩ := h.ne
    have := mem_bk.mpr ⟨r, h⟩
    rw [e] at this; cases this
  | cons s r => exact ⟨fun _ => ⟨_, greedy_ch (by rw [e]; exact List.mem_cons_self)⟩, fun _ h => by cases h⟩
theorem least_ch {ls row : List Int} (h : least ls row ≠ []) : Ch ls row (least ls row) := by
  unfold least at h ⊢
  cases e : bk ls row with
  | nil => rw [e] at h; exact absurd rfl h
  | cons s r => exact greedy_ch (by rw [e]; exact List.mem_cons_self)
theorem Ch.len {ls row c} (h : Ch ls row c) : c.length = row.length + 1 := (ch_iff.mp h).1
theorem Ch.le {ls row c} (h : Ch ls row c) : ∀ s ∈ c, s ≤ ls.length := (ch_iff.mp h).2.1
theorem Ch.rel {ls row c k s t r} (h : Ch ls row c) (e1 : c[k]? = some s) (e2 : c[k + 1]? = some t) (e3 : row[k]? = some r) : LR.rel ls s t r = true := (ch_iff.mp h).2.2 k s t r e1 e2 e3
theorem Ch.at {ls row c} (h : Ch ls row c) {k : Nat} (hk : k ≤ row.length) : ∃ s, c[k]? = some s ∧ s ≤ ls.length := by
  have hl := h.len
  exact ⟨_, List.getElem?_eq_getElem (by omega), h.le _ (List.getElem_mem _)⟩
/-- the gap between two chosen steps is that of the row between their places -/
theorem Ch.gap {ls row c} (hb : ∀ l ∈ ls, 1 ≤ l) (hr : ∀ l ∈ row, 1 ≤ l) (h : Ch ls row c) {i j s t : Nat} (e1 : c[i]? = some s) (e2 : c[j]? = some t) (hij : i ≤ j) : s ≤ t ∧ gp ls s t = gp row i j ∧ (i < j → s < t) := by
  induction hij generalizing t with
  | refl =>
    rw [e1] at e2; cases e2
    exact ⟨Nat.le_refl _, by rw [gp_nil hb, gp_nil hr], fun h => absurd h (Nat.lt_irrefl _)⟩
  | @step j hj ih =>
    have hl := h.len
    have hj2 : j + 1 < c.length := (List.getElem?_eq_some_iff.mp e2).1
    have e3 := List.getElem?_eq_getElem (l := c) (i := j) (by omega)
    have e4 := List.getElem?_eq_getElem (l := row) (i := j) (by omega)
    obtain ⟨a1, a2, _⟩ := ih e3
    obtain ⟨b1, b2⟩ := rel_iff.mp (h.rel e3 e2 e4)
    refine ⟨by omega, ?_, fun _ => by omega⟩
    rw [gp_split hb a1 (by omega), gp_split hr hj (by omega : j ≤ j + 1), a2, b2, gp_one hr e4]
theorem Ch.mono {ls row c} (h : Ch ls row c) {i j s t : Nat} (e1 : c[i]? = some s) (e2 : c[j]? = some t) (hij : i < j) : s + (j - i) ≤ t := by
  induction hij generalizing t with
  | refl =>
    have hl := h.len
    have hj2 : i + 1 < c.length := (List.getElem?_eq_some_iff.mp e2).1
    have := rel_iff.mp (h.rel e1 e2 (List.getElem?_eq_getElem (by omega)))
    omega
  | @step j hj ih =>
    have hl := h.len
    have hj2 : j + 1 < c.length := (List.getElem?_eq_some_iff.mp e2).1
    have e3 := List.getElem?_eq_getElem (l := c) (i := j) (by omega)
    have := ih e3
    have := rel_iff.mp (h.rel e3 e2 (List.getElem?_eq_getElem (by omega)))
    have : i ≤ j := Nat.le_of_lt hj
    omega
/-- a choice in itself takes all steps -/
theorem Ch.full {ls row c} (h : Ch ls row c) (e : row.length = ls.length) : c = List.range (ls.length + 1) := by
  have hl := h.len
  refine List.ext_getElem (by rw [hl, List.length_range, e]) fun i h1 h2 => ?_
  rw [List.getElem_range]
  have e1 := List.getElem?_eq_getElem h1
  have lo : ∀ (k : Nat) (hk : k < c.length), k ≤ c[k] := fun k hk => by
    by_cases z : k = 0
    · omega
    · have := h.mono (List.getElem?_eq_getElem (l := c) (i := 0) (by omega)) (List.getElem?_eq_getElem hk) (by omega); omega
  have up : c[i] + (row.length - i) ≤ ls.length := by
    have e3 := List.getElem?_eq_getElem (l := c) (i := row.length) (by omega)
    have q := h.le _ (List.mem_of_getElem? e3)
    by_cases z : i = row.length
    · subst z; simpa using q
    · have := h.mono e1 e3 (by omega); omega
  have := lo i h1
  omega
/-! ## turned round -/
/-! ## a longer ladder -/
theorem Ch.left {ls ms row c} (h1 : ∀ l ∈ ls, 1 ≤ l) (h2 : ∀ l ∈ ls ++ ms, 1 ≤ l) (h : Ch ls row c) : Ch (ls ++ ms) row c := ch_iff.mpr ⟨h.len, fun s hs => by have := h.le s hs; rw [List.length_append]; omega, fun k s t r e1 e2 e3 => by
  obtain ⟨a, b⟩ := rel_iff.mp (h.rel e1 e2 e3)
  exact rel_iff.mpr ⟨a, by rw [gp_left h1 h2 (Nat.le_of_lt a) (h.le _ (List.mem_of_getElem? e2))]; exact b⟩⟩
theorem Ch.right {ls ms row c} (h1 : ∀ l ∈ ms, 1 ≤ l) (h2 : ∀ l ∈ ls ++ ms, 1 ≤ l) (h : Ch ms row c) : Ch (ls ++ ms) row (c.map (ls.length + ·)) := ch_iff.mpr ⟨by rw [List.length_map, h.len], fun s hs => by
  obtain ⟨x, hx, rfl⟩ := List.mem_map.mp hs
  have := h.le x hx; rw [List.length_append]; omega, fun k s t r e1 e2 e3 => by
  rw [List.getElem?_map] at e1 e2
  cases g1 : c[k]? with
  | none => rw [g1] at e1; cases e1
  | some x =>
    cases g2 : c[k + 1]? with
    | none => rw [g2] at e2; cases e2
    | some y =>
      rw [g1] at e1; rw [g2] at e2
      cases e1; cases e2
      obtain ⟨a, b⟩ := rel_iff.mp (h.rel g1 g2 e3)
      exact rel_iff.mpr ⟨(show ls.length + x < ls.length + y from by omega), by show gp (ls ++ ms) (ls.length + x) (ls.length + y) = r; rw [gp_right h1 h2 (Nat.le_of_lt a)]; exact b⟩⟩
end LR
set_option Elab.async false
set_option maxRecDepth 100000
set_option linter.all false
set_option maxHeartbeats 4000000
namespace LR
open PySem PySem.Spec PyProof.Rows L2
/-! # rows that a ladder holds: as data -/
/-! ## forwards -/
def nx (ls : List Int) (m : List Nat) (r : Int) : List Nat := (stps ls).filter fun t => m.any fun s => rel ls s t r
/-! ## the law's own least choice: the least of what lies on a choice, place by place -/
theorem ch_app {ls r2 : List Int} {s : Nat} {b : List Nat} : ∀ {r1 : List Int} {a : List Nat}, a.length = r1.length → (Ch ls (r1 ++ r2) (a ++ s :: b) ↔ Ch ls r1 (a ++ [s]) ∧ Ch ls r2 (s :: b)) := by
  intro r1
  induction r1 with
  | nil =>
    intro a h
    cases a with
    | nil => exact ⟨fun q => ⟨q.le s List.mem_cons_self, q⟩, fun q => q.2⟩
    | cons => cases h
  | cons r0 r1 ih =>
    intro a h
    match a, h with
    | [x], h =>
      have e : r1 = [] := List.length_eq_zero_iff.mp (by simpa using h.symm)
      subst e
      exact ⟨fun q => ⟨⟨q.1, (show Ch ls r2 (s :: b) from q.2).le s List.mem_cons_self⟩, q.2⟩, fun q => ⟨q.1.1, q.2⟩⟩
    | x :: y :: a, h =>
      have := ih (a := y :: a) (by simpa using h)
      exact ⟨fun q => ⟨⟨q.1, (this.mp q.2).1⟩, (this.mp q.2).2⟩, fun q => ⟨q.1.1, this.mpr ⟨q.1.2, q.2⟩⟩⟩
end LR
set_option Elab.async false
set_option maxRecDepth 100000
set_option linter.all false
set_option maxHeartbeats 4000000
namespace LR
/-! # reach: the mathematics -/
def rowsL (h : Nat) : Nat → List (List Int)
  | 0 => [[]]
  | c + 1 => (rowsL h c).flatMap fun r => (List.range h).map fun k : Nat => r ++ [1 + (k : Int)]
theorem mem_rowsL {h : Nat} : ∀ {c : Nat} {r : List Int}, r ∈ rowsL h c ↔ r.length = c ∧ ∀ l ∈ r, 1 ≤ l ∧ l ≤ h := by
  intro c
  induction c with
  | zero =>
    intro r
    unfold rowsL
    rw [List.mem_singleton]
    constructor
    · rintro rfl; exact ⟨rfl, fun l h => by cases h⟩
    · rintro ⟨h, _⟩; exact List.length_eq_zero_iff.mp h
  | succ c ih =>
    intro r
    unfold rowsL
    rw [List.mem_flatMap]
    constructor
    · rintro ⟨q, hq, hr⟩
      obtain ⟨k, hk, rfl⟩ := List.mem_map.mp hr
      obtain ⟨a, b⟩ := ih.mp hq
      have hk := List.mem_range.mp hk
      refine ⟨by rw [List.length_append, a]; rfl, fun l hl => ?_⟩
      rcases List.mem_append.mp hl with z | z
      · exact b l z
      · rw [List.mem_singleton] at z; omega
    · rintro ⟨a, b⟩
      rcases List.eq_nil_or_concat r with rfl | ⟨q, x, rfl⟩
      · cases a
      · rw [List.concat_eq_append] at a b ⊢
        obtain ⟨x1, x2⟩ := b x (by simp)
        refine ⟨q, ih.mpr ⟨by simpa using a, fun l hl => b l (List.mem_append_left _ hl)⟩, List.mem_map.mpr ⟨(x - 1).toNat, List.mem_range.mpr (by omega), ?_⟩⟩
        rw [show 1 + (((x - 1).toNat : Nat) : Int) = x by omega]
theorem rowsL_len (h : Nat) : ∀ c, (rowsL h c).length = h ^ c
  | 0 => rfl
  | c + 1 => by
    unfold rowsL
    rw [List.length_flatMap]
    have : ((rowsL h c).map fun r => ((List.range h).map fun k : Nat => r ++ [1 + (k : Int)]).length) = List.replicate (h ^ c) h := by
      rw [← rowsL_len h c]
      refine List.ext_getElem (by simp) fun i a b => by simp
    rw [this, List.sum_replicate_nat, Nat.pow_succ]
theorem rowsL_nodup (h : Nat) : ∀ c, (rowsL h c).Nodup
  | 0 => by unfold rowsL; simp
  | c + 1 => by
    unfold rowsL
    have ih := rowsL_nodup h c
    rw [List.Nodup, List.pairwise_flatMap]
    refine ⟨fun r hr => ?_, ih.imp fun {a b} ne x hx y hy e => ?_⟩
    · rw [List.pairwise_map]
      exact (List.nodup_range (n := h)).imp fun {a b} ne e => by
        have := List.append_cancel_left e
        injection this with e _
        omega
    · obtain ⟨k, _, rfl⟩ := List.mem_map.mp hx
      obtain ⟨j, _, rfl⟩ := List.mem_map.mp hy
      have := List.append_inj_left' e rfl
      exact ne this
def Held (ls r : List Int) : Prop := ∃ c, Ch ls r c
theorem held_iff {ls r : List Int} : Held ls r ↔ least ls r ≠ [] := least_ne.symm
/-- the first row that is lacking -/
def lacks (ls : List Int) (h c : Nat) : Option (List Int) := (rowsL h c).find? fun r => (least ls r).isEmpty
theorem lacks_none {ls h c} : lacks ls h c = none ↔ ∀ r : List Int, r.length = c → (∀ l ∈ r, 1 ≤ l ∧ l ≤ h) → Held ls r := by
  unfold lacks
  rw [List.find?_eq_none]
  constructor
  · intro q r a b
    have := q r (mem_rowsL.mpr ⟨a, b⟩)
    refine held_iff.mpr fun e => this ?_
    rw [e]; rfl
  · intro q r hr e
    obtain ⟨a, b⟩ := mem_rowsL.mp hr
    exact held_iff.mp (q r a b) (List.isEmpty_iff.mp e)
/-- the number of the rows all of which are held -/
structure IsReach (ls : List Int) (h n : Nat) : Prop where
  pos : 1 ≤ n
  all : ∀ c, c < n → lacks ls h c = none
  end_ : lacks ls h n ≠ none
theorem held_nil (ls : List Int) : Held ls [] := ⟨[0], Nat.zero_le _⟩
theorem IsReach.one {ls h n m} (a : IsReach ls h n) (b : IsReach ls h m) : n = m := by
  apply Classical.byContradiction
  intro ne
  rcases Nat.lt_or_gt_of_ne ne with q | q
  · exact a.end_ (b.all n q)
  · exact b.end_ (a.all m q)
/-! ## counting -/
def subs : List Nat → List (List Nat)
  | [] => [[]]
  | x :: l => subs l ++ (subs l).map (x :: ·)
theorem subs_len : ∀ l, (subs l).length = 2 ^ l.length
  | [] => rfl
  | x :: l => by rw [subs, List.length_append, List.length_map, subs_len l, List.length_cons, Nat.pow_succ]; omega
theorem subs_nil : ∀ l, [] ∈ subs l
  | [] => List.mem_singleton.mpr rfl
  | _ :: l => List.mem_append_left _ (subs_nil l)
theorem mem_subs : ∀ {l c : List Nat}, l.Pairwise (· < ·) → c.Pairwise (· < ·) → (∀ x ∈ c, x ∈ l) → c ∈ subs l
  | [], c, _, _, h => by
    cases c with
    | nil => exact List.mem_singleton.mpr rfl
    | cons x r => have := h x List.mem_cons_self; cases this
  | x :: l, [], _, _, _ => subs_nil _
  | x :: l, y :: c, hl, hc, h => by
    obtain ⟨l1, l2⟩ := List.pairwise_cons.mp hl
    obtain ⟨c1, c2⟩ := List.pairwise_cons.mp hc
    have gt : ∀ z ∈ c, z ∈ l := fun z hz => by
      have a := c1 z hz
      rcases List.mem_cons.mp (h z (List.mem_cons_of_mem _ hz)) with e | e
      · rcases List.mem_cons.mp (h y List.mem_cons_self) with e2 | e2
        · omega
        · have := l1 y e2; omega
      · exact e
    rcases List.mem_cons.mp (h y List.mem_cons_self) with e | e
    · subst e
      exact List.mem_append_right _ (List.mem_map.mpr ⟨c, mem_subs l2 c2 gt, rfl⟩)
    · exact List.mem_append_left _ (mem_subs l2 hc fun z hz => (List.mem_cons.mp hz).elim (fun q => q ▸ e) (gt z))
theorem Ch.sorted {ls r c} (h : Ch ls r c) : c.Pairwise (· < ·) := List.pairwise_iff_getElem.mpr fun i j a b hij => by
  have := h.mono (List.getElem?_eq_getElem a) (List.getElem?_eq_getElem b) hij
  omega
theorem Ch.row_eq {ls r r' c} (h : Ch ls r c) (k : Ch ls r' c) : r = r' := by
  have a := h.len
  have b := k.len
  refine List.ext_getElem (by omega) fun i h1 h2 => ?_
  have e1 := List.getElem?_eq_getElem (l := c) (i := i) (by omega)
  have e2 := List.getElem?_eq_getElem (l := c) (i := i + 1) (by omega)
  have q1 := (rel_iff.mp (h.rel e1 e2 (List.getElem?_eq_getElem h1))).2
  have q2 := (rel_iff.mp (k.rel e1 e2 (List.getElem?_eq_getElem h2))).2
  omega
theorem count_le {ls : List Int} {h c : Nat} (e : lacks ls h c = none) : h ^ c ≤ 2 ^ (ls.length + 1) := by
  rw [← rowsL_len, ← List.length_range (n := ls.length + 1), ← subs_len, ← List.length_map (f := least ls)]
  have ne : ∀ r ∈ rowsL h c, least ls r ≠ [] := fun r hr => by
    obtain ⟨a, b⟩ := mem_rowsL.mp hr
    exact held_iff.mp (lacks_none.mp e r a b)
  refine List.Nodup.length_le_of_subset ?_ fun x hx => ?_
  · rw [List.Nodup, List.pairwise_map]
    refine List.Pairwise.imp_of_mem (fun {a b} ha hb n q => n ?_) (rowsL_nodup h c)
    have k1 := least_ch (ne a ha)
    have k2 := least_ch (ne b hb)
    rw [q] at k1
    exact k1.row_eq k2
  · obtain ⟨r, hr, rfl⟩ := List.mem_map.mp hx
    have k := least_ch (ne r hr)
    exact mem_subs List.pairwise_lt_range k.sorted fun s hs => List.mem_range.mpr (by have := k.le s hs; omega)
theorem IsReach.size {ls : List Int} {h n c : Nat} (r : IsReach ls h n) (hl : ls.length ≤ 12) (hh : h ≤ 3) (hc : c ≤ n) : h ^ c ≤ 24576 := by
  cases c with
  | zero => rw [Nat.pow_zero]; omega
  | succ c =>
    have a := count_le (r.all c (by omega))
    have b : 2 ^ (ls.length + 1) ≤ 2 ^ 13 := Nat.pow_le_pow_right (by omega) (by omega)
    rw [Nat.pow_succ]
    have d : h ^ c ≤ 8192 := Nat.le_trans a b
    calc h ^ c * h ≤ 8192 * 3 := Nat.mul_le_mul d hh
      _ = 24576 := rfl
/-! ## joined ladders -/
theorem ch_join {L r1 r2 : List Int} {a b : List Nat} {s t : Nat} {g : Int} (h1 : Ch L r1 (a ++ [s])) (h2 : Ch L r2 (t :: b)) (h3 : rel L s t g = true) : Ch L (r1 ++ g :: r2) (a ++ s :: t :: b) := (ch_app (by have := h1.len; simp at this; omega)).mpr ⟨h1, h3, h2⟩
/-- a choice whose steps lie in [lo, hi] -/
def HeldIn (L r : List Int) (lo hi : Nat) : Prop := ∃ c, Ch L r c ∧ ∀ s ∈ c, lo ≤ s ∧ s ≤ hi
theorem HeldIn.held {L r lo hi} (h : HeldIn L r lo hi) : Held L r := let ⟨c, h, _⟩ := h; ⟨c, h⟩
theorem heldIn_join {L r1 r2 : List Int} {lo m hi : Nat} {g : Int} (hb : ∀ l ∈ L, 1 ≤ l) (hg : ∀ l ∈ L, l ≤ g) (e : L[m]? = some g) (h1 : HeldIn L r1 lo m) (h2 : HeldIn L r2 (m + 1) hi) (hlo : lo ≤ m + 1) (hmh : m ≤ hi) : HeldIn L (r1 ++ g :: r2) lo hi := by
  obtain ⟨c, hc, b1⟩ := h1
  obtain ⟨d, hd, b2⟩ := h2
  rcases List.eq_nil_or_concat c with rfl | ⟨a, s, rfl⟩
  · obtain ⟨_, _, q⟩ := hc.ne; cases q
  obtain ⟨t, b, rfl⟩ := hd.ne
  rw [List.concat_eq_append] at hc b1
  have hs := b1 s (by simp)
  have ht := b2 t List.mem_cons_self
  have htl := hd.le t List.mem_cons_self
  have g0 : 1 ≤ g := hb g (List.mem_of_getElem? e)
  refine ⟨a ++ s :: t :: b, ch_join hc hd (rel_iff.mpr ⟨by omega, ?_⟩), fun x hx => ?_⟩
  · refine gp_of hb (by omega) ⟨by omega, fun k z _ _ ez => hg z (List.mem_of_getElem? ez), .inr ⟨m, by omega, by omega, e⟩⟩
  · rcases List.mem_append.mp hx with z | z
    · have := b1 x (List.mem_append_left _ z); omega
    · rcases List.mem_cons.mp z with z | z
      · subst z; omega
      · have := b2 x z; omega
theorem heldIn_left {ls ms r : List Int} (h1 : ∀ l ∈ ls, 1 ≤ l) (h2 : ∀ l ∈ ls ++ ms, 1 ≤ l) (h : Held ls r) : HeldIn (ls ++ ms) r 0 ls.length := by
  obtain ⟨c, h⟩ := h
  exact ⟨c, h.left h1 h2, fun s hs => ⟨Nat.zero_le _, h.le s hs⟩⟩
theorem heldIn_right {ls ms r : List Int} (h1 : ∀ l ∈ ms, 1 ≤ l) (h2 : ∀ l ∈ ls ++ ms, 1 ≤ l) (h : Held ms r) : HeldIn (ls ++ ms) r ls.length (ls ++ ms).length := by
  obtain ⟨c, h⟩ := h
  refine ⟨_, h.right h1 h2, fun s hs => ?_⟩
  obtain ⟨x, hx, rfl⟩ := List.mem_map.mp hs
  have := h.le x hx
  rw [List.length_append]
  show ls.length ≤ ls.length + x ∧ ls.length + x ≤ _
  omega
theorem heldIn_mid {as ms bs r : List Int} (h1 : ∀ l ∈ ms, 1 ≤ l) (h2 : ∀ l ∈ as ++ (ms ++ bs), 1 ≤ l) (h : Held ms r) : HeldIn (as ++ (ms ++ bs)) r as.length (as.length + ms.length) := by
  obtain ⟨c, h⟩ := h
  have h3 : ∀ l ∈ ms ++ bs, 1 ≤ l := fun l hl => h2 l (List.mem_append_right _ hl)
  refine ⟨_, (h.left h1 h3).right h3 h2, fun s hs => ?_⟩
  obtain ⟨x, hx, rfl⟩ := List.mem_map.mp hs
  have := h.le x hx
  show as.length ≤ as.length + x ∧ as.length + x ≤ _
  omega
theorem IsReach.held {ls r : List Int} {h n : Nat} (R : IsReach ls h n) (hl : r.length < n) (hr : ∀ l ∈ r, 1 ≤ l ∧ l ≤ h) : Held ls r := lacks_none.mp (R.all _ hl) r rfl hr
theorem IsReach.le {ls : List Int} {h n m : Nat} (R : IsReach ls h n) (all : ∀ r : List Int, r.length < m → (∀ l ∈ r, 1 ≤ l ∧ l ≤ h) → Held ls r) : m ≤ n := by
  apply Classical.byContradiction
  intro c
  exact R.end_ (lacks_none.mpr fun r e hr => all r (by omega) hr)
end LR
set_option Elab.async false
set_option maxRecDepth 100000
set_option linter.all false
set_option maxHeartbeats 4000000
namespace LR
/-! # the halving ladder's levels -/
def hvF : Nat → Nat → Nat → List Int
  | 0, _, _ => []
  | n + 1, c, h => if h = 0 ∨ c = 1 then [] else
    (if 0 < (c - 1) / 2 then hvF n ((c - 1) / 2) h ++ [(h : Int)] else []) ++ (hvF n c (h - 1) ++ ([(h : Int)] ++ hvF n (c / 2) h))
def hv (c h : Nat) : List Int := hvF (c + h) c h
theorem hvF_any : ∀ n m c h, 1 ≤ c → c + h ≤ n → c + h ≤ m → hvF n c h = hvF m c h
  | 0, _, c, _, hc, a, _ => by omega
  | _ + 1, 0, c, _, hc, _, b => by omega
  | n + 1, m + 1, c, h, hc, a, b => by
    unfold hvF
    by_cases z : h = 0 ∨ c = 1
    · rw [if_pos z, if_pos z]
    · have h0 : h ≠ 0 := fun e => z (.inl e)
      have c1 : c ≠ 1 := fun e => z (.inr e)
      rw [if_neg z, if_neg z, hvF_any n m c (h - 1) hc (by omega) (by omega), hvF_any n m (c / 2) h (by omega) (by omega) (by omega)]
      by_cases y : 0 < (c - 1) / 2
      · rw [if_pos y, if_pos y, hvF_any n m ((c - 1) / 2) h y (by omega) (by omega)]
      · rw [if_neg y, if_neg y]
theorem hv_stop {c h : Nat} (hc : 1 ≤ c) (z : h = 0 ∨ c = 1) : hv c h = [] := by
  unfold hv
  obtain ⟨n, e⟩ : ∃ n, c + h = n + 1 := ⟨c + h - 1, by omega⟩
  rw [e]; unfold hvF; rw [if_pos z]
theorem hv_go {c h : Nat} (hc : 1 ≤ c) (z : ¬ (h = 0 ∨ c = 1)) : hv c h = (if 0 < (c - 1) / 2 then hv ((c - 1) / 2) h ++ [(h : Int)] else []) ++ (hv c (h - 1) ++ ([(h : Int)] ++ hv (c / 2) h)) := by
  have h0 : h ≠ 0 := fun e => z (.inl e)
  have c1 : c ≠ 1 := fun e => z (.inr e)
  unfold hv
  obtain ⟨n, e⟩ : ∃ n, c + h = n + 1 := ⟨c + h - 1, by omega⟩
  rw [e]
  conv => lhs; unfold hvF
  rw [if_neg z, hvF_any n (c + (h - 1)) c (h - 1) hc (by omega) (by omega), hvF_any n (c / 2 + h) (c / 2) h (by omega) (by omega) (by omega)]
  by_cases y : 0 < (c - 1) / 2
  · rw [if_pos y, if_pos y, hvF_any n ((c - 1) / 2 + h) ((c - 1) / 2) h y (by omega) (by omega)]
  · rw [if_neg y, if_neg y]
theorem hv_lev : ∀ n c h, c + h ≤ n → 1 ≤ c → ∀ l ∈ hv c h, 1 ≤ l ∧ l ≤ h
  | 0, c, h, a, hc => by omega
  | n + 1, c, h, a, hc => fun l hl => by
    by_cases z : h = 0 ∨ c = 1
    · rw [hv_stop hc z] at hl; cases hl
    · have h0 : h ≠ 0 := fun e => z (.inl e)
      have c1 : c ≠ 1 := fun e => z (.inr e)
      rw [hv_go hc z] at hl
      rcases List.mem_append.mp hl with w | w
      · by_cases y : 0 < (c - 1) / 2
        · rw [if_pos y] at w
          rcases List.mem_append.mp w with w | w
          · exact hv_lev n _ _ (by omega) y l w
          · rw [List.mem_singleton] at w; omega
        · rw [if_neg y] at w; cases w
      · rcases List.mem_append.mp w with w | w
        · have := hv_lev n c (h - 1) (by omega) hc l w; omega
        · rcases List.mem_append.mp w with w | w
          · rw [List.mem_singleton] at w; omega
          · exact hv_lev n _ _ (by omega) (by omega) l w
/-- parts joined by a level -/
def jn (h : Int) : List (List Int) → List Int
  | [] => []
  | p :: r => p ++ r.flatMap fun q => [h] ++ q
theorem jn_snoc {h : Int} {P : List (List Int)} {q : List Int} (ne : P ≠ []) : jn h (P ++ [q]) = jn h P ++ [h] ++ q := by
  cases P with
  | nil => exact absurd rfl ne
  | cons p r => simp [jn, List.flatMap_append]
/-- the parts that are joined -/
def hvP (c h : Nat) : List (List Int) := (if 0 < (c - 1) / 2 then [hv ((c - 1) / 2) h] else []) ++ [hv c (h - 1)] ++ [hv (c / 2) h]
theorem jn_hvP {c h : Nat} (hc : 1 ≤ c) (z : ¬ (h = 0 ∨ c = 1)) : jn h (hvP c h) = hv c h := by
  rw [hv_go hc z]
  unfold hvP
  by_cases y : 0 < (c - 1) / 2
  · rw [if_pos y, if_pos y]; simp [jn]
  · rw [if_neg y, if_neg y]; simp [jn]
theorem jn_le {h : Int} {P : List (List Int)} (k : Nat) : (jn h (P.take k)).length ≤ (jn h P).length := by
  cases P with
  | nil => rw [List.take_nil]; exact Nat.le_refl _
  | cons p r =>
    cases k with
    | zero => exact Nat.zero_le _
    | succ k =>
      rw [List.take_succ_cons]
      unfold jn
      rw [List.length_append, List.length_append]
      conv => rhs; rw [← List.take_append_drop k r, List.flatMap_append, List.length_append]
      omega
theorem jn_mem {h : Int} {P : List (List Int)} {q : List Int} (m : q ∈ P) : q.length ≤ (jn h P).length := by
  cases P with
  | nil => cases m
  | cons p r =>
    unfold jn
    rw [List.length_append]
    rcases List.mem_cons.mp m with e | m
    · subst e; omega
    · obtain ⟨a, b, rfl⟩ := List.append_of_mem m
      rw [List.flatMap_append, List.length_append, List.flatMap_cons, List.length_append, List.length_append]
      omega
end LR
set_option Elab.async false
set_option maxRecDepth 100000
set_option linter.all false
set_option maxHeartbeats 4000000
namespace LR
open PySem PySem.Spec PyProof.Rows L2
/-! # paths in a web -/
def es0 (e : List Int) : Int := e.getD 0 0
def es2 (e : List Int) : Int := e.getD 2 0
inductive Wk (es : List (List Int)) (a : Int) : List (List Int) → Int → Prop
  | nil : Wk es a [] a
  | snoc {b : Int} {p : List (List Int)} {e : List Int} (w : Wk es a p b) (m : e ∈ es) (s : es0 e = b) : Wk es a (p ++ [e]) (es2 e)
/-- a path on which no node occurs twice -/
structure Pth (es : List (List Int)) (a : Int) (ks : List Int) (x : Int) (p : List (List Int)) : Prop where
  wk : Wk es a p x
  nd : (p.map es0 ++ [x]).Nodup
  sub : ∀ v ∈ p.map es0, v ∈ ks
def RchI (es : List (List Int)) (a b : Int) : Prop := ∃ p, Wk es a p b
structure SrI (es : List (List Int)) (a n : Int) (ks : List Int) (ps : List (List (List Int))) (i : Nat) : Prop where
  len : ks.length = ps.length
  il : i ≤ ks.length
  nd : ks.Nodup
  hd : a ∈ ks
  bd : ∀ x ∈ ks, 0 ≤ x ∧ x < n
  pt : ∀ (j : Nat) x p, ks[j]? = some x → ps[j]? = some p → Pth es a ks x p
  cl : ∀ (j : Nat) x, j < i → ks[j]? = some x → ∀ e ∈ es, es0 e = x → es2 e ∈ ks
theorem SrI.start {es : List (List Int)} {a n : Int} (h : 0 ≤ a ∧ a < n) : SrI es a n [a] [[]] 0 where
  len := rfl
  il := Nat.zero_le _
  nd := by simp
  hd := List.mem_cons_self
  bd := fun x hx => by rw [List.mem_singleton.mp hx]; exact h
  pt := fun j x p e1 e2 => by
    cases j with
    | zero => cases e1; cases e2; exact ⟨.nil, by simp, fun v hv => by cases hv⟩
    | succ j => cases e1
  cl := fun j x hj => by omega
theorem SrI.reach {es : List (List Int)} {a n : Int} {ks ps i} (s : SrI es a n ks ps i) (hi : ks.length ≤ i) (b : Int) : b ∈ ks ↔ RchI es a b := by
  constructor
  · intro m
    obtain ⟨j, hj, e⟩ := List.mem_iff_getElem.mp m
    have e1 := List.getElem?_eq_getElem hj
    rw [e] at e1
    exact ⟨_, (s.pt j b _ e1 (List.getElem?_eq_getElem (by rw [← s.len]; exact hj))).wk⟩
  · rintro ⟨p, w⟩
    induction w with
    | nil => exact s.hd
    | snoc w m e ih =>
      obtain ⟨j, hj, e1⟩ := List.mem_iff_getElem.mp ih
      have e2 := List.getElem?_eq_getElem hj
      rw [e1] at e2
      exact s.cl j _ (by omega) e2 _ m e
theorem Pth.more {es a ks x p y} (h : Pth es a ks x p) : Pth es a (ks ++ [y]) x p := ⟨h.wk, h.nd, fun v hv => List.mem_append_left _ (h.sub v hv)⟩
/-- a new key -/
theorem SrI.add {es : List (List Int)} {a n : Int} {ks ps i} (s : SrI es a n ks ps i) {j : Nat} {u : Int} {p : List (List Int)} {e : List Int} (e1 : ks[j]? = some u) (e2 : ps[j]? = some p) (m : e ∈ es) (h0 : es0 e = u) (h2 : es2 e ∉ ks) (hb : 0 ≤ es2 e ∧ es2 e < n) : SrI es a n (ks ++ [es2 e]) (ps ++ [p ++ [e]]) i where
  len := by rw [List.length_append, List.length_append, s.len]; rfl
  il := by have := s.il; rw [List.length_append]; omega
  nd := by
    rw [List.nodup_append]
    refine ⟨s.nd, by simp, fun x hx y hy q => ?_⟩
    rw [List.mem_singleton.mp hy] at q
    exact h2 (q ▸ hx)
  hd := List.mem_append_left _ s.hd
  bd := fun x hx => by
    rcases List.mem_append.mp hx with z | z
    · exact s.bd x z
    · rw [List.mem_singleton.mp z]; exact hb
  pt := fun k x q f1 f2 => by
    by_cases c : k < ks.length
    · rw [List.getElem?_append_left c] at f1
      rw [List.getElem?_append_left (by rw [← s.len]; exact c)] at f2
      exact (s.pt k x q f1 f2).more
    · have hk : k < (ks ++ [es2 e]).length := (List.getElem?_eq_some_iff.mp f1).1
      rw [List.length_append, List.length_singleton] at hk
      have ke : k = ks.length := by omega
      subst ke
      rw [List.getElem?_append_right (Nat.le_refl _), Nat.sub_self] at f1
      rw [List.getElem?_append_right (by rw [s.len]; exact Nat.le_refl _), s.len, Nat.sub_self] at f2
      cases f1; cases f2
      have P := s.pt j u p e1 e2
      have um : u ∈ ks := List.mem_of_getElem? e1
      refine ⟨.snoc P.wk m h0, ?_, fun v hv => ?_⟩
      · rw [List.map_append, List.nodup_append]
        refine ⟨by rw [List.map_singleton, h0]; exact P.nd, by simp, fun x hx y hy q => ?_⟩
        rw [List.mem_singleton.mp hy] at q
        rcases List.mem_append.mp hx with z | z
        · exact h2 (q ▸ P.sub x z)
        · rw [List.map_singleton, List.mem_singleton, h0] at z
          exact h2 (q ▸ z ▸ um)
      · rw [List.map_append] at hv
        rcases List.mem_append.mp hv with z | z
        · exact List.mem_append_left _ (P.sub v z)
        · rw [List.map_singleton, List.mem_singleton, h0] at z
          exact List.mem_append_left _ (z ▸ um)
  cl := fun k x hk f1 f hf f0 => by
    have c : k < ks.length := by have := s.il; omega
    rw [List.getElem?_append_left c] at f1
    exact List.mem_append_left _ (s.cl k x hk f1 f hf f0)
theorem dkGet_at : ∀ {ks : List Int} {ds : List D} {j : Nat} {k : Int} {d : D}, ks.Nodup → ks[j]? = some k → ds[j]? = some d → dkGet ks ds k = some d
  | [], _, _, _, _, _, e, _ => by cases e
  | _ :: _, [], _, _, _, _, _, e => by cases e
  | k0 :: ks, d0 :: ds, 0, k, d, _, e1, e2 => by
    cases e1; cases e2
    unfold dkGet; rw [if_pos rfl]
  | k0 :: ks, d0 :: ds, j + 1, k, d, nd, e1, e2 => by
    have ne : k0 ≠ k := fun e => (List.nodup_cons.mp nd).1 (e ▸ List.mem_of_getElem? e1)
    unfold dkGet; rw [if_neg ne]
    exact dkGet_at (List.nodup_cons.mp nd).2 e1 e2
theorem dkGet_no : ∀ {ks : List Int} {ds : List D} {k : Int}, k ∉ ks → dkGet ks ds k = none
  | [], _, _, _ => by cases ‹List D› <;> rfl
  | _ :: _, [], _, _ => rfl
  | k0 :: ks, d0 :: ds, k, h => by
    unfold dkGet
    rw [if_neg (show ¬ k0 = k from fun e => h (e ▸ List.mem_cons_self))]
    exact dkGet_no fun m => h (List.mem_cons_of_mem _ m)
theorem dkPut_new {ks : List Int} {ds : List D} {k : Int} {v : D} (h : k ∉ ks) : dkPut ks ds k v = (ks ++ [k], ds ++ [v]) := by unfold dkPut; rw [if_neg h]
end LR
namespace LR
open PySem PySem.Spec PyProof.Rows L2
theorem int_card {ks : List Int} {n : Int} (nd : ks.Nodup) (bd : ∀ x ∈ ks, 0 ≤ x ∧ x < n) : ks.length ≤ n.toNat := by
  have h2 : (ks.map Int.toNat).Nodup := by
    rw [List.Nodup, List.pairwise_map]
    refine nd.imp_of_mem fun {x y} hx hy ne e => ne ?_
    have := bd x hx; have := bd y hy; omega
  have := h2.length_le_of_subset (l₂ := List.range n.toNat) fun v hv => by
    obtain ⟨x, hx, rfl⟩ := List.mem_map.mp hv
    have := bd x hx
    exact List.mem_range.mpr (by omega)
  rwa [List.length_map, List.length_range] at this
theorem Pth.short {es a ks x p} (h : Pth es a ks x p) (nd : ks.Nodup) : p.length ≤ ks.length := by
  have h1 := (List.nodup_append.mp h.nd).1
  have := h1.length_le_of_subset (l₂ := ks) h.sub
  rwa [List.length_map] at this
theorem SrI.next {es : List (List Int)} {a n u : Int} {ks ps i} (s : SrI es a n ks ps i) (hu : ks[i]? = some u) (cl : ∀ e ∈ es, es0 e = u → es2 e ∈ ks) : SrI es a n ks ps (i + 1) where
  len := s.len
  il := (List.getElem?_eq_some_iff.mp hu).1
  nd := s.nd
  hd := s.hd
  bd := s.bd
  pt := s.pt
  cl := fun j x hj e1 e he h0 => by
    by_cases c : j < i
    · exact s.cl j x c e1 e he h0
    · have : j = i := by omega
      subst this
      rw [hu] at e1; cases e1
      exact cl e he h0
end LR
set_option Elab.async false
set_option maxRecDepth 100000
set_option linter.all false
set_option maxHeartbeats 4000000
namespace LR
/-! # cycles -/
def es1 (e : List Int) : Int := e.getD 1 0
theorem ed_at0 {h n : Int} {e : List Int} (o : EdgeOk h n e) : ixD (intT e) (.int 0) = some (.int (es0 e)) := by
  obtain ⟨s, r, t, rfl, _⟩ := o
  exact atI_of (k := 0) rfl
theorem ed_at1 {h n : Int} {e : List Int} (o : EdgeOk h n e) : ixD (intT e) (.int 1) = some (.int (es1 e)) := by
  obtain ⟨s, r, t, rfl, _⟩ := o
  exact atI_of (k := 1) rfl
theorem ed_at2 {h n : Int} {e : List Int} (o : EdgeOk h n e) : ixD (intT e) (.int 2) = some (.int (es2 e)) := by
  obtain ⟨s, r, t, rfl, _⟩ := o
  exact atI_of (k := 2) rfl
theorem Wk.mem {es a p b} (w : Wk es a p b) : ∀ e ∈ p, e ∈ es := by
  induction w with
  | nil => exact fun e h => by cases h
  | snoc w m s ih =>
    intro e h
    rcases List.mem_append.mp h with z | z
    · exact ih e z
    · rw [List.mem_singleton.mp z]; exact m
theorem Wk.mono {es es' : List (List Int)} {a p b} (h : ∀ e ∈ es, e ∈ es') (w : Wk es a p b) : Wk es' a p b := by
  induction w with
  | nil => exact .nil
  | snoc w m s ih => exact .snoc ih (h _ m) s
theorem Wk.cons {es : List (List Int)} {e : List Int} {p b} (m : e ∈ es) (w : Wk es (es2 e) p b) : Wk es (es0 e) (e :: p) b := by
  generalize ha : es2 e = a at w
  induction w with
  | nil => subst ha; exact Wk.snoc (p := []) .nil m rfl
  | snoc w m2 s ih => exact Wk.snoc (p := e :: _) ih m2 s
theorem Wk.at_nil {es : List (List Int)} {a b : Int} {p : List (List Int)} (w : Wk es a p b) (h : p = []) : b = a := by
  cases w with
  | nil => rfl
  | snoc w m s => simp at h
theorem Wk.first {es : List (List Int)} {a b : Int} {p : List (List Int)} (w : Wk es a p b) : ∀ e, p[0]? = some e → es0 e = a := by
  induction w with
  | nil => intro e h; cases h
  | @snoc b p e w m s ih =>
    intro f h
    cases p with
    | nil =>
      cases h
      exact s.trans (w.at_nil rfl)
    | cons x p => exact ih f h
theorem Wk.last {es : List (List Int)} {a b : Int} {p : List (List Int)} (w : Wk es a p b) : ∀ e, p[p.length - 1]? = some e → es2 e = b := by
  cases w with
  | nil => intro e h; cases h
  | @snoc b p e w m s =>
    intro f h
    rw [List.length_append, List.length_singleton, Nat.add_sub_cancel, List.getElem?_append_right (Nat.le_refl _), Nat.sub_self] at h
    cases h; rfl
theorem Wk.chain {es : List (List Int)} {a b : Int} {p : List (List Int)} (w : Wk es a p b) : ∀ (k : Nat) e f, p[k]? = some e → p[k + 1]? = some f → es0 f = es2 e := by
  induction w with
  | nil => intro k e f h; cases h
  | @snoc b p e w m s ih =>
    intro k x y h1 h2
    by_cases c : k + 1 < p.length
    · rw [List.getElem?_append_left (by omega)] at h1
      rw [List.getElem?_append_left c] at h2
      exact ih k x y h1 h2
    · have hk : k + 1 < (p ++ [e]).length := (List.getElem?_eq_some_iff.mp h2).1
      rw [List.length_append, List.length_singleton] at hk
      have : k + 1 = p.length := by omega
      rw [this, List.getElem?_append_right (Nat.le_refl _), Nat.sub_self] at h2
      cases h2
      rw [List.getElem?_append_left (by omega)] at h1
      rw [s, w.last x (by rw [show p.length - 1 = k by omega]; exact h1)]
/-- an odd edge whose ends are joined by edges not above it -/
def OddE (es : List (List Int)) (e : List Int) : Prop := es1 e % 2 = 1 ∧ RchI (es.filter fun f => decide (es1 f ≤ es1 e)) (es2 e) (es0 e)
def HasOdd (es : List (List Int)) : Prop := ∃ e ∈ es, OddE es e
theorem RchI.mono {es es' : List (List Int)} {a b} (h : ∀ e ∈ es, e ∈ es') (r : RchI es a b) : RchI es' a b := let ⟨p, w⟩ := r; ⟨p, w.mono h⟩
end LR
set_option Elab.async false
set_option maxRecDepth 100000
set_option linter.all false
set_option maxHeartbeats 4000000
namespace LR
open PySem PySem.Spec PyProof.Rows L2
/-! # edges in order: all fit, none twice -/
theorem okn_tupI (n : Nat) (l : List Int) : okn (n + 1) (intT l) = true := by
  rw [okn, List.all_map, List.all_eq_true]; intro x _; cases n <;> rfl
theorem nbn_tupI (l : List Int) : nbn 1 (intT l) = true := by
  rw [nbn, List.all_map, List.all_eq_true]; intro x _; rfl
structure Eds (h n : Int) (es : List (List Int)) : Prop where
  ok : ∀ e ∈ es, EdgeOk h n e
  nd : es.Nodup
theorem Eds.ins {h n : Int} {es : List (List Int)} (E : Eds h n es) {e : List Int} (o : EdgeOk h n e) (m : e ∉ es) (k : Nat) : Eds h n (es.take k ++ [e] ++ es.drop k) := by
  have p : (es.take k ++ [e] ++ es.drop k).Perm (e :: es) := by
    rw [List.append_assoc]
    refine List.Perm.trans List.perm_middle ?_
    show (e :: (es.take k ++ es.drop k)).Perm (e :: es)
    rw [List.take_append_drop]
  refine ⟨fun f hf => ?_, p.nodup_iff.mpr (List.nodup_cons.mpr ⟨m, E.nd⟩)⟩
  rcases List.mem_cons.mp (p.mem_iff.mp hf) with z | z
  · rw [z]; exact o
  · exact E.ok f z
theorem nin_eds (e : List Int) (es : List (List Int)) : ∃ b : Bool, ninD (intT e) (.lst (es.map intT)) = some (.bl b) ∧ (b = true ↔ e ∉ es) := by
  have h := inL_nb (enc := intT) (x := e) (l := es) 1 (okn_tupI 29 _) (fun y _ => okn_tupI 28 y) (nbn_tupI _) (fun y _ => nbn_tupI y) (fun y _ => intT_inj)
  refine ⟨_, (congrArg notO h).trans rfl, ?_⟩
  rw [Bool.not_eq_true', decide_eq_false_iff_not]
theorem ptup3 {p q r : PF} {env : List Ev} {a b c : D} (h1 : p env = some a) (h2 : q env = some b) (h3 : r env = some c) : ptup [p, q, r] env = some (.tup [a, b, c]) := by
  have e : evs [p, q, r] env = some [a, b, c] := by simp [evs, h1, h2, h3]
  unfold ptup
  rw [e]
theorem Eds.snoc {h n : Int} {es : List (List Int)} (E : Eds h n es) {e : List Int} (o : EdgeOk h n e) (m : e ∉ es) : Eds h n (es ++ [e]) := by
  have := E.ins o m es.length
  rwa [List.take_length, List.drop_length, List.append_nil] at this
end LR
set_option Elab.async false
set_option maxRecDepth 100000
set_option linter.all false
set_option maxHeartbeats 4000000
namespace LR
open PySem PySem.Spec PyProof.Rows L2
/-! # games as the laws draw them -/
structure GameIn (h : Int) (os : List Bool) (es : List (List Int)) : Prop where
  sz : 1 ≤ os.length ∧ os.length ≤ 9
  eds : Eds h os.length es
  len : es.length ≤ 63
  out : ∀ v : Nat, v < os.length → ∃ e ∈ es, es0 e = (v : Int)
theorem GameIn.head {h os es} (G : GameIn h os es) : ∀ v : Nat, v < os.length → ∃ e ∈ es, e.head? = some (v : Int) := fun v hv => by
  obtain ⟨e, he, h0⟩ := G.out v hv
  obtain ⟨s, r, t, rfl, _⟩ := G.eds.ok e he
  exact ⟨_, he, congrArg some h0⟩
/-- letters and edges -/
def lesD (os : List Bool) (es : List (List Int)) : Ow := .ls [.str (strO os), edL es]
/-! ## the edges of a row's game -/
def rowP (ls : List Int) (i : Nat) : List (List Int) := (List.range i).flatMap fun k : Nat => [[(k : Int), 2 * ls.getD k 0, (k : Int) + 1], [(k : Int) + 1, 2 * ls.getD k 0 - 1, (k : Int)]]
theorem rowP_succ {ls : List Int} {i : Nat} : rowP ls (i + 1) = rowP ls i ++ [[(i : Int), 2 * ls.getD i 0, (i : Int) + 1]] ++ [[(i : Int) + 1, 2 * ls.getD i 0 - 1, (i : Int)]] := by
  unfold rowP
  rw [List.range_succ, List.flatMap_append, List.append_assoc]
  rfl
theorem rowP_len (ls : List Int) (i : Nat) : (rowP ls i).length = 2 * i := by
  induction i with
  | zero => rfl
  | succ i ih => rw [rowP_succ, List.length_append, List.length_append, ih]; rfl
def rowE (ls : List Int) : List (List Int) := if ls.length = 0 then [[0, 0, 0]] else rowP ls ls.length
theorem mem_rowP {ls : List Int} {i : Nat} {e : List Int} : e ∈ rowP ls i ↔ ∃ k, k < i ∧ (e = [(k : Int), 2 * ls.getD k 0, (k : Int) + 1] ∨ e = [(k : Int) + 1, 2 * ls.getD k 0 - 1, (k : Int)]) := by
  unfold rowP
  rw [List.mem_flatMap]
  constructor
  · rintro ⟨k, hk, he⟩
    refine ⟨k, List.mem_range.mp hk, ?_⟩
    simpa using he
  · rintro ⟨k, hk, he⟩
    exact ⟨k, List.mem_range.mpr hk, by simpa using he⟩
theorem getD_get {α : Type} {ls : List α} {k : Nat} {d : α} (h : k < ls.length) : ls.getD k d = ls[k] := by
  rw [List.getD_eq_getElem?_getD, List.getElem?_eq_getElem h]; rfl
theorem lev_at {h : Int} {ls : List Int} (hb : ∀ l ∈ ls, 1 ≤ l ∧ l ≤ h) {k : Nat} (hk : k < ls.length) : 1 ≤ ls.getD k 0 ∧ ls.getD k 0 ≤ h := by
  rw [getD_get hk]
  exact hb _ (List.getElem_mem hk)
theorem rowP_eds {h : Int} {ls : List Int} (hb : ∀ l ∈ ls, 1 ≤ l ∧ l ≤ h) : ∀ i, i ≤ ls.length → Eds h (ls.length + 1) (rowP ls i) ∧ ∀ e ∈ rowP ls i, es0 e ≤ i ∧ es2 e ≤ i
  | 0, _ => ⟨⟨fun _ h => (by cases h), .nil⟩, fun _ h => (by cases h)⟩
  | i + 1, hi => by
    obtain ⟨O, fb⟩ := rowP_eds hb i (by omega)
    have lb := lev_at hb (k := i) (by omega)
    rw [rowP_succ]
    generalize ls.getD i 0 = l at lb
    have o1 : EdgeOk h (ls.length + 1) [(i : Int), 2 * l, (i : Int) + 1] := ⟨_, _, _, rfl, ⟨by omega, by omega⟩, ⟨by omega, by omega⟩, ⟨by omega, by omega⟩⟩
    have o2 : EdgeOk h (ls.length + 1) [(i : Int) + 1, 2 * l - 1, (i : Int)] := ⟨_, _, _, rfl, ⟨by omega, by omega⟩, ⟨by omega, by omega⟩, ⟨by omega, by omega⟩⟩
    have O1 := O.snoc o1 fun m => by
      have := (fb _ m).2
      have e : es2 [(i : Int), 2 * l, (i : Int) + 1] = (i : Int) + 1 := rfl
      omega
    have O2 := O1.snoc o2 fun m => by
      rcases List.mem_append.mp m with z | z
      · have := (fb _ z).1
        have e : es0 [(i : Int) + 1, 2 * l - 1, (i : Int)] = (i : Int) + 1 := rfl
        omega
      · have := List.mem_singleton.mp z
        injection this with h1 _
        omega
    refine ⟨O2, fun e he => ?_⟩
    rcases List.mem_append.mp he with z | z
    · rcases List.mem_append.mp z with z | z
      · have := fb e z; omega
      · rw [List.mem_singleton.mp z]
        show (i : Int) ≤ ((i + 1 : Nat) : Int) ∧ (i : Int) + 1 ≤ ((i + 1 : Nat) : Int)
        omega
    · rw [List.mem_singleton.mp z]
      show (i : Int) + 1 ≤ ((i + 1 : Nat) : Int) ∧ (i : Int) ≤ ((i + 1 : Nat) : Int)
      omega
theorem rowE_eds {h : Int} {ls : List Int} (h1 : 1 ≤ h) (hb : ∀ l ∈ ls, 1 ≤ l ∧ l ≤ h) : Eds h (ls.length + 1) (rowE ls) := by
  unfold rowE
  split
  · refine ⟨fun e he => ?_, by simp⟩
    rw [List.mem_singleton.mp he]
    exact ⟨_, _, _, rfl, ⟨by omega, by omega⟩, ⟨by omega, by omega⟩, ⟨by omega, by omega⟩⟩
  · exact (rowP_eds hb _ (Nat.le_refl _)).1
theorem rowE_len (ls : List Int) : (rowE ls).length ≤ 2 * ls.length + 1 := by
  unfold rowE
  split
  · show 1 ≤ _; omega
  · rw [rowP_len]; omega
theorem rowE_out (ls : List Int) : ∀ v : Nat, v < ls.length + 1 → ∃ e ∈ rowE ls, es0 e = (v : Int) := fun v hv => by
  unfold rowE
  split
  · rename_i c
    exact ⟨_, List.mem_singleton.mpr rfl, by show (0 : Int) = v; omega⟩
  · by_cases c : v < ls.length
    · exact ⟨_, mem_rowP.mpr ⟨v, c, .inl rfl⟩, rfl⟩
    · exact ⟨_, mem_rowP.mpr ⟨v - 1, by omega, .inr rfl⟩, by show ((v - 1 : Nat) : Int) + 1 = v; omega⟩
theorem strIx {z : Str} {l : List Nat} (e : z.cps.toList = l) (hl : l.length ≤ 1000) {k : Nat} {c : Nat} (h : l[k]? = some c) : ixD (.str z) (.int (k : Int)) = some (.str ⟨#[c]⟩) := by
  have hz : z.length ≤ 100000 := by
    show z.cps.size ≤ _
    rw [← Array.length_toList, e]; omega
  show (if z.length ≤ 100000 then (atI z.cps.toList (k : Int)).map (fun c => D.str ⟨#[c]⟩) else none) = _
  rw [if_pos hz, e, atI_of h]; rfl
theorem strO_ix {os : List Bool} (hl : os.length ≤ 1000) {k : Nat} {b : Bool} (h : os[k]? = some b) : ixD (.str (strO os)) (.int (k : Int)) = some (.str ⟨#[ltr b]⟩) :=
  strIx (l := os.map ltr) (by unfold strO; simp) (by rw [List.length_map]; exact hl) (by rw [List.getElem?_map, h]; rfl)
/-- levels as a list or a tuple -/
def seqX (tp : Bool) (ls : List Int) : D := if tp then intT ls else intL ls
theorem seqX_at {tp ls} {k : Nat} {x : Int} (h : ls[k]? = some x) : ixD (seqX tp ls) (nat k) = some (.int x) := by
  cases tp
  · exact atI_of (by rw [List.getElem?_map, h]; rfl)
  · exact atI_of (by rw [List.getElem?_map, h]; rfl)
theorem GameIn.snoc {h : Int} {os : List Bool} {es : List (List Int)} (G : GameIn h os es) {e : List Int} (o : EdgeOk h os.length e) (m : e ∉ es) (hl : es.length + 1 ≤ 63) : GameIn h os (es ++ [e]) :=
  ⟨G.sz, G.eds.snoc o m, by rw [List.length_append]; exact hl, fun v hv => by
    obtain ⟨f, hf, h0⟩ := G.out v hv
    exact ⟨f, List.mem_append_left _ hf, h0⟩⟩
end LR
set_option Elab.async false
set_option maxRecDepth 100000
set_option linter.all false
set_option maxHeartbeats 4000000
namespace LR
open PySem PySem.Spec PyProof.Rows L2
/-! # groups of nodes that reach each other, ordered so that edges lead to earlier ones -/
theorem RchI.refl {es : List (List Int)} {a : Int} : RchI es a a := ⟨[], .nil⟩
theorem RchI.trans {es : List (List Int)} {a b c : Int} (x : RchI es a b) (y : RchI es b c) : RchI es a c := by
  obtain ⟨p, y⟩ := y
  induction y with
  | nil => exact x
  | snoc w m s ih => obtain ⟨q, hq⟩ := ih; exact ⟨_, .snoc hq m s⟩
theorem RchI.edge {es : List (List Int)} {e : List Int} (m : e ∈ es) : RchI es (es0 e) (es2 e) := ⟨_, .snoc .nil m rfl⟩
def MutI (es : List (List Int)) (a b : Int) : Prop := RchI es a b ∧ RchI es b a
theorem MutI.refl {es : List (List Int)} {a : Int} : MutI es a a := ⟨.refl, .refl⟩
theorem MutI.symm {es : List (List Int)} {a b : Int} (h : MutI es a b) : MutI es b a := ⟨h.2, h.1⟩
theorem MutI.trans {es : List (List Int)} {a b c : Int} (h : MutI es a b) (k : MutI es b c) : MutI es a c := ⟨h.1.trans k.1, k.2.trans h.2⟩
noncomputable def mutB (es : List (List Int)) (a b : Int) : Bool := @decide (MutI es a b) (Classical.propDecidable _)
theorem mutB_iff {es a b} : mutB es a b = true ↔ MutI es a b := @decide_eq_true_iff _ (Classical.propDecidable _)
/-- the group of a -/
noncomputable def grpOf (es : List (List Int)) (ns : List Int) (a : Int) : List Int := ns.filter (mutB es a)
theorem mem_grpOf {es ns a x} : x ∈ grpOf es ns a ↔ x ∈ ns ∧ MutI es a x := by unfold grpOf; rw [List.mem_filter, mutB_iff]
theorem grpOf_eq {es ns a b} (h : MutI es a b) : grpOf es ns a = grpOf es ns b := by
  unfold grpOf
  refine List.filter_congr fun x _ => ?_
  rw [Bool.eq_iff_iff, mutB_iff, mutB_iff]
  exact ⟨fun k => h.symm.trans k, fun k => h.trans k⟩
structure GrpI (es : List (List Int)) (ns : List Int) (gs : List (List Int)) (i : Nat) : Prop where
  cov : ∀ x ∈ ns.take i, x ∈ gs.flatten
  cls : ∀ g ∈ gs, ∃ a tl, g = a :: tl ∧ g = grpOf es ns a ∧ a ∈ ns.take i
  dj : gs.Pairwise fun g g' => (∀ x ∈ g, x ∉ g') ∧ ∀ a b tl tl', g = a :: tl → g' = b :: tl' → a < b
theorem GrpI.start {es ns} : GrpI es ns [] 0 := ⟨fun x h => (by rw [List.take_zero] at h; cases h), fun g h => (by cases h), .nil⟩
theorem GrpI.mem {es ns gs i} (G : GrpI es ns gs i) {x : Int} (h : x ∈ gs.flatten) : grpOf es ns x ∈ gs ∧ x ∈ ns := by
  obtain ⟨g, hg, hx⟩ := List.mem_flatten.mp h
  obtain ⟨a, tl, _, e, _⟩ := G.cls g hg
  have h2 := hx
  rw [e, mem_grpOf] at h2
  rw [← grpOf_eq h2.2, ← e]
  exact ⟨hg, h2.1⟩
theorem GrpI.more {es ns gs i a} (G : GrpI es ns gs i) (so : ns.Pairwise (· < ·)) (e : ns[i]? = some a) (h : a ∉ gs.flatten) : GrpI es ns (gs ++ [grpOf es ns a]) (i + 1) := by
  have et : ns.take (i + 1) = ns.take i ++ [a] := by rw [List.take_succ, e]; rfl
  have es' : ns = ns.take i ++ a :: ns.drop (i + 1) := get_split e
  have am : a ∈ ns := List.mem_of_getElem? e
  have pre : (ns.take i).filter (mutB es a) = [] := by
    rw [List.filter_eq_nil_iff]
    intro x hx
    rw [mutB_iff]
    intro m
    have := (G.mem (G.cov x hx)).1
    rw [← grpOf_eq m] at this
    exact h (List.mem_flatten.mpr ⟨_, this, mem_grpOf.mpr ⟨am, .refl⟩⟩)
  have hd : grpOf es ns a = a :: (ns.drop (i + 1)).filter (mutB es a) := by
    unfold grpOf
    conv => lhs; rw [es']
    rw [List.filter_append, pre, List.nil_append, List.filter_cons_of_pos (mutB_iff.mpr .refl)]
  refine ⟨fun x hx => ?_, fun g hg => ?_, ?_⟩
  · rw [List.flatten_append]
    rw [et] at hx
    rcases List.mem_append.mp hx with z | z
    · exact List.mem_append_left _ (G.cov x z)
    · rw [List.mem_singleton.mp z]
      refine List.mem_append_right _ ?_
      rw [List.flatten_singleton, mem_grpOf]
      exact ⟨am, .refl⟩
  · rcases List.mem_append.mp hg with z | z
    · obtain ⟨b, tl, h1, h2, h3⟩ := G.cls g z
      exact ⟨b, tl, h1, h2, by rw [et]; exact List.mem_append_left _ h3⟩
    · rw [List.mem_singleton.mp z]
      exact ⟨a, _, hd, rfl, by rw [et]; simp⟩
  · rw [List.pairwise_append]
    refine ⟨G.dj, by simp, fun g hg g' hg' => ?_⟩
    rw [List.mem_singleton.mp hg']
    refine ⟨fun x hx hx2 => ?_, fun b c tl tl' e1 e2 => ?_⟩
    · have h1 : x ∈ gs.flatten := List.mem_flatten.mpr ⟨g, hg, hx⟩
      have h2 := (G.mem h1).1
      rw [mem_grpOf] at hx2
      rw [← grpOf_eq hx2.2] at h2
      exact h (List.mem_flatten.mpr ⟨_, h2, mem_grpOf.mpr ⟨am, .refl⟩⟩)
    · rw [hd] at e2
      injection e2 with e2 _
      subst e2
      obtain ⟨b', tl2, h1, _, h3⟩ := G.cls g hg
      rw [h1] at e1
      injection e1 with e1 _
      subst e1
      rw [es'] at so
      exact (List.pairwise_append.mp so).2.2 _ h3 _ List.mem_cons_self
/-! ## in order -/
structure CompI (es : List (List Int)) (gs ws os : List (List Int)) : Prop where
  sub : ws.Sublist gs
  perm : (os ++ ws).Perm gs
  lead : ∀ (k : Nat) g, os[k]? = some g → ∀ e ∈ es, es0 e ∈ g → es2 e ∈ g ++ (os.take k).flatten
  first : ∀ (k : Nat) g, os[k]? = some g → ∀ g', (g' ∈ os.drop (k + 1) ∨ g' ∈ ws) → (∀ e ∈ es, es0 e ∈ g' → es2 e ∈ g' ++ (os.take k).flatten) → ∀ a b tl tl', g = a :: tl → g' = b :: tl' → a < b
theorem CompI.start {es gs} : CompI es gs gs [] := ⟨List.Sublist.refl _, List.Perm.refl _, fun k g e => (by cases e), fun k g e => (by cases e)⟩
theorem CompI.next {es ns gs ws os i g j} (G : GrpI es ns gs i) (C : CompI es gs ws os) (e : ws[j]? = some g) (hl : ∀ e ∈ es, es0 e ∈ g → es2 e ∈ g ++ os.flatten) (hf : ∀ (m : Nat) g', m < j → ws[m]? = some g' → ¬ ∀ e ∈ es, es0 e ∈ g' → es2 e ∈ g' ++ os.flatten) : CompI es gs (ws.eraseIdx j) (os ++ [g]) := by
  have dw := G.dj.sublist C.sub
  have sp : ws = ws.take j ++ g :: ws.drop (j + 1) := get_split e
  have er : ws.eraseIdx j = ws.take j ++ ws.drop (j + 1) := List.eraseIdx_eq_take_drop_succ ws j
  refine ⟨(List.eraseIdx_sublist ws j).trans C.sub, ?_, fun k g2 e2 => ?_, fun k g2 e2 g' hg' => ?_⟩
  · refine List.Perm.trans ?_ C.perm
    rw [er]
    conv => rhs; rw [sp]
    rw [List.append_assoc]
    refine List.Perm.append_left os ?_
    exact (List.perm_middle (l₁ := ws.take j) (a := g) (l₂ := ws.drop (j + 1))).symm
  · rw [List.getElem?_append] at e2
    split at e2
    · rename_i hk
      intro e' he h0
      rw [List.take_append_of_le_length (by omega)]
      exact C.lead k g2 e2 e' he h0
    · rename_i hk
      have : k = os.length := by
        have := (List.getElem?_eq_some_iff.mp e2).1
        simp at this; omega
      subst this
      rw [Nat.sub_self] at e2
      cases e2
      intro e' he h0
      rw [List.take_left]
      exact hl e' he h0
  · rw [List.getElem?_append] at e2
    split at e2
    · rename_i hk
      rw [List.take_append_of_le_length (by omega)]
      refine C.first k g2 e2 g' ?_
      rcases hg' with z | z
      · rw [List.drop_append_of_le_length (by omega)] at z
        rcases List.mem_append.mp z with z | z
        · exact .inl z
        · rw [List.mem_singleton.mp z]; exact .inr (List.mem_of_getElem? e)
      · exact .inr (List.mem_of_mem_eraseIdx z)
    · rename_i hk
      have : k = os.length := by
        have := (List.getElem?_eq_some_iff.mp e2).1
        simp at this; omega
      subst this
      rw [Nat.sub_self] at e2
      cases e2
      rw [List.take_left]
      intro cond a b tl tl' h1 h2
      rcases hg' with z | z
      · rw [List.drop_of_length_le (by simp)] at z; cases z
      · rw [er] at z
        rcases List.mem_append.mp z with z | z
        · obtain ⟨m, hm⟩ := List.mem_iff_getElem?.mp z
          rw [List.getElem?_take] at hm
          split at hm
          · rename_i c; exact absurd cond (hf m g' c hm)
          · cases hm
        · rw [sp] at dw
          have := (List.pairwise_append.mp dw).2.1
          exact ((List.pairwise_cons.mp this).1 g' z).2 a b tl tl' h1 h2
theorem exists_least {α : Type} (c : α → Nat) : ∀ {l : List α}, l ≠ [] → ∃ v ∈ l, ∀ w ∈ l, c v ≤ c w
  | [], h => absurd rfl h
  | [a], _ => ⟨a, List.mem_cons_self, fun w hw => by rw [List.mem_singleton.mp hw]; exact Nat.le_refl _⟩
  | a :: b :: r, _ => by
    obtain ⟨v, hv, h⟩ := exists_least c (l := b :: r) (by simp)
    by_cases q : c a ≤ c v
    · refine ⟨a, List.mem_cons_self, fun w hw => ?_⟩
      rcases List.mem_cons.mp hw with rfl | hw
      · exact Nat.le_refl _
      · exact Nat.le_trans q (h w hw)
    · refine ⟨v, List.mem_cons_of_mem _ hv, fun w hw => ?_⟩
      rcases List.mem_cons.mp hw with rfl | hw
      · omega
      · exact h w hw
theorem filter_less {α : Type} {l : List α} {p q : α → Bool} (h : ∀ x, p x = true → q x = true) {v : α} (hv : v ∈ l) (h1 : q v = true) (h2 : p v = false) : (l.filter p).length < (l.filter q).length := by
  have e : l.filter p = (l.filter q).filter p := by
    rw [List.filter_filter]
    refine List.filter_congr fun x _ => ?_
    cases c : p x with
    | false => rfl
    | true => rw [h x c]; rfl
  rw [e]
  refine List.length_filter_lt_length_iff_exists.mpr ⟨v, List.mem_filter.mpr ⟨hv, h1⟩, by rw [h2]; decide⟩
open Classical in
theorem CompI.free {es ns gs ws os} (G : GrpI es ns gs ns.length) (C : CompI es gs ws os) (cl : ∀ e ∈ es, es0 e ∈ ns → es2 e ∈ ns) (hw : ws ≠ []) : ∃ g ∈ ws, ∀ e ∈ es, es0 e ∈ g → es2 e ∈ g ++ os.flatten := by
  have inG : ∀ g ∈ ws, g ∈ gs := fun g h => C.sub.mem h
  have nf : ws.flatten ≠ [] := by
    obtain ⟨g, r, rfl⟩ := List.exists_cons_of_ne_nil hw
    obtain ⟨a, tl, rfl, _⟩ := G.cls g (inG g List.mem_cons_self)
    simp
  obtain ⟨v, hv, least⟩ := exists_least (fun v => (ns.filter fun x => decide (RchI es v x)).length) nf
  obtain ⟨g, hg, vg⟩ := List.mem_flatten.mp hv
  refine ⟨g, hg, fun e he h0 => ?_⟩
  apply Classical.byContradiction
  intro c
  obtain ⟨a, tl, _, eg, _⟩ := G.cls g (inG g hg)
  rw [eg, mem_grpOf] at vg
  have h0' := h0
  rw [eg, mem_grpOf] at h0'
  have yn := cl e he h0'.1
  have yf := G.cov (es2 e) (by rw [List.take_length]; exact yn)
  have yw : es2 e ∈ ws.flatten := by
    obtain ⟨g', hg', hy⟩ := List.mem_flatten.mp yf
    rcases List.mem_append.mp (C.perm.mem_iff.mpr hg') with z | z
    · exact absurd (List.mem_append_right _ (List.mem_flatten.mpr ⟨g', z, hy⟩)) c
    · exact List.mem_flatten.mpr ⟨g', z, hy⟩
  have vy : RchI es v (es2 e) := (vg.2.2.trans h0'.2.1).trans (.edge he)
  have nvy : ¬ RchI es (es2 e) v := fun r => c (List.mem_append_left _ (by rw [eg, mem_grpOf]; exact ⟨yn, vg.2.trans ⟨vy, r⟩⟩))
  have := least _ yw
  have := filter_less (l := ns) (p := fun x => decide (RchI es (es2 e) x)) (q := fun x => decide (RchI es v x)) (fun x hx => by
    rw [decide_eq_true_eq] at hx ⊢
    exact vy.trans hx) vg.1 (by rw [decide_eq_true_eq]; exact .refl) (by rw [decide_eq_false_iff_not]; exact nvy)
  omega
/-- what components tells -/
structure Comps (es : List (List Int)) (ns : List Int) (os : List (List Int)) : Prop where
  cov : ∀ x, x ∈ os.flatten ↔ x ∈ ns
  cls : ∀ g ∈ os, ∃ a tl, g = a :: tl ∧ g = grpOf es ns a
  dj : os.Pairwise fun g g' => ∀ x ∈ g, x ∉ g'
  lead : ∀ (k : Nat) g, os[k]? = some g → ∀ e ∈ es, es0 e ∈ g → es2 e ∈ g ++ (os.take k).flatten
  first : ∀ (k : Nat) g, os[k]? = some g → ∀ g', g' ∈ os.drop (k + 1) → (∀ e ∈ es, es0 e ∈ g' → es2 e ∈ g' ++ (os.take k).flatten) → ∀ a b tl tl', g = a :: tl → g' = b :: tl' → a < b
theorem flatten_nodup {os : List (List Int)} (h1 : ∀ g ∈ os, g.Nodup) (h2 : os.Pairwise fun g g' => ∀ x ∈ g, x ∉ g') : os.flatten.Nodup := by
  induction os with
  | nil => simp
  | cons g r ih =>
    rw [List.flatten_cons, List.nodup_append]
    have h2 := List.pairwise_cons.mp h2
    refine ⟨h1 g List.mem_cons_self, ih (fun g hg => h1 g (List.mem_cons_of_mem _ hg)) h2.2, fun x hx y hy e => ?_⟩
    subst e
    obtain ⟨g', hg', hy⟩ := List.mem_flatten.mp hy
    exact h2.1 g' hg' x hx hy
theorem Comps.perm {es ns os} (C : Comps es ns os) (nd : ns.Nodup) : os.flatten.Perm ns := by
  refine (List.perm_ext_iff_of_nodup (flatten_nodup (fun g hg => ?_) C.dj) nd).mpr C.cov
  obtain ⟨a, tl, _, h⟩ := C.cls g hg
  rw [h]; exact nd.filter _
theorem nodup_sub_len {α : Type} [DecidableEq α] : ∀ {l m : List α}, l.Nodup → (∀ x ∈ l, x ∈ m) → l.length ≤ m.length
  | [], _, _, _ => Nat.zero_le _
  | x :: l, m, nd, h => by
    have nd := List.nodup_cons.mp nd
    have hx := h x List.mem_cons_self
    have := nodup_sub_len (l := l) (m := m.erase x) nd.2 fun y hy => (List.mem_erase_of_ne (fun e : y = x => nd.1 (by rw [← e]; exact hy))).mpr (h y (List.mem_cons_of_mem _ hy))
    rw [List.length_erase_of_mem hx] at this
    have := List.length_pos_of_mem hx
    rw [List.length_cons]; omega
end LR
set_option Elab.async false
set_option maxRecDepth 100000
set_option linter.all false
set_option maxHeartbeats 4000000
namespace LR
open PySem PySem.Spec PyProof.Rows L2
/-! # a row that the edges of a web are allowed on -/
theorem cn_left {row ms : List Int} {lv : Int} {j : Nat} (h : j ≤ row.length) : cn (row ++ ms) lv j = cn row lv j := by
  unfold cn; rw [List.take_append_of_le_length h]
theorem cn_right {row ms : List Int} {lv : Int} {j : Nat} : cn (row ++ ms) lv (row.length + j) = cnt lv row + cn ms lv j := by
  unfold cn cnt
  rw [List.take_length_add_append, List.filter_append, List.length_append]
  omega
theorem cn_full {row : List Int} {lv : Int} : cn row lv row.length = cnt lv row := by unfold cn; rw [List.take_length]
theorem cnt_app {lv : Int} {a b : List Int} : cnt lv (a ++ b) = cnt lv a + cnt lv b := by
  unfold cnt; rw [List.filter_append, List.length_append]; omega
theorem cnt_one {lv l : Int} : cnt lv [l] = if lv ≤ l then 1 else 0 := by
  unfold cnt; by_cases c : lv ≤ l <;> simp [c]
theorem cnt_nn {lv : Int} {a : List Int} : 0 ≤ cnt lv a := by unfold cnt; omega
theorem cn_le_cnt {lv : Int} {a : List Int} {j : Nat} (h : j ≤ a.length) : cn a lv j ≤ cnt lv a := by rw [← cn_full]; exact cn_mono _ _ h
theorem cn_nn {lv : Int} {a : List Int} {j : Nat} : 0 ≤ cn a lv j := by unfold cn; exact cnt_nn
/-- steps st of the nodes ks suit the edges on the row -/
def Suits (es : List (List Int)) (row : List Int) (ks : List Int) (st : Int → Nat) : Prop := ∀ e ∈ es, es0 e ∈ ks → es2 e ∈ ks → alw row (st (es0 e)) (es1 e) (st (es2 e)) = true
structure Stands (L : Int) (es : List (List Int)) (ns row ks : List Int) (st : Int → Nat) : Prop where
  perm : ks.Perm ns
  lev : ∀ l ∈ row, 1 ≤ l ∧ l ≤ L
  len : ns ≠ [] → row.length + 1 ≤ ns.length
  le : ∀ v ∈ ks, st v ≤ row.length
  ok : Suits es row ks st
/-- the edges of a level -/
def below (L : Int) (ns : List Int) (es : List (List Int)) : List (List Int) := es.filter fun e => decide (es1 e < 2 * L) && (decide (es0 e ∈ ns) && decide (es2 e ∈ ns))
theorem mem_below {L ns es e} : e ∈ below L ns es ↔ e ∈ es ∧ es1 e < 2 * L ∧ es0 e ∈ ns ∧ es2 e ∈ ns := by
  unfold below
  rw [List.mem_filter, Bool.and_eq_true, Bool.and_eq_true, decide_eq_true_eq, decide_eq_true_eq, decide_eq_true_eq]
theorem alw_of {ls : List Int} {u p w : Int} (h0 : p % 2 = 0 → cn ls (p / 2 + 1) w.toNat ≤ cn ls (p / 2 + 1) u.toNat) (h1 : p % 2 = 1 → cn ls (p / 2 + 1) w.toNat < cn ls (p / 2 + 1) u.toNat) : alw ls u p w = true :=
  alw_step.mpr ⟨h0, fun c => h1 (by omega)⟩
/-- a level's loop: the groups of os.take i are placed -/
structure StI (L : Int) (es : List (List Int)) (os : List (List Int)) (i : Nat) (row ks : List Int) (st : Int → Nat) : Prop where
  ks_ : ks.Perm (os.take i).flatten
  lev : ∀ l ∈ row, 1 ≤ l ∧ l ≤ L
  len : 0 < i → row.length + 1 ≤ ks.length
  z : i = 0 → row = [] ∧ ks = []
  le : ∀ v ∈ ks, st v ≤ row.length
  ok : Suits es row ks st
theorem StI.start {L es os} : StI L es os 0 [] [] fun _ => 0 := ⟨by simp, fun l h => (by cases h), fun h => by omega, fun _ => ⟨rfl, rfl⟩, fun v h => (by cases h), fun e _ h => (by cases h)⟩
def joinR (L : Int) (i : Nat) (row r : List Int) : List Int := (if i = 0 then row else row ++ [L]) ++ r
theorem StI.next {L : Int} {es : List (List Int)} {ns : List Int} {os : List (List Int)} {i : Nat} {row ks : List Int} {st : Int → Nat} {g r : List Int} {sg : Int → Nat} {kg : List Int}
    (S : StI L (below L ns es) os i row ks st) (C : Comps (below L ns es) ns os) (hL : 1 ≤ L) (hi : i < os.length) (eg : os[i]? = some g) (G : Stands (L - 1) (below L ns es) g r kg sg) (gn : g ≠ []) (rk : ∀ e ∈ es, 0 ≤ es1 e)
    (st' : Int → Nat) (e1 : ∀ v ∈ ks, st' v = st v) (e2 : ∀ v ∈ g, st' v = (if i = 0 then row else row ++ [L]).length + sg v) : StI L (below L ns es) os (i + 1) (joinR L i row r) (ks ++ g) st' := by
  have et : (os.take (i + 1)).flatten = (os.take i).flatten ++ g := by
    rw [List.take_succ, eg, List.flatten_append]; simp
  have gk : ∀ v, v ∈ kg ↔ v ∈ g := fun v => G.perm.mem_iff
  have kf : ∀ v, v ∈ ks ↔ v ∈ (os.take i).flatten := fun v => S.ks_.mem_iff
  have dj : ∀ v ∈ ks, v ∉ g := fun v hv hg => by
    obtain ⟨g', hg', hv'⟩ := List.mem_flatten.mp ((kf v).mp hv)
    obtain ⟨j, hj⟩ := List.mem_iff_getElem?.mp hg'
    rw [List.getElem?_take] at hj
    split at hj
    · rename_i hji
      have := List.pairwise_iff_getElem.mp C.dj j i (by omega) hi hji
      have e3 := (List.getElem?_eq_some_iff.mp hj).2
      have e4 := (List.getElem?_eq_some_iff.mp eg).2
      rw [e3, e4] at this
      exact this v hv' hg
    · cases hj
  let pr : List Int := if i = 0 then row else row ++ [L]
  have hpr : joinR L i row r = pr ++ r := rfl
  have prl : row.length ≤ pr.length := by
    show _ ≤ (if i = 0 then row else row ++ [L]).length
    split <;> simp
  have prc : ∀ lv j, j ≤ row.length → cn (pr ++ r) lv j = cn row lv j := fun lv j hj => by
    rw [cn_left (by omega)]
    show cn (if i = 0 then row else row ++ [L]) lv j = _
    split
    · rfl
    · rw [cn_left hj]
  refine ⟨?_, fun l hl => ?_, fun _ => ?_, fun h => by omega, fun v hv => ?_, fun e he h0 h2 => ?_⟩
  · rw [et]; exact S.ks_.append_right g
  · rw [hpr] at hl
    rcases List.mem_append.mp hl with hl | hl
    · have hl : l ∈ (if i = 0 then row else row ++ [L]) := hl
      split at hl
      · exact S.lev l hl
      · rcases List.mem_append.mp hl with hl | hl
        · exact S.lev l hl
        · rw [List.mem_singleton.mp hl]; omega
    · have := G.lev l hl; omega
  · have h2 := G.len gn
    rw [hpr, List.length_append, List.length_append]
    show (if i = 0 then row else row ++ [L]).length + _ + 1 ≤ _
    split
    · rename_i h; rw [(S.z h).1]; simp; omega
    · have := S.len (by omega)
      rw [List.length_append, List.length_singleton]; omega
  · rw [hpr, List.length_append]
    rcases List.mem_append.mp hv with hv | hv
    · rw [e1 v hv]; have := S.le v hv; omega
    · rw [e2 v hv]; have := G.le v ((gk v).mpr hv)
      show pr.length + _ ≤ _; omega
  · rw [hpr]
    have hb := mem_below.mp he
    have r0 := rk e hb.1
    have nat : ∀ n : Nat, ((n : Int)).toNat = n := fun n => Int.toNat_natCast n
    rcases List.mem_append.mp h0 with h0 | h0
    · rcases List.mem_append.mp h2 with h2 | h2
      · have := alw_step.mp (S.ok e he h0 h2)
        rw [nat, nat] at this
        rw [e1 _ h0, e1 _ h2]
        refine alw_step.mpr ?_
        rw [nat, nat, prc _ _ (S.le _ h0), prc _ _ (S.le _ h2)]
        exact this
      · -- an edge from an earlier group to a later one
        exfalso
        obtain ⟨g', hg', hv'⟩ := List.mem_flatten.mp ((kf _).mp h0)
        obtain ⟨j, hj⟩ := List.mem_iff_getElem?.mp hg'
        rw [List.getElem?_take] at hj
        split at hj
        · rename_i hji
          have := C.lead j g' hj e he hv'
          have m : es2 e ∈ ks := by
            rw [kf]
            rcases List.mem_append.mp this with z | z
            · exact List.mem_flatten.mpr ⟨g', hg', z⟩
            · obtain ⟨g2, hg2, hz⟩ := List.mem_flatten.mp z
              obtain ⟨k, hk⟩ := List.mem_iff_getElem?.mp hg2
              rw [List.getElem?_take] at hk
              split at hk
              · exact List.mem_flatten.mpr ⟨g2, List.mem_iff_getElem?.mpr ⟨k, by rw [List.getElem?_take, if_pos (by omega)]; exact hk⟩, hz⟩
              · cases hk
          exact dj _ m h2
        · cases hj
    · rcases List.mem_append.mp h2 with h2 | h2
      · -- down into an earlier group
        have i0 : i ≠ 0 := fun c => by rw [(S.z c).2] at h2; cases h2
        have epr : pr = row ++ [L] := by show (if i = 0 then row else row ++ [L]) = _; rw [if_neg i0]
        rw [e1 _ h2, e2 _ h0, if_neg i0]
        have lt : ∀ lv, lv ≤ L → cn (pr ++ r) lv (st (es2 e)) < cn (pr ++ r) lv ((row ++ [L]).length + sg (es0 e)) := fun lv hlv => by
          have a := prc lv _ (S.le _ h2)
          have b := cn_le_cnt (lv := lv) (S.le _ h2)
          have c := cn_nn (lv := lv) (a := r) (j := sg (es0 e))
          rw [a, epr, cn_right, cnt_app, cnt_one, if_pos hlv]; omega
        have := lt (es1 e / 2 + 1) (by omega)
        refine alw_of ?_ ?_
        · rw [nat, nat]; intro _; omega
        · rw [nat, nat]; intro _; exact this
      · have := alw_step.mp (G.ok e he ((gk _).mpr h0) ((gk _).mpr h2))
        rw [nat, nat] at this
        rw [e2 _ h0, e2 _ h2]
        refine alw_step.mpr ?_
        rw [nat, nat]
        show (_ → cn (pr ++ r) _ (pr.length + _) ≤ cn (pr ++ r) _ (pr.length + _)) ∧ (_ → cn (pr ++ r) _ (pr.length + _) < cn (pr ++ r) _ (pr.length + _))
        rw [cn_right, cn_right]
        exact ⟨fun c => by have := this.1 c; omega, fun c => by have := this.2 c; omega⟩
theorem cn_zero {r : List Int} {L : Int} (h : ∀ l ∈ r, l ≤ L - 1) (j : Nat) : cn r L j = 0 := by
  unfold cn cnt
  rw [List.filter_eq_nil_iff.mpr]
  · rfl
  · intro x hx
    have := h x (List.mem_of_mem_take hx)
    simp; omega
theorem HasOdd.mono {es es' : List (List Int)} (h : ∀ e ∈ es, e ∈ es') (o : HasOdd es) : HasOdd es' := by
  obtain ⟨e, he, o1, o2⟩ := o
  refine ⟨e, h e he, o1, o2.mono fun f hf => ?_⟩
  have := List.mem_filter.mp hf
  exact List.mem_filter.mpr ⟨h f this.1, this.2⟩
/-- at the top, all edges suit -/
theorem Stands.top {L : Int} {es : List (List Int)} {ns row ks : List Int} {st : Int → Nat} (S : Stands L (below L ns es) ns row ks st) (h : ∀ e ∈ es, es1 e ≤ 2 * L ∧ es0 e ∈ ns ∧ es2 e ∈ ns) : Suits es row ks st := fun e he h0 h2 => by
  by_cases c : es1 e < 2 * L
  · exact S.ok e (mem_below.mpr ⟨he, c, (h e he).2⟩) h0 h2
  have := (h e he).1
  have z : ∀ j, cn row (L + 1) j = 0 := cn_zero fun l hl => by have := (S.lev l hl).2; omega
  refine alw_of (fun _ => ?_) fun o => by omega
  rw [show es1 e / 2 + 1 = L + 1 by omega, z, z]; exact Int.le_refl _
end LR
set_option Elab.async false
set_option maxRecDepth 100000
set_option linter.all false
set_option maxHeartbeats 4000000
namespace LR
open PySem PySem.Spec PyProof.Rows L2
/-! # placements: steps of the nodes, none for off -/
abbrev Plc := List (Option Nat)
def optN : Option Nat → D
  | none => .non
  | some s => nat s
def plcD (φ : Plc) : D := .lst (φ.map optN)
def pat (φ : Plc) (v : Int) : Option Nat := φ.getD v.toNat none
/-- the edge lets a node at s stay -/
def okAt (ls : List Int) (φ : Plc) (s : Nat) (e : List Int) : Bool := match pat φ (es2 e) with
  | none => false
  | some t => alw ls s (es1 e) t
def outs (es : List (List Int)) (v : Nat) : List (List Int) := es.filter fun e => decide (es0 e = (v : Int))
theorem mem_outs {es v e} : e ∈ outs es v ↔ e ∈ es ∧ es0 e = (v : Int) := by unfold outs; rw [List.mem_filter, decide_eq_true_eq]
def goodAt (ls : List Int) (os : List Bool) (es : List (List Int)) (φ : Plc) (v s : Nat) : Bool := if os.getD v false = true then (outs es v).any (okAt ls φ s) else (outs es v).all (okAt ls φ s)
def fitsB (ls : List Int) (os : List Bool) (es : List (List Int)) (φ : Plc) (v : Nat) : Bool := match φ.getD v none with
  | none => true
  | some s => goodAt ls os es φ v s
theorem any_perm {α : Type} {l m : List α} (h : ∀ x, x ∈ l ↔ x ∈ m) (p : α → Bool) : l.any p = m.any p := by
  rw [Bool.eq_iff_iff, List.any_eq_true, List.any_eq_true]
  exact ⟨fun ⟨x, a, b⟩ => ⟨x, (h x).mp a, b⟩, fun ⟨x, a, b⟩ => ⟨x, (h x).mpr a, b⟩⟩
theorem all_perm {α : Type} {l m : List α} (h : ∀ x, x ∈ l ↔ x ∈ m) (p : α → Bool) : l.all p = m.all p := by
  rw [Bool.eq_iff_iff, List.all_eq_true, List.all_eq_true]
  exact ⟨fun k x a => k x ((h x).mpr a), fun k x a => k x ((h x).mp a)⟩
theorem fitsB_perm {ls os es es' φ v} (h : ∀ e, e ∈ es ↔ e ∈ es') : fitsB ls os es φ v = fitsB ls os es' φ v := by
  have h2 : ∀ e, e ∈ outs es v ↔ e ∈ outs es' v := fun e => by rw [mem_outs, mem_outs, h]
  unfold fitsB
  cases φ.getD v none with
  | none => rfl
  | some s => show goodAt ls os es φ v s = goodAt ls os es' φ v s; unfold goodAt; rw [any_perm h2, all_perm h2]
/-- a placement on the ladder's steps -/
structure PlcOk (n top : Nat) (φ : Plc) : Prop where
  len : φ.length = n
  le : ∀ s, some s ∈ φ → s ≤ top
theorem PlcOk.at_le {n top φ} (P : PlcOk n top φ) {v : Nat} {s : Nat} (h : φ.getD v none = some s) : v < n ∧ s ≤ top := by
  rw [List.getD_eq_getElem?_getD] at h
  cases e : φ[v]? with
  | none => rw [e] at h; cases h
  | some o =>
    rw [e] at h
    have h : o = some s := h
    subst h
    have := (List.getElem?_eq_some_iff.mp e).1
    exact ⟨by rw [← P.len]; exact this, P.le s (List.mem_of_getElem? e)⟩
theorem PlcOk.set {n top φ} (P : PlcOk n top φ) {v : Nat} {o : Option Nat} (h : ∀ s, o = some s → s ≤ top) : PlcOk n top (φ.set v o) := by
  refine ⟨by rw [List.length_set, P.len], fun s hs => ?_⟩
  rcases List.mem_or_eq_of_mem_set hs with m | m
  · exact P.le s m
  · exact h s m.symm
theorem plc_at {φ : Plc} {v : Nat} (h : v < φ.length) : ixD (plcD φ) (.int (v : Int)) = some (optN (φ.getD v none)) := by
  refine atI_of ?_
  rw [List.getElem?_map, List.getElem?_eq_getElem h, getD_get h]; rfl
theorem getD_set_eq {φ : Plc} {v : Nat} {o : Option Nat} (h : v < φ.length) : (φ.set v o).getD v none = o := by
  rw [List.getD_eq_getElem?_getD, List.getElem?_set_self (by simpa using h)]; rfl
theorem getD_set_ne {φ : Plc} {v u : Nat} {o : Option Nat} (h : u ≠ v) : (φ.set v o).getD u none = φ.getD u none := by
  rw [List.getD_eq_getElem?_getD, List.getD_eq_getElem?_getD, List.getElem?_set_ne (Ne.symm h)]
theorem pif_of {c p q : PF} {env : List Ev} {b : Bool} {z : D} (h : c env = some (.bl b)) (h1 : b = true → p env = some z) (h2 : b = false → q env = some z) : pif c p q env = some z := by
  unfold pif
  rw [h]
  cases b
  · exact h2 rfl
  · exact h1 rfl
theorem ltr_A (b : Bool) : eqD (.str ⟨#[ltr b]⟩) (.str (Str.ofString "A")) = some (.bl b) := by
  show (if PyData.strOk ⟨#[ltr b]⟩ = true ∧ PyData.strOk (Str.ofString "A") = true then some (D.bl (decide ((⟨#[ltr b]⟩ : Str) = Str.ofString "A"))) else none) = _
  cases b
  · rw [if_pos ⟨by decide +kernel, by decide +kernel⟩, decide_eq_false (by decide +kernel)]
  · rw [if_pos ⟨by decide +kernel, by decide +kernel⟩, decide_eq_true (by decide +kernel)]
theorem owner_A {os : List Bool} {v : Nat} (hl : os.length ≤ 1000) (hv : v < os.length) : ∃ x, ixD (.str (strO os)) (.int (v : Int)) = some x ∧ eqD x (.str (Str.ofString "A")) = some (.bl (os.getD v false)) :=
  ⟨_, strO_ix hl (List.getElem?_eq_getElem hv), by rw [getD_get hv]; exact ltr_A _⟩
end LR
set_option Elab.async false
set_option maxRecDepth 100000
set_option linter.all false
set_option maxHeartbeats 4000000
namespace LR
open PySem PySem.Spec PyProof.Rows L2
/-! # what suits steps has no odd cycle; plans of placements that fit -/
def ParE (par : Int) (es : List (List Int)) (e : List Int) : Prop := es1 e % 2 = par ∧ RchI (es.filter fun f => decide (es1 f ≤ es1 e)) (es2 e) (es0 e)
def HasPar (par : Int) (es : List (List Int)) : Prop := ∃ e ∈ es, ParE par es e
theorem HasPar.mono {par : Int} {es es' : List (List Int)} (h : ∀ e ∈ es, e ∈ es') : HasPar par es → HasPar par es' := fun ⟨e, m, o, r⟩ =>
  ⟨e, h e m, o, r.mono fun f hf => List.mem_filter.mpr ⟨h f (List.mem_filter.mp hf).1, (List.mem_filter.mp hf).2⟩⟩
/-- along a path: from step to step -/
theorem path_alw {ls : List Int} {st : Int → Int} {es : List (List Int)} {b : Int} (h : ∀ e ∈ es, es1 e ≤ b ∧ alw ls (st (es0 e)) (es1 e) (st (es2 e)) = true) {x y : Int} (r : RchI es x y) : x = y ∨ ∃ m, m ≤ b ∧ alw ls (st x) m (st y) = true := by
  obtain ⟨p, w⟩ := r
  induction w with
  | nil => exact .inl rfl
  | snoc w m s ih =>
    obtain ⟨hb, ha⟩ := h _ m
    rw [s] at ha
    rcases ih with rfl | ⟨k, kb, ka⟩
    · exact .inr ⟨_, hb, ha⟩
    · exact .inr ⟨_, Int.max_le.mpr ⟨kb, hb⟩, alw_trans ka ha⟩
theorem suits_even {ls : List Int} {st : Int → Int} {es : List (List Int)} (h : ∀ e ∈ es, alw ls (st (es0 e)) (es1 e) (st (es2 e)) = true) : ¬ HasOdd es := by
  rintro ⟨e, m, o, r⟩
  have ha := h e m
  have hr := path_alw (b := es1 e) (st := st) (ls := ls) (fun f hf => ⟨of_decide_eq_true (List.mem_filter.mp hf).2, h f (List.mem_filter.mp hf).1⟩) r
  have lp : alw ls (st (es0 e)) (es1 e) (st (es0 e)) = true := by
    rcases hr with q | ⟨k, kb, ka⟩
    · rw [q] at ha; exact ha
    · have := alw_trans ha ka
      rwa [Int.max_eq_left kb] at this
  have := alw_loop lp
  omega
/-- a cycle whose greatest rank has this remainder -/
structure CycP (par : Int) (es c : List (List Int)) : Prop where
  ne : c ≠ []
  sz : c.length ≤ 10
  mem : ∀ e ∈ c, e ∈ es
  chain : ∀ (k : Nat) e f, c[k]? = some e → c[k + 1]? = some f → es0 f = es2 e
  close : ∀ e f, c[0]? = some e → c[c.length - 1]? = some f → es0 e = es2 f
  nd : (c.map es0).Nodup
  odd : ∃ e ∈ c, es1 e % 2 = par ∧ ∀ f ∈ c, es1 f ≤ es1 e
theorem cycP_of {par : Int} {es : List (List Int)} {e : List Int} {p : List (List Int)} (m : e ∈ es) (o : es1 e % 2 = par) (w : Wk (es.filter fun f => decide (es1 f ≤ es1 e)) (es2 e) p (es0 e)) (nd : (p.map es0 ++ [es0 e]).Nodup) (sz : p.length ≤ 9) : CycP par es (e :: p) where
  ne := by simp
  sz := by show p.length + 1 ≤ 10; omega
  mem := fun f hf => by
    rcases List.mem_cons.mp hf with z | z
    · rw [z]; exact m
    · exact (List.mem_filter.mp (w.mem f z)).1
  chain := (Wk.cons m (w.mono fun f hf => (List.mem_filter.mp hf).1)).chain
  close := fun x y h1 h2 => by
    have W := Wk.cons m (w.mono fun f hf => (List.mem_filter.mp hf).1)
    rw [W.last y h2]
    cases h1; rfl
  nd := by
    rw [List.map_cons]
    exact (List.perm_append_singleton (es0 e) (p.map es0)).nodup_iff.mp nd
  odd := ⟨e, List.mem_cons_self, o, fun f hf => by
    rcases List.mem_cons.mp hf with z | z
    · rw [z]; exact Int.le_refl _
    · exact of_decide_eq_true (List.mem_filter.mp (w.mem f z)).2⟩
/-! ## where each node has an edge there is a cycle -/
theorem rch_run {es : List (List Int)} {w : Nat → Int} {f : Nat → List Int} {a : Nat} : ∀ {b : Nat}, a ≤ b → (∀ k, a ≤ k → k < b → f k ∈ es ∧ es0 (f k) = w k ∧ es2 (f k) = w (k + 1)) → RchI es (w a) (w b) := by
  intro b
  induction b with
  | zero => intro h _; have : a = 0 := by omega
            subst this; exact .refl
  | succ b ih =>
    intro h k
    by_cases c : a = b + 1
    · subst c; exact .refl
    · obtain ⟨p, wk⟩ := ih (by omega) fun j h1 h2 => k j h1 (by omega)
      obtain ⟨m, e0, e2⟩ := k b (by omega) (by omega)
      have := Wk.snoc wk m e0
      rw [e2] at this
      exact ⟨_, this⟩
theorem exists_repeat {S : List Int} {w : Nat → Int} (h : ∀ k, w k ∈ S) : ∃ i j, i < j ∧ w i = w j := by
  refine Classical.byContradiction fun c => ?_
  have nd : ((List.range (S.length + 1)).map w).Nodup := by
    rw [List.nodup_iff_pairwise_ne, List.pairwise_map]
    refine List.pairwise_lt_range.imp fun {a b} hab e => c ⟨a, b, hab, e⟩
  have := nodup_sub_len nd (m := S) fun x hx => by
    obtain ⟨k, _, rfl⟩ := List.mem_map.mp hx
    exact h k
  rw [List.length_map, List.length_range] at this
  omega
theorem greatest_in {r : Nat → Int} : ∀ (i n : Nat), ∃ m, i ≤ m ∧ m ≤ i + n ∧ ∀ k, i ≤ k → k ≤ i + n → r k ≤ r m
  | i, 0 => ⟨i, Nat.le_refl _, Nat.le_refl _, fun k a b => by have : k = i := by omega
                                                              subst this; exact Int.le_refl _⟩
  | i, n + 1 => by
    obtain ⟨m, a, b, c⟩ := greatest_in i n (r := r)
    by_cases h : r m ≤ r (i + n + 1)
    · refine ⟨i + n + 1, by omega, by omega, fun k k1 k2 => ?_⟩
      by_cases e : k = i + n + 1
      · subst e; exact Int.le_refl _
      · exact Int.le_trans (c k k1 (by omega)) h
    · refine ⟨m, a, by omega, fun k k1 k2 => ?_⟩
      by_cases e : k = i + n + 1
      · subst e; omega
      · exact c k k1 (by omega)
theorem cycle_in {S : List Int} {es : List (List Int)} {f : Int → List Int} {v0 : Int} (h0 : v0 ∈ S) (h : ∀ v ∈ S, f v ∈ es ∧ es0 (f v) = v ∧ es2 (f v) ∈ S) : ∃ e ∈ es, RchI (es.filter fun g => decide (es1 g ≤ es1 e)) (es2 e) (es0 e) := by
  let w : Nat → Int := fun k => Nat.rec v0 (fun _ v => es2 (f v)) k
  have ws : ∀ k, w (k + 1) = es2 (f (w k)) := fun k => rfl
  have wm : ∀ k, w k ∈ S := fun k => by
    induction k with
    | zero => exact h0
    | succ k ih => rw [ws]; exact (h _ ih).2.2
  obtain ⟨i, j, ij, e⟩ := exists_repeat wm
  obtain ⟨m, m1, m2, mx⟩ := greatest_in (r := fun k => es1 (f (w k))) i (j - i - 1)
  have part : ∀ a b, i ≤ a → a ≤ b → b ≤ j → RchI (es.filter fun g => decide (es1 g ≤ es1 (f (w m)))) (w a) (w b) := fun a b ia ab bj =>
    rch_run (f := fun k => f (w k)) ab fun k k1 k2 => ⟨List.mem_filter.mpr ⟨(h _ (wm k)).1, decide_eq_true (mx k (by omega) (by omega))⟩, (h _ (wm k)).2.1, (ws k).symm⟩
  refine ⟨f (w m), (h _ (wm m)).1, ?_⟩
  rw [(h _ (wm m)).2.1, ← ws m]
  have p1 := part (m + 1) j (by omega) (by omega) (Nat.le_refl _)
  have p2 := part i m (Nat.le_refl _) m1 (by omega)
  rw [e] at p2
  exact p1.trans p2
/-! ## plans of placements -/
theorem okAt_some {ls φ s e} (h : okAt ls φ s e = true) : ∃ t, pat φ (es2 e) = some t ∧ alw ls s (es1 e) t = true := by
  unfold okAt at h
  cases c : pat φ (es2 e) with
  | none => rw [c] at h; cases h
  | some t => rw [c] at h; exact ⟨t, rfl, h⟩
/-- the edges at nodes with a step: all of B's, A's entries -/
def inNet (os : List Bool) (pl : Int → Option (List Int)) (who : Bool) (on : List Int) (e : List Int) : Bool := decide (es0 e ∈ on) && (!(os.getD (es0 e).toNat false == who) || decide (pl (es0 e) = some e))
theorem mem_net {os pl who on e} : inNet os pl who on e = true ↔ es0 e ∈ on ∧ (os.getD (es0 e).toNat false ≠ who ∨ pl (es0 e) = some e) := by
  unfold inNet
  rw [Bool.and_eq_true, Bool.or_eq_true, decide_eq_true_eq, decide_eq_true_eq, Bool.not_eq_true', beq_eq_false_iff_ne]
/-- what stands, and fits -/
structure Fits (h : Int) (ls : List Int) (os : List Bool) (es : List (List Int)) (φ : Plc) : Prop where
  ok : PlcOk os.length ls.length φ
  fit : ∀ v : Nat, v < os.length → fitsB ls os es φ v = true
  ed : ∀ e ∈ es, EdgeOk h os.length e
/-- the nodes with a step -/
def onI (φ : Plc) : List Int := ((List.range φ.length).filter fun v => (φ.getD v none).isSome).map fun v : Nat => (v : Int)
theorem mem_onI {φ : Plc} {x : Int} : x ∈ onI φ ↔ ∃ v : Nat, x = (v : Int) ∧ v < φ.length ∧ ∃ s, φ.getD v none = some s := by
  unfold onI
  rw [List.mem_map]
  constructor
  · rintro ⟨v, m, rfl⟩
    obtain ⟨a, b⟩ := List.mem_filter.mp m
    exact ⟨v, rfl, List.mem_range.mp a, Option.isSome_iff_exists.mp b⟩
  · rintro ⟨v, rfl, a, b⟩
    exact ⟨v, List.mem_filter.mpr ⟨List.mem_range.mpr a, Option.isSome_iff_exists.mpr b⟩, rfl⟩
/-- an edge that the placement allows leads from step to step -/
theorem Fits.edge {h : Int} {ls os es φ} (F : Fits h ls os es φ) {e : List Int} (m : e ∈ es) {pl : Int → Option (List Int)} (hp : ∀ v : Nat, v < os.length → os.getD v false = true → (∃ s, φ.getD v none = some s) → ∀ e, pl (v : Int) = some e → ∃ s, φ.getD v none = some s ∧ okAt ls φ s e = true)
    (hn : inNet os pl true (onI φ) e = true) : ∃ s t, pat φ (es0 e) = some s ∧ pat φ (es2 e) = some t ∧ alw ls s (es1 e) t = true := by
  obtain ⟨m0, hw⟩ := mem_net.mp hn
  obtain ⟨v, ev, hv, s, hs⟩ := mem_onI.mp m0
  have hv2 : v < os.length := by rw [← F.ok.len]; exact hv
  have ep : pat φ (es0 e) = some s := by unfold pat; rw [ev, Int.toNat_natCast]; exact hs
  have fin : okAt ls φ s e = true → ∃ s t, pat φ (es0 e) = some s ∧ pat φ (es2 e) = some t ∧ alw ls s (es1 e) t = true := fun k => by
    obtain ⟨t, a, b⟩ := okAt_some k
    exact ⟨s, t, ep, a, b⟩
  rw [ev, Int.toNat_natCast] at hw
  by_cases c : os.getD v false = true
  · rcases hw with z | z
    · exact absurd c z
    · obtain ⟨s', a, b⟩ := hp v hv2 c ⟨s, hs⟩ e z
      rw [hs] at a; cases a
      exact fin b
  · have hf := F.fit v hv2
    unfold fitsB at hf
    rw [hs] at hf
    have hf : goodAt ls os es φ v s = true := hf
    unfold goodAt at hf
    rw [if_neg c, List.all_eq_true] at hf
    exact fin (hf e (mem_outs.mpr ⟨m, ev⟩))
/-- what a plan for A has to be -/
def PlanA (ls : List Int) (os : List Bool) (es : List (List Int)) (φ : Plc) (pl : Int → Option (List Int)) : Prop := ∀ v : Nat, v < os.length → os.getD v false = true → ∀ s, φ.getD v none = some s → ∃ e ∈ es, pl (v : Int) = some e ∧ es0 e = (v : Int) ∧ okAt ls φ s e = true
theorem PlanA.edge {h : Int} {ls os es φ pl} (F : Fits h ls os es φ) (A : PlanA ls os es φ pl) {e : List Int} (m : e ∈ es) (hn : inNet os pl true (onI φ) e = true) : ∃ s t, pat φ (es0 e) = some s ∧ pat φ (es2 e) = some t ∧ alw ls s (es1 e) t = true :=
  F.edge m (fun v hv ho ⟨s, hs⟩ e' z => by
    obtain ⟨e2, _, a, _, b⟩ := A v hv ho s hs
    rw [a] at z; cases z
    exact ⟨s, hs, b⟩) hn
end LR
set_option Elab.async false
set_option maxRecDepth 100000
set_option linter.all false
set_option maxHeartbeats 4000000
namespace LR
open PySem PySem.Spec PyProof.Rows L2
/-! # the least placement that fits -/
/-- off stands above all -/
def ple : Option Nat → Option Nat → Prop
  | _, none => True
  | none, some _ => False
  | some s, some t => s ≤ t
theorem ple_refl : ∀ a, ple a a
  | none => trivial
  | some s => Nat.le_refl s
theorem ple_trans : ∀ {a b c}, ple a b → ple b c → ple a c
  | _, _, none, _, _ => trivial
  | none, none, some _, _, h => h
  | none, some _, some _, h, _ => h.elim
  | some _, none, some _, _, h => h.elim
  | some s, some t, some u, h, k => Nat.le_trans h k
theorem ple_some {a : Option Nat} {t : Nat} (h : ple a (some t)) : ∃ s, a = some s ∧ s ≤ t := by
  cases a with
  | none => exact h.elim
  | some s => exact ⟨s, rfl, h⟩
def PLe (φ ψ : Plc) : Prop := ∀ v, ple (φ.getD v none) (ψ.getD v none)
theorem PLe.refl {φ : Plc} : PLe φ φ := fun _ => ple_refl _
theorem PLe.trans {a b c : Plc} (h : PLe a b) (k : PLe b c) : PLe a c := fun v => ple_trans (h v) (k v)
theorem PLe.set {φ ψ : Plc} {v : Nat} {o : Option Nat} (h : PLe φ ψ) (k : ple o (ψ.getD v none)) : PLe (φ.set v o) ψ := fun u => by
  by_cases c : u = v
  · subst c
    rcases Nat.lt_or_ge u φ.length with z | z
    · rw [getD_set_eq z]; exact k
    · rw [List.set_eq_of_length_le z]; exact h u
  · rw [getD_set_ne c]; exact h u
section
variable {ls : List Int} {os : List Bool} {es : List (List Int)} {φ ψ : Plc} {h : Int} {n v s : Nat}
theorem ok_mono (p : PLe φ ψ) {e : List Int} (k : okAt ls ψ s e = true) : okAt ls φ s e = true := by
  unfold okAt pat at k ⊢
  have q := p (es2 e).toNat
  cases c : ψ.getD (es2 e).toNat none with
  | none => rw [c] at k; cases k
  | some t =>
    rw [c] at q k
    obtain ⟨t', e1, lt⟩ := ple_some q
    rw [e1]
    exact alw_down k (Int.ofNat_le.mpr lt)
theorem good_mono (p : PLe φ ψ) (k : goodAt ls os es ψ v s = true) : goodAt ls os es φ v s = true := by
  unfold goodAt at k ⊢
  by_cases c : os.getD v false = true
  · rw [if_pos c] at k ⊢
    obtain ⟨e, m, q⟩ := List.any_eq_true.mp k
    exact List.any_eq_true.mpr ⟨e, m, ok_mono p q⟩
  · rw [if_neg c] at k ⊢
    exact List.all_eq_true.mpr fun e m => ok_mono p (List.all_eq_true.mp k e m)
theorem fits_at (e : φ.getD v none = some s) : fitsB ls os es φ v = goodAt ls os es φ v s := by unfold fitsB; rw [e]
/-- .. at the same step -/
theorem fits_mono (p : PLe φ ψ) (e1 : φ.getD v none = some s) (e2 : ψ.getD v none = some s) (k : fitsB ls os es ψ v = true) : fitsB ls os es φ v = true := by
  rw [fits_at e2] at k
  rw [fits_at e1]
  exact good_mono p k
/-- a wrong node stands below a fitting placement -/
theorem wrong_below (p : PLe φ ψ) (w : fitsB ls os es φ v = false) (k : fitsB ls os es ψ v = true) {t : Nat} (e : ψ.getD v none = some t) : ∃ s, φ.getD v none = some s ∧ s < t := by
  have q := p v
  rw [e] at q
  obtain ⟨s, e1, lt⟩ := ple_some q
  refine ⟨s, e1, Nat.lt_of_le_of_ne lt fun z => ?_⟩
  subst z
  rw [fits_mono p e1 e k] at w
  cases w
theorem wrong_on (w : fitsB ls os es φ v = false) : ∃ s, φ.getD v none = some s := by
  cases c : φ.getD v none with
  | none => unfold fitsB at w; rw [c] at w; cases w
  | some s => exact ⟨s, rfl⟩
/-- one step up stays below -/
def stepV (top : Nat) (φ : Plc) (v : Nat) : Option Nat := match φ.getD v none with
  | none => none
  | some s => if s < top then some (s + 1) else none
theorem step_below (p : PLe φ ψ) (w : fitsB ls os es φ v = false) (k : fitsB ls os es ψ v = true) (ok : PlcOk n ls.length ψ) : ple (stepV ls.length φ v) (ψ.getD v none) := by
  cases c : ψ.getD v none with
  | none => exact trivial
  | some t =>
    obtain ⟨s, e1, lt⟩ := wrong_below p w k c
    have tl := (ok.at_le c).2
    unfold stepV
    rw [e1]
    show ple (if s < ls.length then some (s + 1) else none) (some t)
    rw [if_pos (by omega)]
    exact lt
/-- the heights' sum -/
def hgt (top : Nat) : Option Nat → Nat
  | none => top + 1
  | some s => s
def wgt (top : Nat) (φ : Plc) : Nat := (φ.map (hgt top)).sum
theorem wgt_le {top : Nat} : ∀ {φ : Plc}, (∀ s, some s ∈ φ → s ≤ top) → wgt top φ ≤ φ.length * (top + 1)
  | [], _ => Nat.zero_le _
  | a :: r, h => by
    have ih := wgt_le (top := top) (φ := r) fun s m => h s (List.mem_cons_of_mem _ m)
    have ha : hgt top a ≤ top + 1 := by
      cases a with
      | none => exact Nat.le_refl _
      | some s => exact Nat.le_succ_of_le (h s List.mem_cons_self)
    show hgt top a + wgt top r ≤ (r.length + 1) * (top + 1)
    rw [Nat.succ_mul]
    omega
theorem wgt_set {top : Nat} : ∀ {φ : Plc} {v : Nat} {o : Option Nat}, v < φ.length → wgt top (φ.set v o) + hgt top (φ.getD v none) = wgt top φ + hgt top o
  | [], _, _, h => absurd h (Nat.not_lt_zero _)
  | a :: r, 0, o, _ => by
    show hgt top o + wgt top r + hgt top a = hgt top a + wgt top r + hgt top o
    omega
  | a :: r, v + 1, o, h => by
    have ih := wgt_set (top := top) (φ := r) (v := v) (o := o) (Nat.lt_of_succ_lt_succ h)
    have e : (a :: r).getD (v + 1) none = r.getD v none := rfl
    rw [e]
    show hgt top a + wgt top (r.set v o) + hgt top (r.getD v none) = hgt top a + wgt top r + hgt top o
    omega
/-- THE LEAST that fits -/
structure LeastFit (ls : List Int) (os : List Bool) (es : List (List Int)) (φ : Plc) : Prop where
  ok : PlcOk os.length ls.length φ
  fit : ∀ v, v < os.length → fitsB ls os es φ v = true
  le : ∀ ψ, PlcOk os.length ls.length ψ → (∀ v, v < os.length → fitsB ls os es ψ v = true) → PLe φ ψ
theorem LeastFit.perm {es' : List (List Int)} (a : LeastFit ls os es φ) (k : ∀ e, e ∈ es ↔ e ∈ es') : LeastFit ls os es' φ :=
  ⟨a.ok, fun v hv => by rw [← fitsB_perm k]; exact a.fit v hv, fun ψ o f => a.le ψ o fun v hv => by rw [fitsB_perm k]; exact f v hv⟩
theorem zeros_le {m : Nat} {ψ : Plc} (l : ψ.length = m) : PLe (List.replicate m (some 0)) ψ := fun v => by
  rw [List.getD_eq_getElem?_getD, List.getD_eq_getElem?_getD]
  rcases Nat.lt_or_ge v m with z | z
  · rw [List.getElem?_eq_getElem (by rw [List.length_replicate]; exact z), List.getElem_replicate]
    cases ψ[v]?.getD none with
    | none => exact trivial
    | some t => exact Nat.zero_le t
  · rw [List.getElem?_eq_none (l := List.replicate m (some 0)) (by rw [List.length_replicate]; exact z), List.getElem?_eq_none (l := ψ) (by omega)]
    exact trivial
end
end LR
set_option Elab.async false
set_option maxRecDepth 100000
set_option linter.all false
set_option maxHeartbeats 4000000
set_option Elab.async false
set_option maxRecDepth 100000
set_option linter.all false
set_option maxHeartbeats 4000000
namespace LR
open PySem PySem.Spec PyProof.Rows L2
/-! # a ladder that holds a row tells what the row tells -/
theorem gap_pair {ls : List Int} (hb : ∀ l ∈ ls, 1 ≤ l) (s t : Nat) : IsGap ls (min (s : Int).toNat (t : Int).toNat) (max (s : Int).toNat (t : Int).toNat) (gp ls (min s t) (max s t)) := by
  rw [Int.toNat_natCast, Int.toNat_natCast]
  exact gp_is hb (by omega)
section
variable {ls row : List Int} {c : List Nat}
theorem alw_ch (hb : ∀ l ∈ ls, 1 ≤ l) (hr : ∀ l ∈ row, 1 ≤ l) (C : Ch ls row c) {i j s t : Nat} (e1 : c[i]? = some s) (e2 : c[j]? = some t) {r : Int} (r0 : 0 ≤ r) : alw ls s r t = alw row i r j := by
  rw [alw_gap (by omega) (by omega) r0 (gap_pair hb s t), alw_gap (by omega) (by omega) r0 (gap_pair hr i j)]
  have key : gp ls (min s t) (max s t) = gp row (min i j) (max i j) ∧ ((t : Int) ≤ s ↔ (j : Int) ≤ i) ∧ ((t : Int) < s ↔ (j : Int) < i) := by
    rcases Nat.lt_trichotomy i j with h | h | h
    · obtain ⟨a, b, d⟩ := C.gap hb hr e1 e2 (Nat.le_of_lt h)
      have d := d h
      rw [Nat.min_eq_left a, Nat.max_eq_right a, Nat.min_eq_left (by omega), Nat.max_eq_right (by omega)]
      exact ⟨b, by omega, by omega⟩
    · subst h
      rw [e1] at e2; cases e2
      obtain ⟨a, b, d⟩ := C.gap hb hr e1 e1 (Nat.le_refl _)
      rw [Nat.min_self, Nat.max_self, Nat.min_self, Nat.max_self]
      exact ⟨b, by omega, by omega⟩
    · obtain ⟨a, b, d⟩ := C.gap hb hr e2 e1 (Nat.le_of_lt h)
      have d := d h
      rw [Nat.min_eq_right a, Nat.max_eq_left a, Nat.min_eq_right (by omega), Nat.max_eq_left (by omega)]
      exact ⟨b, by omega, by omega⟩
  obtain ⟨k1, k2, k3⟩ := key
  rw [k1, decide_eq_decide.mpr k2, decide_eq_decide.mpr k3]
/-- a placement carried over -/
def carP (c : List Nat) (φ : Plc) : Plc := φ.map fun o => o.map fun s => c.getD s 0
theorem carP_at {φ : Plc} {v : Nat} : (carP c φ).getD v none = (φ.getD v none).map fun s => c.getD s 0 := by
  unfold carP
  rw [List.getD_eq_getElem?_getD, List.getD_eq_getElem?_getD, List.getElem?_map]
  cases φ[v]? <;> rfl
theorem carP_len {φ : Plc} : (carP c φ).length = φ.length := List.length_map ..
theorem Ch.getD_at (C : Ch ls row c) {s : Nat} (h : s ≤ row.length) : c[s]? = some (c.getD s 0) ∧ c.getD s 0 ≤ ls.length := by
  obtain ⟨a, e, b⟩ := C.at h
  rw [List.getD_eq_getElem?_getD, e]
  exact ⟨rfl, b⟩
theorem carP_ok {n : Nat} {φ : Plc} (C : Ch ls row c) (P : PlcOk n row.length φ) : PlcOk n ls.length (carP c φ) := ⟨by rw [carP_len, P.len], fun s m => by
  obtain ⟨o, mo, e⟩ := List.mem_map.mp m
  cases o with
  | none => cases e
  | some t =>
    have e : some (c.getD t 0) = some s := e
    cases e
    exact (C.getD_at (P.le t mo)).2⟩
theorem carP_fit {n : Nat} {φ : Plc} {os : List Bool} {es : List (List Int)} {v : Nat} (hb : ∀ l ∈ ls, 1 ≤ l) (hr : ∀ l ∈ row, 1 ≤ l) (C : Ch ls row c) (P : PlcOk n row.length φ) (re : ∀ e ∈ es, 0 ≤ es1 e) : fitsB ls os es (carP c φ) v = fitsB row os es φ v := by
  have oke : ∀ (s : Nat), s ≤ row.length → ∀ e ∈ es, okAt ls (carP c φ) (c.getD s 0) e = okAt row φ s e := fun s hs e m => by
    unfold okAt pat
    rw [carP_at]
    cases k : φ.getD (es2 e).toNat none with
    | none => rfl
    | some t =>
      show alw ls _ _ _ = alw row _ _ _
      exact alw_ch hb hr C (C.getD_at hs).1 (C.getD_at (P.at_le k).2).1 (re e m)
  cases k : φ.getD v none with
  | none =>
    unfold fitsB
    rw [carP_at, k]; rfl
  | some s =>
    have k2 : (carP c φ).getD v none = some (c.getD s 0) := by rw [carP_at, k]; rfl
    rw [fits_at k, fits_at k2]
    have sl := (P.at_le k).2
    have e1 : (outs es v).any (okAt ls (carP c φ) (c.getD s 0)) = (outs es v).any (okAt row φ s) := by
      rw [Bool.eq_iff_iff, List.any_eq_true, List.any_eq_true]
      exact ⟨fun ⟨e, m, h⟩ => ⟨e, m, by rw [← oke s sl e (mem_outs.mp m).1]; exact h⟩, fun ⟨e, m, h⟩ => ⟨e, m, by rw [oke s sl e (mem_outs.mp m).1]; exact h⟩⟩
    have e2 : (outs es v).all (okAt ls (carP c φ) (c.getD s 0)) = (outs es v).all (okAt row φ s) := by
      rw [Bool.eq_iff_iff, List.all_eq_true, List.all_eq_true]
      exact ⟨fun h e m => by rw [← oke s sl e (mem_outs.mp m).1]; exact h e m, fun h e m => by rw [oke s sl e (mem_outs.mp m).1]; exact h e m⟩
    unfold goodAt
    rw [e1, e2]
end
end LR
set_option Elab.async false
set_option maxRecDepth 100000
set_option linter.all false
set_option maxHeartbeats 4000000
namespace LR
open PySem PySem.Spec PyProof.Rows L2
/-! # a web without an odd cycle suits a row of less levels than nodes -/
/-- from v with n edges of rank 2l - 1, none above -/
inductive CntW (es : List (List Int)) (b : Int) : Int → Nat → Prop
  | nil {v} : CntW es b v 0
  | low {e n} : e ∈ es → es1 e < b → CntW es b (es2 e) n → CntW es b (es0 e) n
  | hit {e n} : e ∈ es → es1 e = b → CntW es b (es2 e) n → CntW es b (es0 e) (n + 1)
def upB (es : List (List Int)) (b : Int) : List (List Int) := es.filter fun f => decide (es1 f ≤ b)
theorem rch_cons {es : List (List Int)} {e : List Int} {y : Int} (m : e ∈ es) (r : RchI es (es2 e) y) : RchI es (es0 e) y := by
  have h : RchI es (es0 e) (es2 e) := ⟨[e], by have := Wk.snoc (Wk.nil (es := es) (a := es0 e)) m rfl; exact this⟩
  exact h.trans r
theorem cnt_src {es : List (List Int)} {S : List Int} {b : Int} (hb : b % 2 = 1) (no : ¬ HasOdd es) (hS : ∀ e ∈ es, es0 e ∈ S) {v : Int} {n : Nat} (h : CntW es b v n) : ∃ ss : List Int, ss.length = n ∧ ss.Nodup ∧ ∀ s ∈ ss, s ∈ S ∧ RchI (upB es b) v s := by
  induction h with
  | nil => exact ⟨[], rfl, List.nodup_nil, fun s h => by cases h⟩
  | @low e n m lt _ ih =>
    obtain ⟨ss, l, nd, k⟩ := ih
    exact ⟨ss, l, nd, fun s hs => ⟨(k s hs).1, rch_cons (List.mem_filter.mpr ⟨m, decide_eq_true (by omega)⟩) (k s hs).2⟩⟩
  | @hit e n m eq _ ih =>
    obtain ⟨ss, l, nd, k⟩ := ih
    refine ⟨es0 e :: ss, by rw [List.length_cons, l], List.nodup_cons.mpr ⟨fun h => no ⟨e, m, by rw [eq]; exact hb, ?_⟩, nd⟩, fun s hs => ?_⟩
    · have := (k _ h).2
      unfold upB at this
      rw [eq]; exact this
    · rcases List.mem_cons.mp hs with z | z
      · rw [z]; exact ⟨hS e m, .refl⟩
      · exact ⟨(k s z).1, rch_cons (List.mem_filter.mpr ⟨m, decide_eq_true (by omega)⟩) (k s z).2⟩
theorem exists_max {P : Nat → Prop} : ∀ (N : Nat), P 0 → (∀ n, P n → n ≤ N) → ∃ m, P m ∧ ∀ n, P n → n ≤ m
  | 0, h0, b => ⟨0, h0, b⟩
  | N + 1, h0, b => by
    by_cases c : P (N + 1)
    · exact ⟨N + 1, c, b⟩
    · exact exists_max N h0 fun n h => by
        have := b n h
        by_cases e : n = N + 1
        · rw [e] at h; exact absurd h c
        · omega
/-- numbers for the nodes, one for each level: they fall along the edges -/
theorem counts_ex {es : List (List Int)} {S : List Int} (no : ¬ HasOdd es) (hS : ∀ e ∈ es, es0 e ∈ S) : ∃ c : Nat → Int → Nat, (∀ l v, c l v ≤ S.length) ∧ (∀ (l : Nat), ∀ e ∈ es, es1 e ≤ 2 * l - 1 → c l (es2 e) ≤ c l (es0 e)) ∧ ∀ (l : Nat), ∀ e ∈ es, es1 e = 2 * l - 1 → c l (es2 e) < c l (es0 e) := by
  have ex : ∀ (l : Nat) (v : Int), ∃ m, CntW es (2 * l - 1) v m ∧ ∀ n, CntW es (2 * l - 1) v n → n ≤ m := fun l v => exists_max S.length .nil fun n h => by
    obtain ⟨ss, e, nd, k⟩ := cnt_src (by omega) no hS h
    rw [← e]
    exact nodup_sub_len nd fun s hs => (k s hs).1
  refine ⟨fun l v => Classical.choose (ex l v), fun l v => ?_, fun l e he hr => ?_, fun l e he hr => ?_⟩
  · obtain ⟨ss, e, nd, k⟩ := cnt_src (by omega) no hS (Classical.choose_spec (ex l v)).1
    show Classical.choose (ex l v) ≤ _
    rw [← e]
    exact nodup_sub_len nd fun s hs => (k s hs).1
  · have h := (Classical.choose_spec (ex l (es2 e))).1
    by_cases c : es1 e = 2 * l - 1
    · exact Nat.le_of_succ_le ((Classical.choose_spec (ex l (es0 e))).2 _ (.hit he c h))
    · exact (Classical.choose_spec (ex l (es0 e))).2 _ (.low he (by omega) h)
  · have h := (Classical.choose_spec (ex l (es2 e))).1
    have := (Classical.choose_spec (ex l (es0 e))).2 _ (.hit he hr h)
    exact this
/-! ## the numbers of a node put together -/
section
variable {c : Nat → Int → Nat} {B H : Nat}
def sgQ (c : Nat → Int → Nat) (B H : Nat) : Nat → Int → Nat
  | 0, _ => 0
  | j + 1, v => c (H - j) v + B * sgQ c B H j v
theorem sgQ_div (hc : ∀ l v, c l v < B) (j : Nat) (v : Int) : sgQ c B H (j + 1) v / B = sgQ c B H j v := by
  show (c (H - j) v + B * sgQ c B H j v) / B = _
  rw [Nat.add_mul_div_left _ _ (by have := hc 0 v; omega), Nat.div_eq_of_lt (hc _ _), Nat.zero_add]
theorem sgQ_drop (hc : ∀ l v, c l v < B) (v : Int) : ∀ k, k ≤ H → sgQ c B H H v / B ^ k = sgQ c B H (H - k) v
  | 0, _ => by rw [Nat.pow_zero, Nat.div_one, Nat.sub_zero]
  | k + 1, h => by
    rw [Nat.pow_succ, ← Nat.div_div_eq_div_mul, sgQ_drop hc v k (by omega)]
    obtain ⟨j, e⟩ : ∃ j, H - k = j + 1 := ⟨H - k - 1, by omega⟩
    rw [e, sgQ_div hc, show H - (k + 1) = j by omega]
theorem sgQ_mono {v u : Int} : ∀ j, j ≤ H → (∀ l, H - j < l → l ≤ H → c l u ≤ c l v) → sgQ c B H j u ≤ sgQ c B H j v
  | 0, _, _ => Nat.le_refl _
  | j + 1, hj, h => by
    have i := sgQ_mono j (by omega) fun l a b => h l (by omega) b
    have a := h (H - j) (by omega) (by omega)
    exact Nat.add_le_add a (Nat.mul_le_mul_left _ i)
theorem sgQ_lt {v u : Int} {j : Nat} (hj : j + 1 ≤ H) (h : ∀ l, H - j < l → l ≤ H → c l u ≤ c l v) (k : c (H - j) u < c (H - j) v) : sgQ c B H (j + 1) u < sgQ c B H (j + 1) v := by
  have i := sgQ_mono (B := B) j (by omega) h
  exact Nat.add_lt_add_of_lt_of_le k (Nat.mul_le_mul_left _ i)
end
/-! ## the row between numbers in order -/
theorem count_run {g : Nat → Nat} {n : Nat → Int} {N : Nat} (mono : ∀ i, i + 1 < N → g i ≤ g (i + 1)) (step : ∀ i, i + 1 < N → n (i + 1) = n i + if g i = g (i + 1) then 0 else 1) (i : Nat) : ∀ d, i + d < N → n i ≤ n (i + d) ∧ g i ≤ g (i + d) ∧ (g i = g (i + d) → n i = n (i + d)) ∧ (g i < g (i + d) → n i < n (i + d))
  | 0, _ => ⟨Int.le_refl _, Nat.le_refl _, fun _ => rfl, fun h => absurd h (Nat.lt_irrefl _)⟩
  | d + 1, h => by
    obtain ⟨a, b, c, e⟩ := count_run mono step i d (by omega)
    have m := mono (i + d) (by omega)
    have s := step (i + d) (by omega)
    rw [← Nat.add_assoc]
    by_cases q : g (i + d) = g (i + d + 1)
    · rw [if_pos q] at s
      exact ⟨by omega, by omega, fun z => by have := c (by omega); omega, fun z => by have := e (by omega); omega⟩
    · rw [if_neg q] at s
      exact ⟨by omega, by omega, fun z => by omega, fun z => by omega⟩
theorem count_all {g : Nat → Nat} {n : Nat → Int} {N : Nat} (mono : ∀ i, i + 1 < N → g i ≤ g (i + 1)) (step : ∀ i, i + 1 < N → n (i + 1) = n i + if g i = g (i + 1) then 0 else 1) {i j : Nat} (hi : i < N) (hj : j < N) : (g i ≤ g j → n i ≤ n j) ∧ (g i < g j → n i < n j) := by
  by_cases h : i ≤ j
  · obtain ⟨a, b, c, e⟩ := count_run mono step i (j - i) (by omega)
    rw [show i + (j - i) = j by omega] at a b c e
    exact ⟨fun _ => a, e⟩
  · obtain ⟨a, b, c, e⟩ := count_run mono step j (i - j) (by omega)
    rw [show j + (i - j) = i by omega] at a b c e
    exact ⟨fun z => by have := c (by omega); omega, fun z => by omega⟩
/-- the greatest level at which they differ -/
def lvl (B H x y : Nat) : Nat := ((List.range H).filter fun j => decide (x / B ^ j ≠ y / B ^ j)).length
theorem lvl_iff {B H x y k : Nat} (hk : k < H) : k + 1 ≤ lvl B H x y ↔ x / B ^ k ≠ y / B ^ k := by
  have dn : ∀ i j, i ≤ j → x / B ^ i = y / B ^ i → x / B ^ j = y / B ^ j := fun i j h e => by
    obtain ⟨d, rfl⟩ : ∃ d, j = i + d := ⟨j - i, by omega⟩
    rw [Nat.pow_add, ← Nat.div_div_eq_div_mul, ← Nat.div_div_eq_div_mul, e]
  constructor
  · intro h e
    have : lvl B H x y ≤ (List.range k).length := nodup_sub_len (List.nodup_range.sublist List.filter_sublist) fun j hj => by
      obtain ⟨_, b⟩ := List.mem_filter.mp hj
      refine List.mem_range.mpr (Classical.byContradiction fun c => of_decide_eq_true b (dn k j (by omega) e))
    rw [List.length_range] at this
    omega
  · intro h
    have : (List.range (k + 1)).length ≤ lvl B H x y := nodup_sub_len List.nodup_range fun j hj => by
      have := List.mem_range.mp hj
      exact List.mem_filter.mpr ⟨List.mem_range.mpr (by omega), decide_eq_true fun e => h (dn j k (by omega) e)⟩
    rw [List.length_range] at this
    exact this
theorem lvl_le {B H x y : Nat} : lvl B H x y ≤ H := by
  have := List.length_filter_le (fun j => decide (x / B ^ j ≠ y / B ^ j)) (List.range H)
  rw [List.length_range] at this
  exact this
def rowX (B H : Nat) (xs : List Nat) : List Int := (List.range (xs.length - 1)).map fun i => ((lvl B H (xs.getD i 0) (xs.getD (i + 1) 0) : Nat) : Int)
theorem rowX_len {B H : Nat} {xs : List Nat} : (rowX B H xs).length = xs.length - 1 := by unfold rowX; rw [List.length_map, List.length_range]
theorem rowX_cn {B H k : Nat} {xs : List Nat} (hs : xs.Pairwise (· < ·)) (hk : k < H) {i j : Nat} (hi : i < xs.length) (hj : j < xs.length) :
    (xs.getD i 0 / B ^ k ≤ xs.getD j 0 / B ^ k → cn (rowX B H xs) ((k : Int) + 1) i ≤ cn (rowX B H xs) ((k : Int) + 1) j) ∧ (xs.getD i 0 / B ^ k < xs.getD j 0 / B ^ k → cn (rowX B H xs) ((k : Int) + 1) i < cn (rowX B H xs) ((k : Int) + 1) j) := by
  refine count_all (g := fun i => xs.getD i 0 / B ^ k) (n := fun i => cn (rowX B H xs) ((k : Int) + 1) i) (N := xs.length) (fun i h => ?_) (fun i h => ?_) hi hj
  · refine Nat.div_le_div_right ?_
    rw [getD_get (show i < xs.length by omega), getD_get h]
    exact Nat.le_of_lt (List.pairwise_iff_getElem.mp hs i (i + 1) (by omega) h (by omega))
  · have e : (rowX B H xs)[i]? = some ((lvl B H (xs.getD i 0) (xs.getD (i + 1) 0) : Nat) : Int) := by
      unfold rowX
      rw [List.getElem?_map, List.getElem?_range (by omega)]; rfl
    show cn _ _ (i + 1) = cn _ _ i + _
    unfold cn
    rw [List.take_succ, e, cnt_app]
    show _ + cnt _ [_] = _
    rw [cnt_one]
    have q := lvl_iff (B := B) (x := xs.getD i 0) (y := xs.getD (i + 1) 0) hk
    by_cases d : xs.getD i 0 / B ^ k = xs.getD (i + 1) 0 / B ^ k
    · rw [if_pos d, if_neg fun z => (q.mp (by omega)) d]
    · rw [if_neg d, if_pos (by have := q.mpr d; omega)]
theorem bound_ex (f : Int → Nat) : ∀ S : List Int, ∃ M, ∀ v ∈ S, f v ≤ M
  | [] => ⟨0, fun v h => by cases h⟩
  | x :: S => by
    obtain ⟨M, h⟩ := bound_ex f S
    refine ⟨M + f x, fun v hv => ?_⟩
    rcases List.mem_cons.mp hv with z | z
    · rw [z]; omega
    · have := h v z; omega
/-- a web without an odd cycle suits a row of less levels than it has nodes -/
theorem even_row {es : List (List Int)} {S : List Int} {H : Nat} (no : ¬ HasOdd es) (hS : ∀ e ∈ es, es0 e ∈ S ∧ es2 e ∈ S) (hr : ∀ e ∈ es, 0 ≤ es1 e ∧ es1 e ≤ 2 * H) (ne : S ≠ []) :
    ∃ (row : List Int) (st : Int → Nat), row.length + 1 ≤ S.length ∧ (∀ l ∈ row, 1 ≤ l ∧ l ≤ H) ∧ (∀ v ∈ S, st v ≤ row.length) ∧ ∀ e ∈ es, alw row (st (es0 e)) (es1 e) (st (es2 e)) = true := by
  obtain ⟨c, cb, c1, c2⟩ := counts_ex no fun e he => (hS e he).1
  have hc : ∀ l v, c l v < S.length + 1 := fun l v => by have := cb l v; omega
  generalize hB : S.length + 1 = B at hc
  let sg : Int → Nat := sgQ c B H H
  obtain ⟨M, hM⟩ : ∃ M, ∀ v ∈ S, sg v ≤ M := bound_ex sg S
  let xs := (List.range (M + 1)).filter fun x => decide (x ∈ S.map sg)
  have mx : ∀ x, x ∈ xs ↔ x ∈ S.map sg := fun x => by
    show x ∈ (List.range (M + 1)).filter _ ↔ _
    rw [List.mem_filter, decide_eq_true_eq]
    refine ⟨fun h => h.2, fun h => ⟨?_, h⟩⟩
    obtain ⟨v, hv, rfl⟩ := List.mem_map.mp h
    have := hM v hv
    exact List.mem_range.mpr (by omega)
  have sx : xs.Pairwise (· < ·) := List.pairwise_lt_range.sublist List.filter_sublist
  have nx : xs.Nodup := List.nodup_range.sublist List.filter_sublist
  have lx : xs.length ≤ S.length := by
    have := nodup_sub_len nx fun x hx => (mx x).mp hx
    rwa [List.length_map] at this
  have px : 0 < xs.length := by
    obtain ⟨v, r, e⟩ := List.exists_cons_of_ne_nil ne
    exact List.length_pos_of_mem ((mx (sg v)).mpr (List.mem_map.mpr ⟨v, by rw [e]; exact List.mem_cons_self, rfl⟩))
  have il : ∀ v ∈ S, xs.idxOf (sg v) < xs.length ∧ xs.getD (xs.idxOf (sg v)) 0 = sg v := fun v hv => by
    have m := (mx (sg v)).mpr (List.mem_map.mpr ⟨v, hv, rfl⟩)
    have l := List.idxOf_lt_length_of_mem m
    exact ⟨l, by rw [getD_get l]; exact List.getElem_idxOf l⟩
  have rl : ∀ l ∈ rowX B H xs, 1 ≤ l ∧ l ≤ H := fun l hl => by
    unfold rowX at hl
    obtain ⟨i, hi, rfl⟩ := List.mem_map.mp hl
    have hi := List.mem_range.mp hi
    have lt := List.pairwise_iff_getElem.mp sx i (i + 1) (by omega) (by omega) (by omega)
    rw [← getD_get (d := 0), ← getD_get (d := 0)] at lt
    have l2 := lvl_le (B := B) (H := H) (x := xs.getD i 0) (y := xs.getD (i + 1) 0)
    refine ⟨?_, by omega⟩
    have h0 : 0 < H := by
      refine Nat.pos_of_ne_zero fun z => ?_
      have z0 : ∀ v, sg v = 0 := fun v => by show sgQ c B H H v = 0; rw [z]; rfl
      have a : ∀ x ∈ xs, x = 0 := fun x hx => by
        obtain ⟨v, _, rfl⟩ := List.mem_map.mp ((mx x).mp hx)
        exact z0 v
      have b1 := a _ (List.getElem_mem (show i < xs.length by omega))
      have b2 := a _ (List.getElem_mem (show i + 1 < xs.length by omega))
      rw [getD_get (show i < xs.length by omega), getD_get (show i + 1 < xs.length by omega)] at lt
      omega
    have := (lvl_iff (B := B) (H := H) (x := xs.getD i 0) (y := xs.getD (i + 1) 0) h0).mpr (by rw [Nat.pow_zero, Nat.div_one, Nat.div_one]; omega)
    omega
  refine ⟨rowX B H xs, fun v => xs.idxOf (sg v), by rw [rowX_len]; omega, rl, fun v hv => ?_, fun e he => ?_⟩
  · show xs.idxOf (sg v) ≤ _
    rw [rowX_len]
    have := (il v hv).1
    omega
  · obtain ⟨s0, s2⟩ := hS e he
    obtain ⟨r0, r1⟩ := hr e he
    obtain ⟨i0, g0⟩ := il _ s0
    obtain ⟨i2, g2⟩ := il _ s2
    obtain ⟨k, hk⟩ : ∃ k : Nat, es1 e / 2 = (k : Int) := ⟨(es1 e / 2).toNat, by omega⟩
    refine alw_of (fun h => ?_) (fun h => ?_)
    · rw [hk, Int.toNat_natCast, Int.toNat_natCast]
      by_cases c : k < H
      · refine (rowX_cn sx c i2 i0).1 ?_
        rw [g0, g2]
        show sgQ _ B H H _ / B ^ k ≤ sgQ _ B H H _ / B ^ k
        rw [sgQ_drop hc _ k (by omega), sgQ_drop hc _ k (by omega)]
        exact sgQ_mono _ (by omega) fun l a b => c1 l e he (by omega)
      · rw [cn_zero (fun l hl => by have := (rl l hl).2; omega), cn_zero (fun l hl => by have := (rl l hl).2; omega)]
        exact Int.le_refl _
    · rw [hk, Int.toNat_natCast, Int.toNat_natCast]
      refine (rowX_cn sx (by omega) i2 i0).2 ?_
      rw [g0, g2]
      show sgQ _ B H H _ / B ^ k < sgQ _ B H H _ / B ^ k
      rw [sgQ_drop hc _ k (by omega), sgQ_drop hc _ k (by omega)]
      obtain ⟨j, ej⟩ : ∃ j, H - k = j + 1 := ⟨H - k - 1, by omega⟩
      rw [ej]
      refine sgQ_lt (by omega) (fun l a b => c1 l e he (by omega)) ?_
      exact c2 (H - j) e he (by omega)
end LR
set_option Elab.async false
set_option maxRecDepth 100000
set_option linter.all false
set_option maxHeartbeats 4000000
namespace LR
/-! # the halving row of c holds each row of less than c levels -/
def stpO : Option (List Int) → Nat
  | none => 0
  | some a => a.length + 1
def preO (h : Int) : Option (List Int) → List Int
  | none => []
  | some a => a ++ [h]
def postO (h : Int) : Option (List Int) → List Int
  | none => []
  | some b => h :: b
theorem split_row (h : Int) : ∀ (r : List Int) (t : Nat), t ≤ r.length → ∃ (A : Option (List Int)) (m : List Int) (B : Option (List Int)), r = preO h A ++ (m ++ postO h B) ∧ (∀ l ∈ m, l ≠ h) ∧ stpO A ≤ t ∧ t < stpO A + (m.length + 1)
  | [], t, ht => ⟨none, [], none, rfl, (fun l hl => by cases hl), Nat.zero_le _, by
      have : t = 0 := by simpa using ht
      subst this; exact Nat.lt_succ_self 0⟩
  | x :: r, 0, _ => by
    by_cases c : x = h
    · subst c
      exact ⟨none, [], some r, rfl, (fun l hl => by cases hl), Nat.le_refl _, Nat.lt_succ_self 0⟩
    · obtain ⟨A, m, B, e, hm, h1, h2⟩ := split_row h r 0 (Nat.zero_le _)
      cases A with
      | some a => exact absurd h1 (by show ¬ a.length + 1 ≤ 0; omega)
      | none =>
        refine ⟨none, x :: m, B, by rw [e]; rfl, fun l hl => ?_, Nat.le_refl _, by show 0 < 0 + (_ + 1); omega⟩
        rcases List.mem_cons.mp hl with z | z
        · rw [z]; exact c
        · exact hm l z
  | x :: r, t + 1, ht => by
    have ht : t ≤ r.length := by simpa using ht
    obtain ⟨A, m, B, e, hm, h1, h2⟩ := split_row h r t ht
    cases A with
    | some a =>
      refine ⟨some (x :: a), m, B, by rw [e]; rfl, hm, ?_, ?_⟩
      · have h1 : a.length + 1 ≤ t := h1
        show a.length + 1 + 1 ≤ t + 1; omega
      · have h2 : t < a.length + 1 + (m.length + 1) := h2
        show t + 1 < a.length + 1 + 1 + (m.length + 1); omega
    | none =>
      have h2 : t < 0 + (m.length + 1) := h2
      by_cases c : x = h
      · subst c
        exact ⟨some [], m, B, by rw [e]; rfl, hm, by show 0 + 1 ≤ t + 1; omega, by show t + 1 < 0 + 1 + (m.length + 1); omega⟩
      · refine ⟨none, x :: m, B, by rw [e]; rfl, fun l hl => ?_, Nat.zero_le _, by show t + 1 < 0 + (m.length + 1 + 1); omega⟩
        rcases List.mem_cons.mp hl with z | z
        · rw [z]; exact c
        · exact hm l z
theorem held_hv : ∀ (n c h : Nat), c + h ≤ n → 1 ≤ c → ∀ r : List Int, r.length + 1 ≤ c → (∀ l ∈ r, 1 ≤ l ∧ l ≤ h) → Held (hv c h) r
  | 0, c, h, a, hc => by omega
  | n + 1, c, h, hn, hc => fun r hr hl => by
    by_cases z : h = 0 ∨ c = 1
    · have : r = [] := by
        cases r with
        | nil => rfl
        | cons x r =>
          have := hl x List.mem_cons_self
          rw [List.length_cons] at hr
          omega
      rw [this]; exact held_nil _
    have h0 : h ≠ 0 := fun e => z (.inl e)
    have c1 : c ≠ 1 := fun e => z (.inr e)
    have hb : ∀ l ∈ hv c h, 1 ≤ l := fun l hl => (hv_lev _ c h (Nat.le_refl _) hc l hl).1
    have hg : ∀ l ∈ hv c h, l ≤ (h : Int) := fun l hl => (hv_lev _ c h (Nat.le_refl _) hc l hl).2
    have lev : ∀ c' h', 1 ≤ c' → ∀ l ∈ hv c' h', 1 ≤ l := fun c' h' q l hl => (hv_lev _ c' h' (Nat.le_refl _) q l hl).1
    have go := hv_go hc z
    by_cases y : r.length + 1 ≤ (c - 1) / 2
    · have y0 : 0 < (c - 1) / 2 := by omega
      have H := held_hv n ((c - 1) / 2) h (by omega) y0 r y hl
      rw [if_pos y0, List.append_assoc] at go
      rw [go] at hb ⊢
      exact (heldIn_left (lev _ _ y0) hb H).held
    obtain ⟨A, m, B, e, hm, h1, h2⟩ := split_row h r ((c - 1) / 2) (by omega)
    have tot : r.length + 1 = stpO A + (m.length + 1) + stpO B := by
      rw [e]
      cases A <;> cases B <;> simp [preO, postO, stpO] <;> omega
    have mr : ∀ l ∈ m, l ∈ r := fun l hl => by rw [e]; exact List.mem_append_right _ (List.mem_append_left _ hl)
    have Hm := held_hv n c (h - 1) (by omega) hc m (by omega) fun l hl' => by
      have := hl l (mr l hl')
      have := hm l hl'
      omega
    -- the middle
    generalize hLp : (if 0 < (c - 1) / 2 then hv ((c - 1) / 2) h ++ [(h : Int)] else []) = Lp at go
    have Mid : HeldIn (hv c h) m Lp.length (Lp.length + (hv c (h - 1)).length) := by
      rw [go] at hb ⊢
      exact heldIn_mid (lev _ _ hc) hb Hm
    have e2 : (hv c h)[Lp.length + (hv c (h - 1)).length]? = some (h : Int) := by
      rw [go, List.getElem?_append_right (by omega), List.getElem?_append_right (by omega)]
      rw [show Lp.length + (hv c (h - 1)).length - Lp.length - (hv c (h - 1)).length = 0 by omega]
      rfl
    have len : (hv c h).length = Lp.length + (hv c (h - 1)).length + 1 + (hv (c / 2) h).length := by
      rw [go]; simp; omega
    have Right : HeldIn (hv c h) (m ++ postO h B) Lp.length (hv c h).length := by
      cases B with
      | none =>
        obtain ⟨d, hd, b⟩ := Mid
        show HeldIn _ (m ++ []) _ _
        rw [List.append_nil]
        exact ⟨d, hd, fun s hs => by have := b s hs; omega⟩
      | some b =>
        have sb : stpO (some b) = b.length + 1 := rfl
        have c2 : 1 ≤ c / 2 := by omega
        have Hb := held_hv n (c / 2) h (by omega) c2 b (by omega) fun l hl' => hl l (by rw [e]; exact List.mem_append_right _ (List.mem_append_right _ (List.mem_cons_of_mem _ hl')))
        refine heldIn_join hb hg e2 Mid ?_ (by omega) (by omega)
        have go2 : hv c h = (Lp ++ (hv c (h - 1) ++ [(h : Int)])) ++ hv (c / 2) h := by rw [go]; simp
        have := heldIn_right (ls := Lp ++ (hv c (h - 1) ++ [(h : Int)])) (ms := hv (c / 2) h) (lev _ _ c2) (by rw [← go2]; exact hb) Hb
        rw [← go2] at this
        have l2 : (Lp ++ (hv c (h - 1) ++ [(h : Int)])).length = Lp.length + (hv c (h - 1)).length + 1 := by simp; omega
        rw [l2] at this
        exact this
    cases A with
    | none => rw [e]; exact Right.held
    | some a =>
      have sa : stpO (some a) = a.length + 1 := rfl
      have y0 : 0 < (c - 1) / 2 := by omega
      rw [if_pos y0] at hLp
      have Ha := held_hv n ((c - 1) / 2) h (by omega) y0 a (by omega) fun l hl' => hl l (by rw [e]; exact List.mem_append_left _ (List.mem_append_left _ hl'))
      have go3 : hv c h = hv ((c - 1) / 2) h ++ ([(h : Int)] ++ (hv c (h - 1) ++ ([(h : Int)] ++ hv (c / 2) h))) := by rw [go, ← hLp]; simp
      have Left : HeldIn (hv c h) a 0 (hv ((c - 1) / 2) h).length := by
        have := heldIn_left (lev _ _ y0) (by rw [← go3]; exact hb) Ha
        rw [← go3] at this; exact this
      have lp : Lp.length = (hv ((c - 1) / 2) h).length + 1 := by rw [← hLp]; simp
      have e3 : (hv c h)[(hv ((c - 1) / 2) h).length]? = some (h : Int) := by
        rw [go3, List.getElem?_append_right (Nat.le_refl _), Nat.sub_self]; rfl
      rw [lp] at Right
      have := heldIn_join hb hg e3 Left Right (by omega) (by omega)
      rw [e]
      show Held _ ((a ++ [(h : Int)]) ++ (m ++ postO h B))
      rw [List.append_assoc]
      exact this.held
end LR
set_option Elab.async false
set_option maxRecDepth 100000
set_option linter.all false
set_option maxHeartbeats 4000000
namespace LR
open PySem PySem.Spec PyProof.Rows L2
/-! # who wins: by pulling -/
abbrev Ans := Bool × Option (List Int)
abbrev Tab := List (Int × Ans)
def look : Tab → Int → Option Ans
  | [], _ => none
  | (k, a) :: r, v => if k = v then some a else look r v
def keysT (w : Tab) : List Int := w.map (·.1)
theorem look_none {v : Int} : ∀ {w : Tab}, look w v = none ↔ v ∉ keysT w
  | [] => ⟨(fun _ h => by cases h), fun _ => rfl⟩
  | (k, a) :: r => by
    unfold look
    by_cases c : k = v
    · rw [if_pos c]
      exact ⟨(fun h => by cases h), fun h => absurd (show v ∈ keysT ((k, a) :: r) by subst c; exact List.mem_cons_self) h⟩
    · rw [if_neg c, look_none (w := r)]
      exact ⟨fun h z => by rcases List.mem_cons.mp z with z | z
                           · exact c z.symm
                           · exact h z, fun h z => h (List.mem_cons_of_mem _ z)⟩
theorem look_some {w : Tab} {v : Int} (h : v ∈ keysT w) : ∃ a, look w v = some a := by
  cases e : look w v with
  | some a => exact ⟨a, rfl⟩
  | none => exact absurd h (look_none.mp e)
theorem look_key {w : Tab} {v : Int} {a : Ans} (h : look w v = some a) : v ∈ keysT w := Classical.byContradiction fun c => by
  rw [look_none.mpr c] at h; cases h
theorem look_app {v : Int} {b : Tab} : ∀ {a : Tab}, look (a ++ b) v = if v ∈ keysT a then look a v else look b v
  | [] => (if_neg (by intro h; cases h)).symm
  | (k, x) :: r => by
    show (if k = v then some x else look (r ++ b) v) = _
    show _ = if v ∈ k :: keysT r then (if k = v then some x else look r v) else look b v
    by_cases c : k = v
    · subst c; rw [if_pos rfl, if_pos List.mem_cons_self, if_pos rfl]
    · rw [if_neg c, if_neg c, look_app (a := r)]
      by_cases d : v ∈ keysT r
      · rw [if_pos d, if_pos (List.mem_cons_of_mem _ d)]
      · rw [if_neg d, if_neg fun z => by rcases List.mem_cons.mp z with z | z
                                         · exact c z.symm
                                         · exact d z]
theorem keys_app {a b : Tab} : keysT (a ++ b) = keysT a ++ keysT b := List.map_append
def bad (p : Bool) : Int := if p = true then 1 else 0
def ownr (os : List Bool) (v : Int) : Bool := os.getD v.toNat false
def net (os : List Bool) (w : Tab) (p : Bool) (e : List Int) : Bool := match look w (es0 e) with
  | some (q, pl) => decide (q = p) && (decide (ownr os (es0 e) ≠ p) || decide (pl = some e))
  | none => false
theorem net_iff {os w p e} : net os w p e = true ↔ ∃ pl, look w (es0 e) = some (p, pl) ∧ (ownr os (es0 e) ≠ p ∨ pl = some e) := by
  unfold net
  cases h : look w (es0 e) with
  | none => exact ⟨fun z => (by cases z), fun ⟨_, z, _⟩ => (by cases z)⟩
  | some a =>
    obtain ⟨q, pl⟩ := a
    show (decide (q = p) && (decide (ownr os (es0 e) ≠ p) || decide (pl = some e))) = true ↔ _
    rw [Bool.and_eq_true, Bool.or_eq_true, decide_eq_true_eq, decide_eq_true_eq, decide_eq_true_eq]
    constructor
    · rintro ⟨rfl, k⟩; exact ⟨pl, rfl, k⟩
    · rintro ⟨_, z, k⟩; cases z; exact ⟨rfl, k⟩
def win (w : Tab) (v : Int) : Option Bool := (look w v).map (·.1)
theorem win_of {w v p pl} (h : look w v = some (p, pl)) : win w v = some p := by unfold win; rw [h]; rfl
theorem of_win {w v p} (h : win w v = some p) : ∃ pl, look w v = some (p, pl) := by
  unfold win at h
  cases e : look w v with
  | none => rw [e] at h; cases h
  | some a => rw [e] at h; cases h; exact ⟨a.2, rfl⟩
/-- a table that solves these nodes and edges -/
structure Sol (os : List Bool) (ns : List Int) (es : List (List Int)) (w : Tab) : Prop where
  nd : (keysT w).Nodup
  keys : ∀ v, v ∈ keysT w ↔ v ∈ ns
  own : ∀ v p pl, look w v = some (p, pl) → ownr os v = p → ∃ e ∈ es, pl = some e ∧ es0 e = v ∧ win w (es2 e) = some p
  opp : ∀ v p pl, look w v = some (p, pl) → ownr os v ≠ p → pl = none ∧ ∀ e ∈ es, es0 e = v → win w (es2 e) = some p
  par : ∀ p, ¬ HasPar (bad p) (es.filter (net os w p))
structure Tot (ns : List Int) (es : List (List Int)) : Prop where
  nd : ns.Nodup
  out : ∀ v ∈ ns, ∃ e ∈ es, es0 e = v
  inn : ∀ e ∈ es, es0 e ∈ ns ∧ es2 e ∈ ns
/-! ## paths and closed sets -/
theorem rch_in {N N' : List (List Int)} {P : Int → Prop} (h : ∀ e ∈ N, P (es0 e) → P (es2 e) ∧ e ∈ N') {x y : Int} (hx : P x) (r : RchI N x y) : RchI N' x y ∧ P y := by
  obtain ⟨p, w⟩ := r
  induction w with
  | nil => exact ⟨.refl, hx⟩
  | snoc w m s ih =>
    obtain ⟨⟨p', w'⟩, hy⟩ := ih
    have := h _ m (by rw [s]; exact hy)
    exact ⟨⟨_, Wk.snoc w' this.2 s⟩, this.1⟩
theorem rch_out {N N' : List (List Int)} {P : Int → Prop} (c : ∀ e ∈ N, P (es0 e) → P (es2 e)) (h : ∀ e ∈ N, ¬ P (es0 e) → ¬ P (es2 e) → e ∈ N') {x y : Int} (r : RchI N x y) : ¬ P y → RchI N' x y := by
  obtain ⟨p, w⟩ := r
  induction w with
  | nil => exact fun _ => .refl
  | snoc w m s ih =>
    intro hy
    have n0 := fun k => hy (c _ m k)
    obtain ⟨p', w'⟩ := ih (by rw [← s]; exact n0)
    exact ⟨_, Wk.snoc w' (h _ m n0 hy) s⟩
theorem hasPar_split {par : Int} {N N1 N2 : List (List Int)} {P : Int → Prop} (c : ∀ e ∈ N, P (es0 e) → P (es2 e)) (h1 : ∀ e ∈ N, P (es0 e) → e ∈ N1) (h2 : ∀ e ∈ N, ¬ P (es0 e) → ¬ P (es2 e) → e ∈ N2) (h : HasPar par N) : HasPar par N1 ∨ HasPar par N2 := by
  obtain ⟨e, m, o, r⟩ := h
  have fm : ∀ {M : List (List Int)} {f}, f ∈ M.filter (fun f => decide (es1 f ≤ es1 e)) → f ∈ M ∧ decide (es1 f ≤ es1 e) = true := fun h => List.mem_filter.mp h
  by_cases p : P (es0 e)
  · exact .inl ⟨e, h1 e m p, o, (rch_in (P := P) (fun f hf k => ⟨c f (fm hf).1 k, List.mem_filter.mpr ⟨h1 f (fm hf).1 k, (fm hf).2⟩⟩) (c e m p) r).1⟩
  · have p2 : ¬ P (es2 e) := fun k => p (rch_in (N' := N.filter fun f => decide (es1 f ≤ es1 e)) (P := P) (fun f hf k => ⟨c f (fm hf).1 k, hf⟩) k r).2
    exact .inr ⟨e, h2 e m p p2, o, rch_out (P := P) (fun f hf k => c f (fm hf).1 k) (fun f hf a b => List.mem_filter.mpr ⟨h2 f (fm hf).1 a b, (fm hf).2⟩) r p⟩
theorem hasPar_dec {par : Int} {N : List (List Int)} {ix : Int → Nat} (h : ∀ e ∈ N, ix (es2 e) < ix (es0 e)) : ¬ HasPar par N := by
  rintro ⟨e, m, o, ⟨p, w⟩⟩
  have key : ∀ {x p y}, Wk (N.filter fun f => decide (es1 f ≤ es1 e)) x p y → ix y ≤ ix x := by
    intro x p y w
    induction w with
    | nil => exact Nat.le_refl _
    | snoc w m s ih =>
      have := h _ (List.mem_filter.mp m).1
      rw [s] at this
      omega
  have := key w
  have := h e m
  omega
theorem hasPar_low {par m : Int} {N : List (List Int)} (h : ∀ e ∈ N, es1 e ≤ m) (hm : m % 2 ≠ par) : HasPar par N → HasPar par (N.filter fun e => decide (es1 e < m)) := by
  rintro ⟨e, k, o, r⟩
  have lt : es1 e < m := by
    have := h e k
    by_cases c : es1 e = m
    · rw [c] at o; exact absurd o hm
    · omega
  refine ⟨e, List.mem_filter.mpr ⟨k, decide_eq_true lt⟩, o, r.mono fun f hf => ?_⟩
  obtain ⟨a, b⟩ := List.mem_filter.mp hf
  have := of_decide_eq_true b
  exact List.mem_filter.mpr ⟨List.mem_filter.mpr ⟨a, decide_eq_true (by omega)⟩, b⟩
/-! ## pulling -/
def Gd (d : Option Int) (w : Tab) (e : List Int) : Prop := d = some (es1 e) ∨ es2 e ∈ keysT w
theorem Gd.more {d w t e} (h : Gd d w e) : Gd d (w ++ t) e := h.imp id fun k => by rw [keys_app]; exact List.mem_append_left _ k
inductive Pul (os : List Bool) (es : List (List Int)) (q : Bool) (d : Option Int) (won : Tab) : Tab → Prop
  | seed : Pul os es q d won won
  | own {w v e} : Pul os es q d won w → v ∉ keysT w → ownr os v = q → e ∈ es → es0 e = v → Gd d w e → Pul os es q d won (w ++ [(v, q, some e)])
  | opp {w v} : Pul os es q d won w → v ∉ keysT w → ownr os v ≠ q → (∀ e ∈ es, es0 e = v → Gd d w e) → Pul os es q d won (w ++ [(v, q, none)])
section
variable {os : List Bool} {es : List (List Int)} {q : Bool} {d : Option Int} {won w : Tab}
theorem nd_snoc {w : Tab} {v : Int} {a : Ans} (h : (keysT w).Nodup) (n : v ∉ keysT w) : (keysT (w ++ [(v, a)])).Nodup := by
  rw [keys_app]
  exact List.nodup_append.mpr ⟨h, by simp [keysT], fun x hx y hy => by
    have : y = v := by simpa [keysT] using hy
    rw [this]; exact fun z => n (z ▸ hx)⟩
theorem look_snoc {w : Tab} {v u : Int} {a b : Ans} (n : v ∉ keysT w) (h : look (w ++ [(v, a)]) u = some b) : (u = v ∧ b = a) ∨ (u ≠ v ∧ u ∈ keysT w ∧ look w u = some b) := by
  rw [look_app] at h
  by_cases c : u ∈ keysT w
  · rw [if_pos c] at h
    exact .inr ⟨fun z => n (z ▸ c), c, h⟩
  · rw [if_neg c] at h
    have h : (if v = u then some a else none) = some b := h
    by_cases e : v = u
    · rw [if_pos e] at h; cases h; exact .inl ⟨e.symm, rfl⟩
    · rw [if_neg e] at h; cases h
theorem Pul.nd (h : Pul os es q d won w) (n : (keysT won).Nodup) : (keysT w).Nodup := by
  induction h with
  | seed => exact n
  | own _ m _ _ _ _ ih => exact nd_snoc ih m
  | opp _ m _ _ ih => exact nd_snoc ih m
theorem Pul.seed_mem (h : Pul os es q d won w) {v : Int} (m : v ∈ keysT won) : v ∈ keysT w ∧ look w v = look won v := by
  induction h with
  | seed => exact ⟨m, rfl⟩
  | own _ _ _ _ _ _ ih => exact ⟨by rw [keys_app]; exact List.mem_append_left _ ih.1, by rw [look_app, if_pos ih.1]; exact ih.2⟩
  | opp _ _ _ _ ih => exact ⟨by rw [keys_app]; exact List.mem_append_left _ ih.1, by rw [look_app, if_pos ih.1]; exact ih.2⟩
theorem Pul.new (h : Pul os es q d won w) {v : Int} {c : Bool} {pl : Option (List Int)} (k : look w v = some (c, pl)) (m : v ∉ keysT won) : c = q ∧ (ownr os v = q → ∃ e ∈ es, pl = some e ∧ es0 e = v ∧ Gd d w e) ∧ (ownr os v ≠ q → pl = none ∧ ∀ e ∈ es, es0 e = v → Gd d w e) := by
  induction h generalizing c pl with
  | seed => exact absurd (look_key k) m
  | own _ n o he e0 g ih =>
    rcases look_snoc n k with ⟨rfl, z⟩ | ⟨_, _, z⟩
    · cases z; exact ⟨rfl, fun _ => ⟨_, he, rfl, e0, g.more⟩, fun z => absurd o z⟩
    · obtain ⟨a, b, c'⟩ := ih z
      exact ⟨a, fun o => (b o).imp fun e k => ⟨k.1, k.2.1, k.2.2.1, k.2.2.2.more⟩, fun o => ⟨(c' o).1, fun e h1 h2 => ((c' o).2 e h1 h2).more⟩⟩
  | opp _ n o g ih =>
    rcases look_snoc n k with ⟨rfl, z⟩ | ⟨_, _, z⟩
    · cases z; exact ⟨rfl, fun z => absurd z o, fun _ => ⟨rfl, fun e h1 h2 => (g e h1 h2).more⟩⟩
    · obtain ⟨a, b, c'⟩ := ih z
      exact ⟨a, fun o => (b o).imp fun e k => ⟨k.1, k.2.1, k.2.2.1, k.2.2.2.more⟩, fun o => ⟨(c' o).1, fun e h1 h2 => ((c' o).2 e h1 h2).more⟩⟩
theorem Pul.order (h : Pul os es q d won w) : ∃ (ix : Int → Nat) (n : Nat), (∀ v ∈ keysT w, ix v < n) ∧ ∀ e ∈ es, es0 e ∈ keysT w → es0 e ∉ keysT won → (ownr os (es0 e) ≠ q ∨ ∃ a, look w (es0 e) = some (a, some e)) → d ≠ some (es1 e) → es2 e ∈ keysT w ∧ ix (es2 e) < ix (es0 e) := by
  have step : ∀ {w : Tab} {v : Int} {x : Option (List Int)}, v ∉ keysT w → (∃ (ix : Int → Nat) (n : Nat), (∀ v ∈ keysT w, ix v < n) ∧ ∀ e ∈ es, es0 e ∈ keysT w → es0 e ∉ keysT won → (ownr os (es0 e) ≠ q ∨ ∃ a, look w (es0 e) = some (a, some e)) → d ≠ some (es1 e) → es2 e ∈ keysT w ∧ ix (es2 e) < ix (es0 e)) →
      (∀ e ∈ es, es0 e = v → (ownr os v ≠ q ∨ x = some e) → d ≠ some (es1 e) → es2 e ∈ keysT w) → ∃ (ix : Int → Nat) (n : Nat), (∀ u ∈ keysT (w ++ [(v, q, x)]), ix u < n) ∧ ∀ e ∈ es, es0 e ∈ keysT (w ++ [(v, q, x)]) → es0 e ∉ keysT won → (ownr os (es0 e) ≠ q ∨ ∃ a, look (w ++ [(v, q, x)]) (es0 e) = some (a, some e)) → d ≠ some (es1 e) → es2 e ∈ keysT (w ++ [(v, q, x)]) ∧ ix (es2 e) < ix (es0 e) := by
    rintro w v x nv ⟨ix, n, b, s⟩ hv
    have mem : ∀ {u}, u ∈ keysT (w ++ [(v, q, x)]) ↔ u ∈ keysT w ∨ u = v := fun {u} => by rw [keys_app, List.mem_append]; simp [keysT]
    refine ⟨fun u => if u = v then n else ix u, n + 1, fun u hu => ?_, fun e he h0 hn ho hd => ?_⟩
    · show (if u = v then n else ix u) < n + 1
      by_cases c : u = v
      · rw [if_pos c]; omega
      · rw [if_neg c]
        rcases mem.mp hu with z | z
        · have := b u z; omega
        · exact absurd z c
    · show _ ∧ (if es2 e = v then n else ix (es2 e)) < (if es0 e = v then n else ix (es0 e))
      by_cases c : es0 e = v
      · have m2 := hv e he c (ho.imp (fun k => c ▸ k) fun ⟨a, k⟩ => by
            rw [look_app, if_neg (by rw [c]; exact nv), c] at k
            have k : (if v = v then some ((q, x) : Ans) else none) = some (a, some e) := k
            rw [if_pos rfl] at k; cases k; rfl) hd
        have c2 : es2 e ≠ v := fun z => nv (z ▸ m2)
        rw [if_pos c, if_neg c2]
        exact ⟨mem.mpr (.inl m2), b _ m2⟩
      · have m0 : es0 e ∈ keysT w := (mem.mp h0).resolve_right c
        obtain ⟨m2, lt⟩ := s e he m0 hn (ho.imp id fun ⟨a, k⟩ => ⟨a, by rw [look_app, if_pos m0] at k; exact k⟩) hd
        have c2 : es2 e ≠ v := fun z => nv (z ▸ m2)
        rw [if_neg c, if_neg c2]
        exact ⟨mem.mpr (.inl m2), lt⟩
  induction h with
  | seed => exact ⟨fun _ => 0, 1, (fun _ _ => Nat.zero_lt_one), fun e _ a b => absurd a b⟩
  | own _ n o he e0 g ih =>
    refine step n ih fun e m z k hd => ?_
    rcases k with k | k
    · exact absurd o k
    · cases k; exact g.resolve_left hd
  | opp _ n o g ih => exact step n ih fun e m z _ hd => (g e m z).resolve_left hd
/-- nothing is left to pull -/
def Stop (os : List Bool) (ns : List Int) (es : List (List Int)) (q : Bool) (d : Option Int) (w : Tab) : Prop := ∀ v ∈ ns, v ∉ keysT w → (ownr os v = q → ∀ e ∈ es, es0 e = v → ¬ Gd d w e) ∧ (ownr os v ≠ q → ∃ e ∈ es, es0 e = v ∧ ¬ Gd d w e)
end
section
variable {os : List Bool} {ns rest rest2 : List Int} {es es' es2' : List (List Int)} {m : Int} {p : Bool} {U V won w' w2 : Tab}
theorem tot_low (T : Tot ns es) (mx : ∀ e ∈ es, es1 e ≤ m) (st : Stop os ns es p (some m) U) (hr : ∀ v, v ∈ rest ↔ v ∈ ns ∧ v ∉ keysT U) (nr : rest.Nodup) (he : ∀ e, e ∈ es' ↔ e ∈ es ∧ es1 e < m ∧ es0 e ∈ rest ∧ es2 e ∈ rest) : Tot rest es' := by
  refine ⟨nr, fun v hv => ?_, fun e h => ⟨((he e).mp h).2.2.1, ((he e).mp h).2.2.2⟩⟩
  obtain ⟨vn, vu⟩ := (hr v).mp hv
  obtain ⟨s1, s2⟩ := st v vn vu
  have : ∃ e ∈ es, es0 e = v ∧ ¬ Gd (some m) U e := by
    by_cases c : ownr os v = p
    · obtain ⟨e, a, b⟩ := T.out v vn
      exact ⟨e, a, b, s1 c e a b⟩
    · exact s2 c
  obtain ⟨e, a, b, n⟩ := this
  have n1 : es1 e ≠ m := fun z => n (.inl (by rw [z]))
  have n2 : es2 e ∉ keysT U := fun z => n (.inr z)
  have := mx e a
  exact ⟨e, (he e).mpr ⟨a, by omega, by rw [b]; exact hv, (hr _).mpr ⟨(T.inn e a).2, n2⟩⟩, b⟩
theorem tot_rest (T : Tot ns es) (st : Stop os ns es p none V) (hr : ∀ v, v ∈ rest ↔ v ∈ ns ∧ v ∉ keysT V) (nr : rest.Nodup) (he : ∀ e, e ∈ es' ↔ e ∈ es ∧ es0 e ∈ rest ∧ es2 e ∈ rest) : Tot rest es' := by
  refine ⟨nr, fun v hv => ?_, fun e h => ⟨((he e).mp h).2.1, ((he e).mp h).2.2⟩⟩
  obtain ⟨vn, vu⟩ := (hr v).mp hv
  obtain ⟨s1, s2⟩ := st v vn vu
  have : ∃ e ∈ es, es0 e = v ∧ ¬ Gd none V e := by
    by_cases c : ownr os v = p
    · obtain ⟨e, a, b⟩ := T.out v vn
      exact ⟨e, a, b, s1 c e a b⟩
    · exact s2 c
  obtain ⟨e, a, b, n⟩ := this
  exact ⟨e, (he e).mpr ⟨a, by rw [b]; exact hv, (hr _).mpr ⟨(T.inn e a).2, fun z => n (.inr z)⟩⟩, b⟩
theorem sol_last (T : Tot ns es) (mx : ∀ e ∈ es, es1 e ≤ m) (hm : m % 2 ≠ bad p) (pu : Pul os es p (some m) [] U) (uns : ∀ v ∈ keysT U, v ∈ ns) (hr : ∀ v, v ∈ rest ↔ v ∈ ns ∧ v ∉ keysT U) (he : ∀ e, e ∈ es' ↔ e ∈ es ∧ es1 e < m ∧ es0 e ∈ rest ∧ es2 e ∈ rest)
    (S : Sol os rest es' w') (al : ∀ v c pl, look w' v = some (c, pl) → c = p) : Sol os ns es (U ++ w') := by
  have lk : ∀ v, look (U ++ w') v = if v ∈ keysT U then look U v else look w' v := fun v => look_app
  have ks : ∀ v, v ∈ keysT (U ++ w') ↔ v ∈ ns := fun v => by
    rw [keys_app, List.mem_append]
    constructor
    · rintro (z | z)
      · exact uns v z
      · exact ((hr v).mp ((S.keys v).mp z)).1
    · intro z
      by_cases c : v ∈ keysT U
      · exact .inl c
      · exact .inr ((S.keys v).mpr ((hr v).mpr ⟨z, c⟩))
  have nw : ∀ v c pl, look U v = some (c, pl) → _ := fun v c pl h => pu.new h (fun z => by cases z)
  have all : ∀ v c pl, look (U ++ w') v = some (c, pl) → c = p := fun v c pl h => by
    rw [lk] at h
    by_cases z : v ∈ keysT U
    · rw [if_pos z] at h; exact (nw v c pl h).1
    · rw [if_neg z] at h; exact al v c pl h
  have wn : ∀ v ∈ ns, win (U ++ w') v = some p := fun v hv => by
    obtain ⟨⟨c, pl⟩, h⟩ := look_some ((ks v).mpr hv)
    rw [win_of h, all v c pl h]
  refine ⟨?_, ks, fun v c pl h o => ?_, fun v c pl h o => ?_, fun c hp => ?_⟩
  · rw [keys_app]
    refine List.nodup_append.mpr ⟨pu.nd List.nodup_nil, S.nd, fun x hx y hy => ?_⟩
    rintro rfl
    exact ((hr x).mp ((S.keys x).mp hy)).2 hx
  · have cp := all v c pl h
    subst cp
    rw [lk] at h
    by_cases z : v ∈ keysT U
    · rw [if_pos z] at h
      obtain ⟨e, a, b, b2, _⟩ := (nw v c pl h).2.1 o
      exact ⟨e, a, b, b2, wn _ (T.inn e a).2⟩
    · rw [if_neg z] at h
      obtain ⟨e, a, b, b2, _⟩ := S.own v c pl h o
      have a := ((he e).mp a).1
      exact ⟨e, a, b, b2, wn _ (T.inn e a).2⟩
  · have cp := all v c pl h
    subst cp
    rw [lk] at h
    refine ⟨?_, fun e a _ => wn _ (T.inn e a).2⟩
    by_cases z : v ∈ keysT U
    · rw [if_pos z] at h
      exact ((nw v c pl h).2.2 o).1
    · rw [if_neg z] at h
      exact (S.opp v c pl h o).1
  · have cp : c = p := by
      obtain ⟨e, a, _⟩ := hp
      obtain ⟨pl, h, _⟩ := net_iff.mp (List.mem_filter.mp a).2
      exact all _ _ _ h
    subst cp
    have mN : ∀ {e}, e ∈ es.filter (net os (U ++ w') c) → e ∈ es ∧ ∃ pl, look (U ++ w') (es0 e) = some (c, pl) ∧ (ownr os (es0 e) ≠ c ∨ pl = some e) := fun h => ⟨(List.mem_filter.mp h).1, net_iff.mp (List.mem_filter.mp h).2⟩
    have low := hasPar_low (m := m) (fun e he => mx e (mN he).1) hm hp
    obtain ⟨ix, n, _, ord⟩ := pu.order
    have ed : ∀ e ∈ (es.filter (net os (U ++ w') c)).filter (fun e => decide (es1 e < m)), es0 e ∈ keysT U → es2 e ∈ keysT U ∧ ix (es2 e) < ix (es0 e) := fun e h z => by
      obtain ⟨h1, h2⟩ := List.mem_filter.mp h
      obtain ⟨h1, pl, h3, h4⟩ := mN h1
      rw [lk, if_pos z] at h3
      refine ord e h1 z (fun z => by cases z) (h4.imp id fun k => ⟨c, by rw [h3, k]⟩) fun k => ?_
      have := of_decide_eq_true h2
      cases k
      omega
    rcases hasPar_split (P := fun v => v ∈ keysT U) (N1 := ((es.filter (net os (U ++ w') c)).filter (fun e => decide (es1 e < m))).filter fun e => decide (es0 e ∈ keysT U)) (N2 := es'.filter (net os w' c)) (fun e h z => (ed e h z).1) (fun e h z => List.mem_filter.mpr ⟨h, decide_eq_true z⟩) (fun e h z1 z2 => by
        obtain ⟨h1, h2⟩ := List.mem_filter.mp h
        obtain ⟨h1, pl, h3, h4⟩ := mN h1
        rw [lk, if_neg z1] at h3
        exact List.mem_filter.mpr ⟨(he e).mpr ⟨h1, of_decide_eq_true h2, (hr _).mpr ⟨(T.inn e h1).1, z1⟩, (hr _).mpr ⟨(T.inn e h1).2, z2⟩⟩, net_iff.mpr ⟨pl, h3, h4⟩⟩) low with k | k
    · exact hasPar_dec (ix := ix) (fun e h => (ed e (List.mem_filter.mp h).1 (of_decide_eq_true (List.mem_filter.mp h).2)).2) k
    · exact S.par c k
theorem sol_step (T : Tot ns es) (mx : ∀ e ∈ es, es1 e ≤ m) (stU : Stop os ns es p (some m) U) (hr : ∀ v, v ∈ rest ↔ v ∈ ns ∧ v ∉ keysT U) (he : ∀ e, e ∈ es' ↔ e ∈ es ∧ es1 e < m ∧ es0 e ∈ rest ∧ es2 e ∈ rest)
    (S : Sol os rest es' w') (hw : ∀ v a, look won v = some a ↔ look w' v = some a ∧ a.1 = (!p)) (nw : (keysT won).Nodup) (pv : Pul os es (!p) none won V) (vns : ∀ v ∈ keysT V, v ∈ ns) (stV : Stop os ns es (!p) none V)
    (hr2 : ∀ v, v ∈ rest2 ↔ v ∈ ns ∧ v ∉ keysT V) (he2 : ∀ e, e ∈ es2' ↔ e ∈ es ∧ es0 e ∈ rest2 ∧ es2 e ∈ rest2) (S2 : Sol os rest2 es2' w2) : Sol os ns es (V ++ w2) := by
  have np : ∀ {c : Bool}, c ≠ (!p) → c = p := fun {c} h => by revert h; cases c <;> cases p <;> decide
  have nn : ∀ {c : Bool}, c ≠ p → c = (!p) := fun {c} h => by revert h; cases c <;> cases p <;> decide
  have po : p ≠ (!p) := by cases p <;> decide
  have lk : ∀ v, look (V ++ w2) v = if v ∈ keysT V then look V v else look w2 v := fun v => look_app
  have F1 : ∀ v c pl, look V v = some (c, pl) → c = (!p) := fun v c pl h => by
    by_cases z : v ∈ keysT won
    · rw [(pv.seed_mem z).2] at h; exact ((hw v _).mp h).2
    · exact (pv.new h z).1
  have wV : ∀ v ∈ keysT V, win (V ++ w2) v = some (!p) := fun v hv => by
    obtain ⟨⟨c, pl⟩, h⟩ := look_some hv
    have e := F1 v c pl h
    subst e
    exact win_of (by rw [lk, if_pos hv]; exact h)
  have wR : ∀ v c, v ∉ keysT V → win w2 v = some c → win (V ++ w2) v = some c := fun v c hv h => by
    obtain ⟨pl, h⟩ := of_win h
    exact win_of (by rw [lk, if_neg hv]; exact h)
  -- what is won first keeps its edges
  have F2 : ∀ e ∈ es, es0 e ∈ keysT won → ∀ pl, look V (es0 e) = some (!p, pl) → (ownr os (es0 e) ≠ (!p) ∨ pl = some e) → e ∈ es' ∧ es2 e ∈ keysT won := fun e h z pl hl k => by
    rw [(pv.seed_mem z).2] at hl
    have hl' := ((hw _ _).mp hl).1
    have kw : ∀ {f}, win w' (es2 f) = some (!p) → es2 f ∈ keysT won := fun {f} h => by
      obtain ⟨pl, h⟩ := of_win h
      exact look_key ((hw _ _).mpr ⟨h, rfl⟩)
    by_cases o : ownr os (es0 e) = (!p)
    · obtain ⟨e', a, b, _, c⟩ := S.own _ _ _ hl' o
      rcases k with k | k
      · exact absurd o k
      · rw [k] at b; cases b
        exact ⟨a, kw c⟩
    · have m0 := (S.keys _).mp (look_key hl')
      obtain ⟨n0, u0⟩ := (hr _).mp m0
      have ng := (stU _ n0 u0).1 (np o) e h rfl
      have n1 : es1 e ≠ m := fun z => ng (.inl (by rw [z]))
      have n2 : es2 e ∉ keysT U := fun z => ng (.inr z)
      have := mx e h
      have a := (he e).mpr ⟨h, by omega, m0, (hr _).mpr ⟨(T.inn e h).2, n2⟩⟩
      exact ⟨a, kw ((S.opp _ _ _ hl' o).2 e a rfl)⟩
  have F3 : ∀ e ∈ es, es0 e ∈ keysT V → ∀ pl, look V (es0 e) = some (!p, pl) → (ownr os (es0 e) ≠ (!p) ∨ pl = some e) → es2 e ∈ keysT V := fun e h z pl hl k => by
    by_cases c : es0 e ∈ keysT won
    · exact (pv.seed_mem (F2 e h c pl hl k).2).1
    · obtain ⟨_, b, b'⟩ := pv.new hl c
      by_cases o : ownr os (es0 e) = (!p)
      · obtain ⟨e', _, q, _, g⟩ := b o
        rcases k with k | k
        · exact absurd o k
        · rw [k] at q; cases q
          exact g.resolve_left fun z => by cases z
      · exact ((b' o).2 e h rfl).resolve_left fun z => by cases z
  have ks : ∀ v, v ∈ keysT (V ++ w2) ↔ v ∈ ns := fun v => by
    rw [keys_app, List.mem_append]
    constructor
    · rintro (z | z)
      · exact vns v z
      · exact ((hr2 v).mp ((S2.keys v).mp z)).1
    · intro z
      by_cases c : v ∈ keysT V
      · exact .inl c
      · exact .inr ((S2.keys v).mpr ((hr2 v).mpr ⟨z, c⟩))
  refine ⟨?_, ks, fun v c pl h o => ?_, fun v c pl h o => ?_, fun c hp => ?_⟩
  · rw [keys_app]
    refine List.nodup_append.mpr ⟨pv.nd nw, S2.nd, fun x hx y hy => ?_⟩
    rintro rfl
    exact ((hr2 x).mp ((S2.keys x).mp hy)).2 hx
  · rw [lk] at h
    by_cases z : v ∈ keysT V
    · rw [if_pos z] at h
      have e := F1 v c pl h
      subst e
      have : ∃ e ∈ es, pl = some e ∧ es0 e = v := by
        by_cases k : v ∈ keysT won
        · rw [(pv.seed_mem k).2] at h
          obtain ⟨e, a, b, b2, _⟩ := S.own v _ pl ((hw v _).mp h).1 o
          exact ⟨e, ((he e).mp a).1, b, b2⟩
        · obtain ⟨e, a, b, b2, _⟩ := (pv.new h k).2.1 o
          exact ⟨e, a, b, b2⟩
      obtain ⟨e, a, b, b2⟩ := this
      subst b2
      exact ⟨e, a, b, rfl, wV _ (F3 e a z pl h (.inr b))⟩
    · rw [if_neg z] at h
      obtain ⟨e, a, b, b2, k⟩ := S2.own v c pl h o
      obtain ⟨a1, _, a3⟩ := (he2 e).mp a
      exact ⟨e, a1, b, b2, wR _ _ ((hr2 _).mp a3).2 k⟩
  · rw [lk] at h
    by_cases z : v ∈ keysT V
    · rw [if_pos z] at h
      have e := F1 v c pl h
      subst e
      refine ⟨?_, fun e a b => ?_⟩
      · by_cases k : v ∈ keysT won
        · rw [(pv.seed_mem k).2] at h
          exact (S.opp v _ pl ((hw v _).mp h).1 o).1
        · exact ((pv.new h k).2.2 o).1
      · subst b
        exact wV _ (F3 e a z pl h (.inl o))
    · rw [if_neg z] at h
      obtain ⟨pn, k⟩ := S2.opp v c pl h o
      have v2 := (S2.keys v).mp (look_key h)
      refine ⟨pn, fun e a b => ?_⟩
      by_cases y : es2 e ∈ keysT V
      · rw [wV _ y]
        by_cases cp : c = p
        · exact absurd (.inr y) ((stV v ((hr2 v).mp v2).1 z).1 (nn fun q => o (q.trans cp.symm)) e a b)
        · rw [nn cp]
      · have a2 := (he2 e).mpr ⟨a, by rw [b]; exact v2, (hr2 _).mpr ⟨(T.inn e a).2, y⟩⟩
        exact wR _ _ y (k e a2 b)
  · have mN : ∀ {e}, e ∈ es.filter (net os (V ++ w2) c) → e ∈ es ∧ ∃ pl, look (V ++ w2) (es0 e) = some (c, pl) ∧ (ownr os (es0 e) ≠ c ∨ pl = some e) := fun h => ⟨(List.mem_filter.mp h).1, net_iff.mp (List.mem_filter.mp h).2⟩
    have inV : ∀ e ∈ es.filter (net os (V ++ w2) c), es0 e ∈ keysT V → c = (!p) ∧ ∃ pl, look V (es0 e) = some (!p, pl) ∧ (ownr os (es0 e) ≠ (!p) ∨ pl = some e) := fun e h z => by
      obtain ⟨h1, pl, h3, h4⟩ := mN h
      rw [lk, if_pos z] at h3
      have e := F1 _ _ _ h3
      subst e
      exact ⟨rfl, pl, h3, h4⟩
    rcases hasPar_split (P := fun v => v ∈ keysT V) (N1 := (es.filter (net os (V ++ w2) c)).filter fun e => decide (es0 e ∈ keysT V)) (N2 := es2'.filter (net os w2 c)) (fun e h z => by
        obtain ⟨_, pl, a, b⟩ := inV e h z
        exact F3 e (mN h).1 z pl a b) (fun e h z => List.mem_filter.mpr ⟨h, decide_eq_true z⟩) (fun e h z1 z2 => by
        obtain ⟨h1, pl, h3, h4⟩ := mN h
        rw [lk, if_neg z1] at h3
        exact List.mem_filter.mpr ⟨(he2 e).mpr ⟨h1, (hr2 _).mpr ⟨(T.inn e h1).1, z1⟩, (hr2 _).mpr ⟨(T.inn e h1).2, z2⟩⟩, net_iff.mpr ⟨pl, h3, h4⟩⟩) hp with k | k
    · have m1 : ∀ {e}, e ∈ (es.filter (net os (V ++ w2) c)).filter (fun e => decide (es0 e ∈ keysT V)) → e ∈ es ∧ es0 e ∈ keysT V ∧ c = (!p) ∧ ∃ pl, look V (es0 e) = some (!p, pl) ∧ (ownr os (es0 e) ≠ (!p) ∨ pl = some e) := fun h => by
        obtain ⟨h1, h2⟩ := List.mem_filter.mp h
        have h2 := of_decide_eq_true h2
        exact ⟨(mN h1).1, h2, inV _ h1 h2⟩
      obtain ⟨ix, n, _, ord⟩ := pv.order
      rcases hasPar_split (P := fun v => v ∈ keysT won) (N1 := es'.filter (net os w' c)) (N2 := ((es.filter (net os (V ++ w2) c)).filter fun e => decide (es0 e ∈ keysT V)).filter fun e => decide (es0 e ∉ keysT won)) (fun e h z => by
          obtain ⟨a, _, _, pl, b, b2⟩ := m1 h
          exact (F2 e a z pl b b2).2) (fun e h z => by
          obtain ⟨a, _, rfl, pl, b, b2⟩ := m1 h
          have b' := b
          rw [(pv.seed_mem z).2] at b'
          exact List.mem_filter.mpr ⟨(F2 e a z pl b b2).1, net_iff.mpr ⟨pl, ((hw _ _).mp b').1, b2⟩⟩) (fun e h z1 z2 => List.mem_filter.mpr ⟨h, decide_eq_true z1⟩) k with k | k
      · exact S.par c k
      · refine hasPar_dec (ix := ix) (fun e h => ?_) k
        obtain ⟨h1, h2⟩ := List.mem_filter.mp h
        obtain ⟨a, z, _, pl, b, b2⟩ := m1 h1
        exact (ord e a z (of_decide_eq_true h2) (b2.imp id fun k => ⟨_, by rw [b, k]⟩) fun z => by cases z).2
    · exact S2.par c k
end
theorem sol_nil {os : List Bool} : Sol os [] [] [] := ⟨List.nodup_nil, fun v => .rfl, (fun v p pl h => by cases h), (fun v p pl h => by cases h), fun p h => by obtain ⟨e, m, _⟩ := h; cases m⟩
end LR
set_option Elab.async false
set_option maxRecDepth 100000
set_option linter.all false
set_option maxHeartbeats 4000000
namespace LR
open PySem PySem.Spec PyProof.Rows L2
section
variable {prog : Program} {w : World} {K : Type} [DecidableEq K] {knd : KeyKind prog w K} {A : Around} {E : Value → Shared → Prop} {s : Shared}
theorem wpAny_dictPut_pairs {d : Addr} {kvs : List (K × Value)} {k : K} {key v : Value} {Q : Unit → Shared → Prop} (hkey : knd.is k key = true) (hm : s.heap.DictOf knd d kvs)
    (hQ : ∀ h', h'.DictOf knd d (stored kvs k v) → Heap.SameBut d s.heap h' → Q () { s with heap := h' }) (hsz : kvs.length ≤ sizeLine) :
    wpAny (model prog w) A (dictPut d (knd.hash k) key v) Q E s := by
  obtain ⟨o, es, ep, ho, hc, hd, hk, hp, hn⟩ := hm
  have hes : es.size ≤ sizeLine := by have e1 := hp.length; have e2 : es.toList.length = es.size := by simp
                                      omega
  unfold dictPut
  refine wpAny_bind (wpAny_dictFind_of hkey ho hd hk ?_)
  have hidx : (es.findIdx? fun e => knd.is k e.key) = kvs.findIdx? fun kv => decide (kv.1 = k) := by
    rw [← hp.findIdx k]; obtain ⟨l⟩ := es; simp
  cases hi : es.findIdx? fun e => knd.is k e.key with
  | some i =>
    refine wpAny_updateDict ho hd (hQ _ ⟨_, _, ep, Heap.get?_update_self _ ho (Obj.isFreed_of_dict (Obj.data_mapDict hd _)),
      hc.mapDict _, Obj.data_mapDict hd _, hk.modify _ _, ?_, ?_⟩ (Heap.SameBut.update ..))
    · rw [stored, if_pos (any_of_findIdx_some (hidx ▸ hi))]
      have hl : (es.toList.findIdx? fun e => knd.is k e.key) = some i := by rw [← hi]; obtain ⟨l⟩ := es; simp
      have := hp.modify hn hl v
      obtain ⟨l⟩ := es
      simpa using this
    · rw [stored, if_pos (any_of_findIdx_some (hidx ▸ hi)), keys_map_store]; exact hn
  | none =>
    have hnot : k ∉ kvs.map (·.1) := not_mem_of_findIdx_none (hidx ▸ hi)
    have hany : ¬ (kvs.any fun kv => decide (kv.1 = k)) = true := by
      rw [List.any_eq_true]; rintro ⟨kv, hkv, he⟩
      exact hnot (List.mem_map.mpr ⟨kv, hkv, of_decide_eq_true he⟩)
    refine wpAny_updateDictKeys (hz := hes) ho hd (hQ _ ⟨_, _, ep + 1, Heap.get?_update_self _ ho (Obj.isFreed_of_dict (Obj.data_mapDictKeys hd _)),
      hc.mapDictKeys _, Obj.data_mapDictKeys hd _, hk.push hkey _, ?_, ?_⟩ (Heap.SameBut.update ..))
    · rw [stored, if_neg hany]
      have := hp.append hkey (knd.hash k) v
      obtain ⟨l⟩ := es
      simpa using this
    · rw [stored, if_neg hany, List.map_append, List.nodup_append]
      refine ⟨hn, by simp, ?_⟩
      intro a ha b hb
      simp only [List.map_cons, List.map_nil, List.mem_singleton] at hb
      subst hb
      exact fun e => hnot (e ▸ ha)
theorem wpAny_mergeMapping {d o : Addr} {kvs more : List (K × Value)} {Q : Unit → Shared → Prop} (hdo : d ≠ o) (hoS : (o == sysModules) = false) (noref : ∀ k v, knd.is k v = true → ∀ a, v ≠ .ref a)
    (hd : s.heap.DictOf knd d kvs) (ho : s.heap.DictOf knd o more)
    (hQ : ∀ h', h'.DictOf knd d (merged kvs more) → h'.DictOf knd o more → Heap.SameBut d s.heap h' → Q () { s with heap := h' })
    (hsz : kvs.length + more.length ≤ sizeLine) :
    wpAny (model prog w) A (mergeMapping d (.ref o) false) Q E s := by
  obtain ⟨od, esd, epd, hod, hcd, hdd, hkd, hpd, hnd⟩ := id hd
  obtain ⟨oo, eso, epo, hoo, hco, hdo', hko, hpo, hno⟩ := id ho
  have hlen : more.length = eso.size := by rw [← hpo.length]; simp
  unfold mergeMapping
  refine wpAny_bind (wpAny_isInstance ho.typeIs isSubtype_dict_dict ?_)
  dsimp only
  rw [if_pos rfl]
  refine wpAny_bind (wpAny_specialOf ho.typeIs F.slot_dict_iter.lookup ?_)
  rw [show (some (Value.builtin "dict.__iter__") == some (Value.builtin "dict.__iter__")) = true by simp]
  refine wpAny_bind (wpAny_pure ?_)
  dsimp only
  rw [if_neg (by rw [hoS]; exact Bool.false_ne_true)]
  refine wpAny_bind (wpAny_dictEntries hod hdd ?_)
  have loop : wpAny (model prog w) A (do
      let l ← dictEntries o
      let size := l.size
      let epoch ← dictEpoch o
      forIn (List.range size) PUnit.unit fun i (_ : PUnit) => (do
          let l' ← dictEntries o
          match l'[i]? with
            | some e => do
              holding [e.key, e.val] (if false = true then do
                  let l2 ← dictFind d e.key e.hash
                  if l2.isSome = true then do
                      rule "dict.merge.duplicate-key"
                      let l3 ← newExc (Value.type "KeyError") [e.key]
                      raiseNew l3
                      dictPut d e.hash e.key e.val
                    else dictPut d e.hash e.key e.val
                else dictPut d e.hash e.key e.val)
              let ep' ← dictEpoch o
              if (ep' != epoch) = true then do
                  (unsupported "dict.changed-during-merge" : Sem PUnit)
                  pure (ForInStep.yield PUnit.unit)
                else pure (ForInStep.yield PUnit.unit)
            | _ => do
              (unsupported "dict.changed-during-merge" : Sem PUnit)
              pure (ForInStep.yield PUnit.unit) : Sem (ForInStep PUnit))
      pure ()) Q E s := by
    refine wpAny_bind (wpAny_dictEntries hoo hdo' ?_)
    dsimp only
    refine wpAny_bind (wpAny_dictEpoch hoo hdo' ?_)
    refine wpAny_bind ?_
    rw [List.range_eq_range']
    refine wpAny_forIn_list _
      (fun rest _ s' => ∃ h' i, s' = { s with heap := h' } ∧ rest = List.range' i (eso.size - i) ∧ i ≤ eso.size ∧ h'.DictOf knd d (merged kvs (more.take i)) ∧ h'.get? o = some oo ∧ Heap.SameBut d s.heap h')
      _ ?_ ?_ _ _ ⟨s.heap, 0, rfl, by simp, Nat.zero_le _, by simpa [merged] using hd, hoo, Heap.SameBut.refl _ _⟩
    · rintro x rest b s' ⟨h', i, rfl, hr, hi, hd', hoo', hs'⟩
      have hlt : i < eso.size := by
        rcases Nat.lt_or_ge i eso.size with h | h
        · exact h
        · rw [Nat.sub_eq_zero_of_le h] at hr; simp at hr
      obtain ⟨rfl, hrest⟩ : x = i ∧ rest = List.range' (i + 1) (eso.size - (i + 1)) := by
        have e : eso.size - i = (eso.size - (i + 1)) + 1 := by omega
        rw [e, List.range'_succ] at hr
        injection hr with h1 h2
        exact ⟨h1, h2⟩
      refine wpAny_bind (wpAny_dictEntries hoo' hdo' ?_)
      rw [Array.getElem?_eq_getElem hlt]
      obtain ⟨kv, hkv⟩ : ∃ kv, more[x]? = some kv := ⟨more[x]'(by rw [hlen]; exact hlt), List.getElem?_eq_getElem _⟩
      obtain ⟨k, v⟩ := kv
      obtain ⟨hkey, hval⟩ := hpo.get? (e := eso[x]) (by simp [hlt]) hkv
      obtain ⟨k', hkey', hhash⟩ := hko eso[x] (Array.getElem_mem hlt)
      obtain rfl : k' = k := knd.inj _ _ _ hkey' hkey
      dsimp only
      rw [hhash, hval, if_neg (by decide)]
      have hmx : (merged kvs (more.take x)).length ≤ sizeLine := by
        have e1 := merged_length_le kvs (more.take x)
        have e2 : (more.take x).length ≤ more.length := by rw [List.length_take]; omega
        omega
      refine wpAny_bind (wpAny_holding (wpAny_dictPut_pairs (hsz := hmx) hkey hd' fun h'' hd'' hs'' => ?_))
      have hoo'' : h''.get? o = some oo := (hs''.2 o (Ne.symm hdo)).trans hoo'
      refine wpAny_bind (wpAny_dictEpoch hoo'' hdo' ?_)
      rw [if_neg (by simp)]
      exact wpAny_pure ⟨h'', x + 1, rfl, hrest, hlt, by rw [merged_take_succ kvs more x (k', v) hkv]; exact hd'', hoo'', hs'.trans hs''⟩
    · rintro b s' ⟨h', i, rfl, hr, hi, hd', hoo', hs'⟩
      have hin : i = eso.size := by
        rcases Nat.lt_or_ge i eso.size with h | h
        · have e : eso.size - i = (eso.size - (i + 1)) + 1 := by omega
          rw [e, List.range'_succ] at hr; exact nomatch hr
        · exact Nat.le_antisymm hi h
      refine wpAny_pure (hQ h' ?_ ⟨oo, eso, epo, hoo', hco, hdo', hko, hpo, hno⟩ hs')
      rw [hin, ← hlen, List.take_length] at hd'; exact hd'
  split
  · refine wpAny_bind (wpAny_dictEntries hoo hdo' ?_)
    refine wpAny_bind ?_
    rw [← Array.forIn_toList]
    refine wpAny_forIn_list _ (fun rest _ s' => s' = s ∧ ∀ e ∈ rest, e ∈ eso) _ ?_ ?_ _ _ ⟨rfl, fun e h => Array.mem_toList_iff.mp h⟩
    · rintro e rest b s' ⟨rfl, hr⟩
      obtain ⟨k', hkey', _⟩ := hko e (hr e List.mem_cons_self)
      have nr := noref _ _ hkey'
      split
      · rename_i a ea
        exact absurd ea (nr a)
      · exact wpAny_pure ⟨rfl, fun e h => hr e (List.mem_cons_of_mem _ h)⟩
    · rintro b s' ⟨rfl, _⟩
      exact loop
  · exact loop
end
end LR
set_option Elab.async false
set_option maxRecDepth 100000
set_option linter.all false
set_option maxHeartbeats 4000000
namespace LR
open PySem PySem.Spec PyProof.Rows L2
theorem key_noref {P : Program} {w : World} : ∀ (k : Key) (v : Value), (mixKind P w).is k v = true → ∀ a, v ≠ .ref a := fun k v h a e => by
  subst e
  have h : keyIs k (.ref a) = true := h
  rcases keyIs_shape h with ⟨i, t, _, z⟩ | ⟨x, t, _, z⟩ <;> cases z
theorem d_merge {X : Cx} {pins : List (Addr × Obj)} {σ : L2.St} {H : Hp} {s : Shared} {E : Value → Shared → Prop} {Q : Unit → Shared → Prop} {d o : Addr} {kvs more : List (Key × V)} (I : Inv X pins σ H s) (hdo : d ≠ o) (e : H d = some (.dK kvs)) (eo : Rd H o (.dK more)) (hz : kvs.length + more.length ≤ 2000)
    (h : ∀ s', Inv X pins σ (upd H d (.dK (mergeK kvs more))) s' → Q () s') : wpAny (model X.prog X.w) X.A (mergeMapping d (.ref o) false) Q E s := by
  obtain ⟨_, _, vs, r1, dd⟩ := dk_of I.hok e
  obtain ⟨_, os, ws, r2, do'⟩ := dk_rd I.hok eo
  have l1 : kvs.length = vs.length := Paired.length r1
  have l2 : more.length = ws.length := Paired.length r2
  refine wpAny_mergeMapping hdo os key_noref dd do' (fun h' dd' _ hs => h _ ?_) (by rw [sizeLine_eq]; omega)
  have he : ∃ q, h'.get? d = some q := let ⟨q, _, _, hq, _⟩ := dd'; ⟨q, hq⟩
  have hl : (mergeK kvs more).length ≤ sizeLine := by
    have := length_mergeK more kvs
    rw [sizeLine_eq]; omega
  obtain ⟨_, hd, _⟩ := dk_of I.hok e
  exact d_write I (by rw [e]; exact True.intro) hs he (dk_new hl hd (r2.merge r1) dd')
def tDMerge (ta tb : TE) : TE := fun σ H Q => ∀ p, H p = none → ta σ (upd H p (.dK [])) fun x H1 => ∃ qa ka, x = .ref qa ∧ p ≠ qa ∧ H1 p = some (.dK []) ∧ Rd H1 qa (.dK ka) ∧ ka.length ≤ 900 ∧
  tb σ (upd H1 p (.dK (mergeK [] ka))) fun y H2 => ∃ qb kb, y = .ref qb ∧ p ≠ qb ∧ H2 p = some (.dK (mergeK [] ka)) ∧ Rd H2 qb (.dK kb) ∧ kb.length ≤ 900 ∧ Q (.ref p) (upd H2 p (.dK (mergeK (mergeK [] ka) kb)))
theorem pe_dmerge {X : Cx} {pos : Pos} {a b : Expr} {ta tb : TE} (ha : PE X a ta) (hb : PE X b tb) : PE X (.Dict [none, none] [a, b] pos) (tDMerge ta tb) := by
  refine ⟨fun pins s σ H Q I q => ?_⟩
  rw [arm_eval_Dict]
  refine wpAny_bind (wpAny_standAt ?_)
  show wpAny _ _ (dictDisplay [(none, do let x ← eval a X.env; standAt pos; pure x), (none, do let x ← eval b X.env; standAt pos; pure x)]) _ _ _
  have hn := I.hok.fresh (Nat.le_refl s.heap.objs.size)
  have I1 := I.laid (a := s.heap.objs.size) (o := .dK []) (h' := s.heap.push { cls := .type "dict", data := .dict #[] }) (t' := s.toks) (fun _ _ q => Heap.get?_push_of_some _ q) (Nat.le_refl _) (dk_empty s.heap I.big)
  have q := q _ hn
  unfold dictDisplay
  dsimp only
  refine wpAny_bind ?_
  rw [List.forIn_cons]
  dsimp only
  refine wpAny_bind ?_
  rw [if_pos (by rfl)]
  refine wpAny_bind (wpAny_pure ?_)
  dsimp only
  refine wpAny_bind (wpAny_alloc ?_)
  refine wpAny_bind (wpAny_holding (wpAny_bind (thn (ha.run pins _ σ _ _ I1 q) fun m s1 ⟨x, H1, I2, rx, qa, ka, ex, na, ep, er, za, q2⟩ => wpAny_bind (wpAny_standAt (wpAny_pure ?_)))))
  subst ex
  obtain rfl : m = Value.ref qa := rx
  refine wpAny_bind (wpAny_onRaise (wpAny_tryCatch (wpAny_onRaise (wpAny_holding (d_merge I2 na ep er (by show 0 + _ ≤ 2000; omega) fun s2 I3 => ?_)))))
  refine wpAny_pure ?_
  dsimp only
  rw [List.forIn_cons]
  dsimp only
  refine wpAny_bind ?_
  rw [if_pos (by rfl)]
  refine wpAny_bind (wpAny_pure ?_)
  dsimp only
  refine wpAny_bind (wpAny_pure ?_)
  refine wpAny_bind (wpAny_holding (wpAny_bind (thn (hb.run pins _ σ _ _ I3 q2) fun m s1 ⟨y, H2, I4, ry, qb, kb, ey, nb, ep2, er2, zb, q3⟩ => wpAny_bind (wpAny_standAt (wpAny_pure ?_)))))
  subst ey
  obtain rfl : m = Value.ref qb := ry
  have lm := length_mergeK ka []
  rw [List.length_nil] at lm
  refine wpAny_bind (wpAny_onRaise (wpAny_tryCatch (wpAny_onRaise (wpAny_holding (d_merge I4 nb ep2 er2 (by omega) fun s2 I5 => ?_)))))
  refine wpAny_pure ?_
  dsimp only
  rw [List.forIn_nil]
  refine wpAny_pure ?_
  dsimp only
  rw [if_pos (by rfl)]
  refine wpAny_bind (wpAny_pure ?_)
  exact wpAny_pure ⟨.ref s.heap.objs.size, _, I5, rfl, q3⟩
end LR
set_option Elab.async false
set_option maxRecDepth 100000
set_option linter.all false
set_option maxHeartbeats 4000000
namespace LR
open PySem PySem.Spec PyProof.Rows L2
/-! # the data layer: {**a, **b}, {k: d[k] for k in d}, len(d) -/
theorem valV_no {kvs : List (Key × V)} {k : Key} (h : k ∉ kvs.map (·.1)) : valV kvs k = none := by
  induction kvs with
  | nil => rfl
  | cons p r ih =>
    obtain ⟨k0, v⟩ := p
    rw [valV_cons, if_neg fun e => h (by rw [← e]; exact List.mem_cons_self), ih fun z => h (List.mem_cons_of_mem _ z)]
theorem valV_at {kvs : List (Key × V)} (nd : (kvs.map (·.1)).Nodup) : ∀ {n : Nat} {k : Key} {v : V}, kvs[n]? = some (k, v) → valV kvs k = some v := by
  induction kvs with
  | nil => intro n k v h; cases h
  | cons p r ih =>
    intro n k v h
    obtain ⟨k0, v0⟩ := p
    rw [List.map_cons, List.nodup_cons] at nd
    rw [valV_cons]
    cases n with
    | zero => cases h; rw [if_pos rfl]
    | succ n =>
      have m : k ∈ r.map (·.1) := List.mem_map.mpr ⟨(k, v), List.mem_of_getElem? h, rfl⟩
      rw [if_neg fun e => nd.1 (by rw [← e] at m; exact m)]
      exact ih nd.2 h
theorem mergeK_app {b : List (Key × V)} : ∀ {a : List (Key × V)}, ((a ++ b).map (·.1)).Nodup → mergeK a b = a ++ b := by
  induction b with
  | nil => intro a _; rw [List.append_nil]; rfl
  | cons p r ih =>
    intro a nd
    have n1 : p.1 ∉ a.map (·.1) := fun m => by
      rw [List.map_append, List.nodup_append] at nd
      exact nd.2.2 _ m _ (by rw [List.map_cons]; exact List.mem_cons_self) rfl
    show mergeK (putK a p.1 p.2) r = _
    rw [putK_new _ (valV_no n1), ih (by rw [List.append_assoc]; exact nd), List.append_assoc]
    rfl
theorem inl_nodup {ks : List Int} (h : ks.Nodup) : (ks.map (Sum.inl : Int → Key)).Nodup := by
  rw [List.nodup_iff_pairwise_ne, List.pairwise_map]
  exact (List.nodup_iff_pairwise_ne.mp h).imp fun n e => n (Sum.inl.inj e)
def dDMerge (da db : DE) : DE := fun env Ed Q => da env Ed (asD fun x => ∃ ks ds, x = .dic ks ds ∧ ks.length ≤ 900 ∧ ks.Nodup ∧ db env Ed (asD fun y => ∃ ks2 ds2, y = .dic ks2 ds2 ∧ ks2.length ≤ 900 ∧ (ks ++ ks2).Nodup ∧ Q (.fr (.dk (ks ++ ks2) (ds ++ ds2)))))
def dDCopy (i j : Nat) : DE := fun env _ Q => i ≠ j ∧ j < env.length ∧ ∃ ks ds, nth env i = .d (.dic ks ds) ∧ ks.Nodup ∧ Q (.fr (.dk ks ds))
def dAsD (d : DE) : DE := fun env Ed Q => d env Ed (asD fun x => Q (.d x))
theorem qe_asD {X : Cx} {W : WX} {e : Expr} {d : DE} (h : QE X W e d) : QE X W e (dAsD d) := PE.mono h fun σ H Q ⟨g, env, Ed, Qd, R, h, kv, kx⟩ => lift.useD R h (fun v x H' g' le R' i q => kv v (.d x) H' g' le R' i q) kx
def lenDicD : List D → Option D
  | [.dic ks _] => some (.int ks.length)
  | _ => none
theorem o_lenDic {K : PySem.W.Frag} : OpN K (fun xs H Q => ∃ a kvs, xs = [V.ref a] ∧ H a = some (.dK kvs) ∧ Q (.int kvs.length) H) lenDicD := ⟨fun {g σ H env vs xs z Q} R i e k => by
  unfold lenDicD at e
  split at e
  · cases e
    obtain ⟨v, rfl, i1⟩ := i.one_inv
    obtain ⟨p, kvs, rfl, hp, hk, hi, hz⟩ := i1.dicE
    have hl := congrArg List.length hk
    rw [List.length_map, List.length_map] at hl
    exact ⟨p, kvs, rfl, R.ok.sb _ _ hp, by rw [hl]; exact k _ _ _ .rfl R (.int _)⟩
  · cases e⟩
section
variable {X : Cx} {W : WX} {pos : Pos} {e a b : Expr}
theorem qe_dmerge {da db : DE} (ha : QE X W a da) (hb : QE X W b db) : QE X W (.Dict [none, none] [a, b] pos) (dDMerge da db) := (pe_dmerge ha hb).mono fun σ H Q ⟨g, env, Ed, Qd, R, h, kv, kx⟩ p hp => by
  obtain ⟨R2, ow, ns⟩ := upd_dk (kvs := []) (ks := []) (ds := []) R hp rfl .nil (by decide)
  refine lift.useD (R2.side ow ns) h (fun u x H1 g1 l1 R1 i1 ⟨ks, ds, ex, zk, nd, h2⟩ => ?_) fun er cls dd H2 g2 l2 R2' ir q => ?_
  · subst ex
    obtain ⟨R3, o3, ns3, l3, hc, _⟩ := Rep.back ow l1 R1
    obtain ⟨qa, ka, rfl, hqa, hk, hi, hz⟩ := i1.dicE
    have hp3 := (hc p (by simp)).trans upd_same
    have pp := o3.pv p (by simp)
    have la := congrArg List.length hk
    rw [List.length_map, List.length_map] at la
    have dl : ds.length = ks.length := by have := hi.length; rw [List.length_map] at this; omega
    have na : p ≠ qa := fun e => by
      have q0 := pp.nb
      rw [e] at q0
      have q1 : g1.B qa = none := q0
      rw [hqa] at q1; cases q1
    refine ⟨qa, ka, rfl, na, hp3, .inl (R3.ok.sb _ _ hqa), by omega, ?_⟩
    have R4 := R3.ownR pp ⟨_, hp3⟩ (fun i => ns3 i p (by simp)) (ys := .dK (mergeK [] ka)) (fun h => h)
    have e1 : mergeK [] ka = ka := by rw [mergeK_app (by rw [List.nil_append, hk]; exact inl_nodup nd)]; rfl
    · rw [e1] at R4 ⊢
      have o4 : OwnAt X.K (g1.back g.P) (upd H1 p (.dK ka)) none (.ref p) (.dk ks ds) [p] := ⟨.dk upd_same hk hi (by omega), by simp, (fun a m => by rw [List.mem_singleton.mp m]; exact pp), o3.pin⟩
      refine lift.useD (R4.side o4 ns3) h2 (fun u2 y H2 g2 l2 R2' i2 ⟨ks2, ds2, ey, z2, nd2, q⟩ => ?_) fun er cls dd H2 g2 l2 R2' ir q => ?_
      · subst ey
        obtain ⟨R5, o5, ns5, l5, hc5, _⟩ := Rep.back o4 l2 R2'
        obtain ⟨qb, kb, rfl, hqb, hk2, hi2, hz2⟩ := i2.dicE
        have hp5 := (hc5 p (by simp)).trans upd_same
        have pp5 := o5.pv p (by simp)
        have lb := congrArg List.length hk2
        rw [List.length_map, List.length_map] at lb
        have nb : p ≠ qb := fun e => by
          have q0 := pp5.nb
          rw [e] at q0
          have q1 : g2.B qb = none := q0
          rw [hqb] at q1; cases q1
        have ek : (ka ++ kb).map (·.1) = (ks ++ ks2).map Sum.inl := by rw [List.map_append, List.map_append, hk, hk2]
        have e2 : mergeK ka kb = ka ++ kb := mergeK_app (by rw [ek]; exact inl_nodup nd2)
        refine ⟨qb, kb, rfl, nb, hp5, .inl (R5.ok.sb _ _ hqb), by omega, ?_⟩
        rw [e2]
        refine kv _ (.fr (.dk (ks ++ ks2) (ds ++ ds2))) _ _ (l3.trans l5) (R5.ownR pp5 ⟨_, hp5⟩ (fun i => ns5 i p (by simp)) (ys := .dK (ka ++ kb)) (fun h => h)) ⟨[p], ⟨.dk upd_same ek ?_ (by rw [List.length_append]; omega), by simp, (fun a m => by rw [List.mem_singleton.mp m]; exact pp5), o5.pin⟩, ns5⟩ q
        rw [List.map_append]
        exact (hi.mono l5.b).append hi2
      · obtain ⟨R5, o5, ns5, l5, hc5, _⟩ := Rep.back o4 l2 R2'
        exact kx er cls dd H2 _ (l3.trans l5) R5 ir q
  · obtain ⟨R3, o3, ns3, l3, hc, _⟩ := Rep.back ow l2 R2'
    exact kx er cls dd H2 _ l3 R3 ir q
theorem qe_dcopy {i j : Nat} {kx vx tg iter : Expr} {scope : Scope} {own : Str × Nat} (hc : X.calm = true) (hN : X.N.Nodup) (hi : PE X iter (tVar i)) (ok : BlkOk X.N X.env.scope scope [own]) (hj : own.2 = j)
    (hg : ∀ (s : Shared) (H : Hp) (C : Addr) (cl : List (Str × Addr)) (fp : List Addr), PG (X.blk s H scope (compEnvC scope cl C X.env) fp) tg (gName j))
    (hk : ∀ (s : Shared) (H : Hp) (C : Addr) (cl : List (Str × Addr)) (fp : List Addr), PE (X.blk s H scope (compEnvC scope cl C X.env) fp) kx (tVar j))
    (he : ∀ (s : Shared) (H : Hp) (C : Addr) (cl : List (Str × Addr)) (fp : List Addr), PE (X.blk s H scope (compEnvC scope cl C X.env) fp) vx (tDGet (tVar i) (tVar j)))
    (hs : ∀ x : Value, foldedSetIterable iter X.env x = pure x := by intro _; rfl) : QE X W (.DictComp kx vx [⟨tg, iter, [], 0⟩] scope pos) (dDCopy i j) :=
  (pe_lock (pe_dc (tt := tYes) hc hN (pi_keys hi) ok hg (fun _ _ _ _ _ => pts_nil) hk he hs)).mono fun σ H Q ⟨g, env, Ed, Qd, R, ⟨ne, jl, ks, ds, en, nd, q⟩, kv, kx⟩ => by
  subst hj
  have s := R.sl i
  rw [en] at s
  obtain ⟨v, es, iv⟩ := s
  obtain ⟨d, kvs, rfl, hd, hk, hi, hz⟩ := iv.dicE
  have hH := R.ok.sb _ _ hd
  have ndk : (kvs.map (·.1)).Nodup := by rw [hk]; exact inl_nodup nd
  have jl : own.2 < σ.length := by rw [R.ln]; exact jl
  refine ⟨d, .dK kvs, hH, True.intro, fun od => ⟨.ref d, es, d, od, rfl, .inl ⟨kvs, upd_same, fun D hD => ?_⟩⟩⟩
  have nD : D ≠ d := fun e => by rw [e, upd_same] at hD; cases hD
  have hD0 : H D = none := by rw [upd_ne nD] at hD; exact hD
  refine it_gen walk_keys (Qd := fun H' => H' d = some (.frz od (.dK kvs)) ∧ Q (.ref D) (upd H' d (.dK kvs))) (Body := fun Nx x H' => gName own.2 x (wipe σ [own.2]) H' fun σ2 H2 => wipe σ2 [own.2] = wipe σ [own.2] ∧ tYes σ2 H2 fun c H3 => if c = true then tVar own.2 σ2 H3 fun y H4 => tDGet (tVar i) (tVar own.2) σ2 H4 fun z H5 => ∃ kvs k, y = kV k ∧ H5 D = some (.dK kvs) ∧ kvs.length < sizeLine ∧ Nx (upd H5 D (.dK (putK kvs k z))) else Nx H3)
    (fun n H' => H' = upd (upd H d (.frz od (.dK kvs))) D (.dK (kvs.take n))) (by rw [List.take_zero]) (fun n H' _ e => by rw [e, upd_ne (Ne.symm nD), upd_same]) ?_ ?_
  · rintro n x H1 H2 hn rfl ⟨rfl, k, v, hkv, rfl⟩
    have l1 : own.2 < (wipe σ [own.2]).length := by rw [wipe_length]; exact jl
    refine ⟨?_, ?_⟩
    · show ((wipe σ [own.2]).set own.2 (some (kV k))).set own.2 none = σ.set own.2 none
      show ((σ.set own.2 none).set own.2 (some (kV k))).set own.2 none = σ.set own.2 none
      rw [List.set_set, List.set_set]
    unfold tYes
    dsimp only
    rw [if_pos rfl]
    have e1 : ((wipe σ [own.2]).set own.2 (some (kV k)))[own.2]? = some (some (kV k)) := by rw [List.getElem?_set_self l1]
    have e2 : ((wipe σ [own.2]).set own.2 (some (kV k)))[i]? = some (some (.ref d)) := by
      rw [List.getElem?_set_ne (Ne.symm ne), wipe_out (by simpa using ne)]; exact es
    refine ⟨_, e1, _, e2, _, e1, d, v, rfl, ?_, ?_⟩
    · exact .inl ⟨kvs, k, .inr ⟨od, by rw [upd_ne (Ne.symm nD), upd_same]⟩, rfl, (valV_at ndk hkv).symm⟩
    · have nk : valV (kvs.take n) k = none := valV_no fun m => by
        obtain ⟨p, mp, ep⟩ := List.mem_map.mp m
        obtain ⟨q, hq⟩ := List.mem_iff_getElem?.mp mp
        have ql : q < n := by
          refine Classical.byContradiction fun c => ?_
          rw [List.getElem?_eq_none (by rw [List.length_take]; omega)] at hq
          cases hq
        rw [List.getElem?_take_of_lt ql] at hq
        have a1 : (kvs.map (·.1))[q]? = some k := by rw [List.getElem?_map, hq, ← ep]; rfl
        have a2 : (kvs.map (·.1))[n]? = some k := by rw [List.getElem?_map, hkv]; rfl
        have ln : n < (kvs.map (·.1)).length := by rw [List.length_map]; exact hn
        have lq : q < (kvs.map (·.1)).length := by omega
        have df := List.pairwise_iff_getElem.mp (List.nodup_iff_pairwise_ne.mp ndk) q n lq ln ql
        rw [List.getElem?_eq_getElem lq] at a1
        rw [List.getElem?_eq_getElem ln] at a2
        exact df ((Option.some.inj a1).trans (Option.some.inj a2).symm)
      refine ⟨kvs.take n, k, rfl, upd_same, by rw [List.length_take, sizeLine_eq]; omega, ?_⟩
      rw [putK_new _ nk]
      have : kvs.take n ++ [(k, v)] = kvs.take (n + 1) := by rw [List.take_add_one, hkv]; rfl
      rw [this]
      funext c
      by_cases cD : c = D
      · rw [cD, upd_same, upd_same]
      · rw [upd_ne cD, upd_ne cD, upd_ne cD]
  · rintro H' rfl
    refine ⟨by rw [upd_ne (Ne.symm nD), upd_same], ?_⟩
    rw [List.take_length]
    have e : upd (upd (upd H d (.frz od (.dK kvs))) D (.dK kvs)) d (.dK kvs) = upd H D (.dK kvs) := by
      funext c
      by_cases cd : c = d
      · rw [cd, upd_same, upd_ne (Ne.symm nD), hH]
      · rw [upd_ne cd]
        by_cases cD : c = D
        · rw [cD, upd_same, upd_same]
        · rw [upd_ne cD, upd_ne cD, upd_ne cd]
    rw [e]
    obtain ⟨R2, o, ns⟩ := upd_dk R hD0 hk hi hz
    exact kv _ (.fr (.dk ks ds)) _ _ .rfl R2 ⟨_, o, ns⟩ q
end
end LR
set_option Elab.async false
set_option maxRecDepth 100000
set_option linter.all false
set_option maxHeartbeats 4000000
namespace LR
open PySem PySem.Spec PyProof.Rows L2
/-! # tables of winners as data -/
def whoD (p : Bool) : D := .str ⟨#[ltr p]⟩
theorem eqD_pl (a b : Bool) : eqD (whoD a) (whoD b) = some (.bl (decide (a = b))) := by
  show (if PyData.strOk ⟨#[ltr a]⟩ = true ∧ PyData.strOk ⟨#[ltr b]⟩ = true then some (D.bl (decide ((⟨#[ltr a]⟩ : Str) = ⟨#[ltr b]⟩))) else none) = _
  rw [if_pos ⟨by cases a <;> decide +kernel, by cases b <;> decide +kernel⟩]
  congr 2
  cases a <;> cases b <;> decide +kernel
def wnE : Option (List Int) → D
  | none => .non
  | some e => intT e
def wnD (a : Ans) : D := .tup [whoD a.1, wnE a.2]
def wnL (w : Tab) : List D := w.map fun x => wnD x.2
def tabD (w : Tab) : D := .dic (keysT w) (wnL w)
def tabO (w : Tab) : Ow := .dk (keysT w) (wnL w)
theorem dk_look {v : Int} : ∀ {w : Tab}, dkGet (keysT w) (wnL w) v = (look w v).map wnD
  | [] => rfl
  | (k, a) :: r => by
    show (if k = v then some (wnD a) else dkGet (keysT r) (wnL r) v) = (if k = v then some a else look r v).map wnD
    by_cases c : k = v
    · rw [if_pos c, if_pos c]; rfl
    · rw [if_neg c, if_neg c]; exact dk_look
theorem dk_put_new {w : Tab} {v : Int} {a : Ans} (h : v ∉ keysT w) : dkPut (keysT w) (wnL w) v (wnD a) = (keysT (w ++ [(v, a)]), wnL (w ++ [(v, a)])) := by
  unfold dkPut
  rw [if_neg h]
  unfold keysT wnL
  rw [List.map_append, List.map_append]
  rfl
theorem keys_len {w : Tab} : (keysT w).length = w.length := List.length_map _
def rkD : Option Int → D
  | none => .non
  | some m => .int m
theorem eq_rk (r : Int) (d : Option Int) : eqD (.int r) (rkD d) = some (.bl (decide (d = some r))) := by
  cases d with
  | none => exact congrArg some (congrArg D.bl (decide_eq_false (by simp)).symm)
  | some m =>
    show some (D.bl (decide (r = m))) = _
    congr 2
    rw [decide_eq_decide]
    exact ⟨fun h => by rw [h], fun h => (Option.some.inj h).symm⟩
/-- the edges between nodes -/
def btw (ns : List Int) (es : List (List Int)) : List (List Int) := es.filter fun e => decide (es0 e ∈ ns) && decide (es2 e ∈ ns)
theorem mem_btw {ns es e} : e ∈ btw ns es ↔ e ∈ es ∧ es0 e ∈ ns ∧ es2 e ∈ ns := by
  unfold btw
  rw [List.mem_filter, Bool.and_eq_true, decide_eq_true_eq, decide_eq_true_eq]
/-- what a part of a game is -/
structure Part (os : List Bool) (ns : List Int) (es : List (List Int)) : Prop where
  tot : Tot ns es
  bd : ∀ v ∈ ns, 0 ≤ v ∧ v < os.length
  n9 : os.length ≤ 9
  ok : ∀ e ∈ es, EdgeOk 1000 os.length e
  sz : es.length ≤ 63
theorem Part.len {os ns es} (p : Part os ns es) : ns.length ≤ 9 := Nat.le_trans (int_card p.tot.nd p.bd) p.n9
theorem ptupW {p q : PF} {env : List Ev} {a b : D} (h1 : p env = some a) (h2 : q env = some b) : ptup [p, q] env = some (.tup [a, b]) := by
  unfold ptup evs evs evs
  rw [h1, h2]
theorem own_at {os : List Bool} {v : Int} (h0 : 0 ≤ v) (h1 : v < os.length) (h9 : os.length ≤ 9) : ixD (.str (strO os)) (.int v) = some (whoD (ownr os v)) := by
  obtain ⟨k, rfl⟩ : ∃ k : Nat, v = (k : Int) := ⟨v.toNat, by omega⟩
  have hk : k < os.length := by omega
  rw [strO_ix (by omega) (List.getElem?_eq_getElem hk)]
  unfold ownr
  rw [Int.toNat_natCast, getD_get hk]
  rfl
theorem neD_pl (a b : Bool) : neD (whoD a) (whoD b) = some (.bl (!decide (a = b))) := by
  unfold neD
  rw [eqD_pl]; rfl
/-! ## what the other player wins of a table -/
def pick (o : Bool) (w : Tab) (v : Int) : Tab := match look w v with
  | some a => if a.1 = o then [(v, a)] else []
  | none => []
def wonT (o : Bool) (w : Tab) (l : List Int) : Tab := l.flatMap (pick o w)
theorem wonT_snoc {o w l v} : wonT o w (l ++ [v]) = wonT o w l ++ pick o w v := by
  unfold wonT
  rw [List.flatMap_append]
  simp
theorem look_pick {o w v u a} : look (pick o w v) u = some a ↔ u = v ∧ look w v = some a ∧ a.1 = o := by
  unfold pick
  cases h : look w v with
  | none => exact ⟨fun z => (by cases z), fun z => (by cases z.2.1)⟩
  | some b =>
    dsimp only
    by_cases c : b.1 = o
    · rw [if_pos c]
      show (if v = u then some b else none) = some a ↔ _
      by_cases e : v = u
      · rw [if_pos e]
        exact ⟨fun z => by cases z; exact ⟨e.symm, rfl, c⟩, fun z => z.2.1⟩
      · rw [if_neg e]
        exact ⟨fun z => (by cases z), fun z => absurd z.1.symm e⟩
    · rw [if_neg c]
      exact ⟨fun z => (by cases z), fun z => absurd (by cases z.2.1; exact z.2.2) c⟩
theorem look_won {o w u a} : ∀ {l : List Int}, look (wonT o w l) u = some a ↔ u ∈ l ∧ look w u = some a ∧ a.1 = o
  | [] => ⟨fun z => (by cases z), fun z => (by cases z.1)⟩
  | v :: l => by
    show look (pick o w v ++ wonT o w l) u = some a ↔ _
    rw [look_app]
    by_cases c : u ∈ keysT (pick o w v)
    · rw [if_pos c, look_pick]
      obtain ⟨b, hb⟩ := look_some c
      obtain ⟨rfl, h1, h2⟩ := look_pick.mp hb
      exact ⟨fun z => ⟨List.mem_cons_self, z.2⟩, fun z => ⟨rfl, z.2⟩⟩
    · rw [if_neg c, look_won (l := l)]
      refine ⟨fun z => ⟨List.mem_cons_of_mem _ z.1, z.2⟩, fun z => ⟨?_, z.2⟩⟩
      rcases List.mem_cons.mp z.1 with e | e
      · subst e
        exact absurd (look_key (look_pick.mpr ⟨rfl, z.2⟩)) c
      · exact e
theorem won_sub {o w} : ∀ {l : List Int}, (keysT (wonT o w l)).Sublist l
  | [] => List.Sublist.refl _
  | v :: l => by
    show (keysT (pick o w v ++ wonT o w l)).Sublist (v :: l)
    rw [keys_app]
    unfold pick
    cases look w v with
    | none => exact (won_sub (l := l)).cons _
    | some b =>
      dsimp only
      by_cases c : b.1 = o
      · rw [if_pos c]; exact (won_sub (l := l)).cons₂ _
      · rw [if_neg c]; exact (won_sub (l := l)).cons _
theorem tabD_app {a b : Tab} : LR.D.dic (keysT a ++ keysT b) (wnL a ++ wnL b) = tabD (a ++ b) := by
  unfold tabD keysT wnL
  rw [List.map_append, List.map_append]
theorem max_ints {l : List Int} (h : l ≠ []) : ∃ m ∈ l, (∀ x ∈ l, x ≤ m) ∧ maxLD [.lst (l.map .int)] = some (.int m) := by
  cases e : l.max? with
  | none => exact absurd (List.max?_eq_none_iff.mp e) h
  | some m =>
    have h2 := List.max?_eq_some_iff.mp e
    refine ⟨m, h2.1, h2.2, ?_⟩
    show ((ins (l.map D.int)).bind fun ns => ns.max?.map D.int) = _
    rw [ins_map]
    show (List.max? _).map _ = _
    rw [e]; rfl
theorem part_sub {os ns es rest es'} (P : Part os ns es) (T : Tot rest es') (hr : ∀ v ∈ rest, v ∈ ns) (he : ∀ e ∈ es', e ∈ es) (hl : es'.length ≤ es.length) : Part os rest es' :=
  ⟨T, fun v h => P.bd v (hr v h), P.n9, fun e h => P.ok e (he e h), Nat.le_trans hl P.sz⟩
end LR
set_option Elab.async false
set_option maxRecDepth 100000
set_option linter.all false
set_option maxHeartbeats 4000000
namespace LR
open PySem PySem.Spec PyProof.Rows L2 TL
/-! # the data layer: "".join of letters -/
def strsD : List D → Option (List Str)
  | [] => some []
  | .str x :: r => (strsD r).map (x :: ·)
  | _ :: _ => none
def joinD : D → D → Option D
  | .str a, .lst l => (strsD l).bind fun ys => if (ys.map (·.length)).sum + ys.length * a.length ≤ 16777216 then some (.str (PySem.Txt.join a ys)) else none
  | _, _ => none
theorem iss_strs {K : PySem.W.Frag} {B : Hp} : ∀ {l : List D} {xs : List V} {ys : List Str}, Iss K B xs l → strsD l = some ys → xs = ys.map V.str
  | [], _, _, i, h => by cases h; cases i; rfl
  | d :: l, xs, ys, i, h => by
    cases i with
    | cons a t =>
      cases d with
      | str x =>
        obtain ⟨zs, hz, rfl⟩ := Option.map_eq_some_iff.mp h
        rw [List.map_cons, ← iss_strs t hz]
        cases a; rfl
      | _ => cases h
section
variable {X : Cx} {o a : Expr} {apos cpos : Pos} {q1 q2 : PF}
theorem qp_join (ho : QP X o q1) (ha : QP X a q2) (hs : starEach [a] X.env = [(false, eval a X.env)] := by rfl) (hbase : attributeBase o "join" X.env (eval o X.env) = eval o X.env := by rfl) (hline : (apos.endLine == cpos.line) = true := by rfl) :
    QP X (.Call (.Attribute o "join" apos) [a] [] cpos) (p2 joinD q1 q2) := fun W => (pe_join (ho W) (ha W) hs hbase hline).mono fun σ H Q ⟨g, env, Ed, Qd, R, ⟨z, hz, q⟩, kv, kx⟩ => by
  obtain ⟨x, y, ex, ey, ez⟩ := p2_some hz
  unfold joinD at ez
  split at ez
  · rename_i b l
    obtain ⟨ys, hys, ez⟩ := Option.bind_eq_some_iff.mp ez
    split at ez
    · rename_i hsz
      cases ez
      refine lift.useP R ex fun v H1 g1 l1 R1 i1 => ?_
      have ev : v = .str b := by cases i1; rfl
      refine ⟨⟨b, ev⟩, lift.useP R1 ey fun u H2 g2 l2 R2 i2 => ?_⟩
      obtain ⟨p, xs, rfl, hp, ip, _⟩ := i2.lstE
      have e := iss_strs ip hys
      subst e
      exact ⟨b, p, ys, ev, rfl, .inl (SqL.of (R2.ok.sb _ _ hp)), hsz, kv _ (.d (.str _)) H2 g2 (l1.trans l2) R2 (.str _) q⟩
    · cases ez
  · cases ez
end
theorem strsD_map {α : Type} (f : α → Str) : ∀ l : List α, strsD (l.map fun x => D.str (f x)) = some (l.map f)
  | [] => rfl
  | x :: l => by
    show (strsD (l.map fun x => D.str (f x))).map (f x :: ·) = _
    rw [strsD_map f l]; rfl
theorem joinL_ones : ∀ l : List Nat, joinL [] (l.map fun c => [c]) = l
  | [] => rfl
  | [_] => rfl
  | x :: y :: r => by
    show [x] ++ ([] ++ joinL [] ((y :: r).map fun c => [c])) = _
    rw [joinL_ones (y :: r)]; rfl
theorem join_ltrs (l : List Bool) : PySem.Txt.join (Str.ofString "") (l.map fun b => ⟨#[ltr b]⟩) = strO l := by
  show Builtin.Str.glued _ _ = _
  rw [StrLaws.glued_eq_join]
  refine ext_tl ?_
  rw [tl_join, List.map_map]
  have e : tl (Str.ofString "") = [] := by decide
  rw [e]
  show joinL [] (l.map fun b => [ltr b]) = l.map ltr
  rw [← joinL_ones (l.map ltr), List.map_map]
  rfl
theorem joinD_ltrs {l : List Bool} (h : l.length ≤ 1000) : joinD (.str (Str.ofString "")) (.lst (l.map whoD)) = some (.str (strO l)) := by
  have e := strsD_map (fun b : Bool => (⟨#[ltr b]⟩ : Str)) l
  show (strsD (l.map fun b => D.str ⟨#[ltr b]⟩)).bind _ = _
  rw [e]
  have sm : ∀ l : List Bool, ((l.map fun b => (⟨#[ltr b]⟩ : Str)).map (·.length)).sum = l.length := fun l => by
    induction l with
    | nil => rfl
    | cons x l ih =>
      rw [List.map_cons, List.map_cons, List.sum_cons, ih, List.length_cons]
      show 1 + l.length = _
      omega
  show (if _ + _ * (Str.ofString "").length ≤ _ then _ else _) = _
  rw [if_pos (by rw [sm, List.length_map, show (Str.ofString "").length = 0 by decide]; omega), join_ltrs]
def ninStrD : D → D → Option D
  | .str i, .str j => some (.bl (!(!(Builtin.Str.occurrences j i 0 j.length 1).isEmpty)))
  | _, _ => none
theorem o_ninStr {K : PySem.W.Frag} : Op2 K (fun x y H Q => ∃ i j, x = .str i ∧ y = .str j ∧ Q (.bl (!(!(Builtin.Str.occurrences j i 0 j.length 1).isEmpty))) H) ninStrD := ⟨fun {g σ H env v u x y z Q} R i j e k => by
  unfold ninStrD at e
  split at e
  · cases e
    cases i; cases j
    exact ⟨_, _, rfl, rfl, k _ _ _ .rfl R (.bl _)⟩
  · cases e⟩
theorem nin_AB (b : Bool) : ninStrD (whoD b) (.str (Str.ofString "AB")) = some (.bl false) := by
  cases b <;> exact congrArg (fun z => some (D.bl z)) (by decide +kernel)
end LR
set_option Elab.async false
set_option maxRecDepth 100000
set_option linter.all false
set_option maxHeartbeats 4000000
namespace LR
open PySem PySem.Spec PyProof.Rows L2
/-! # climbing with a row that holds the rows of less levels than nodes tells the winners -/
section
variable {os : List Bool} {ns : List Int} {es : List (List Int)} {w : Tab} {ls : List Int} {ψ : Plc} {h : Nat}
theorem Sol.stay (S : Sol os ns es w) {p : Bool} {e : List Int} (m : e ∈ es) (hn : net os w p e = true) : win w (es0 e) = some p ∧ win w (es2 e) = some p := by
  obtain ⟨pl, hl, k⟩ := net_iff.mp hn
  refine ⟨win_of hl, ?_⟩
  by_cases o : ownr os (es0 e) = p
  · obtain ⟨e', _, q, _, z⟩ := S.own _ _ _ hl o
    rcases k with k | k
    · exact absurd o k
    · rw [k] at q; cases q; exact z
  · exact (S.opp _ _ _ hl o).2 e m rfl
theorem Sol.mem (S : Sol os ns es w) {p : Bool} {v : Int} (h : win w v = some p) : v ∈ ns := by
  obtain ⟨pl, k⟩ := of_win h
  exact (S.keys v).mp (look_key k)
theorem Sol.win (S : Sol os ns es w) {v : Int} (h : v ∈ ns) : ∃ p pl, look w v = some (p, pl) := by
  obtain ⟨⟨p, pl⟩, k⟩ := look_some ((S.keys v).mpr h)
  exact ⟨p, pl, k⟩
theorem wins_told (S : Sol os ns es w) (hn : ∀ v, v ∈ ns ↔ 0 ≤ v ∧ v < os.length) (nn : ns.Nodup) (hr : ∀ e ∈ es, 0 ≤ es1 e ∧ es1 e ≤ 2 * h) (hb : ∀ l ∈ ls, 1 ≤ l)
    (un : ∀ r : List Int, r.length + 1 ≤ os.length → (∀ l ∈ r, 1 ≤ l ∧ l ≤ h) → Held ls r) (F : LeastFit ls os es ψ) {v : Nat} (hw : LR.win w (v : Int) = some true) : (ψ.getD v none).isSome = true := by
  let W := ns.filter fun u => decide (LR.win w u = some true)
  have mW : ∀ u, u ∈ W ↔ LR.win w u = some true := fun u => by
    show u ∈ ns.filter _ ↔ _
    rw [List.mem_filter, decide_eq_true_eq]
    exact ⟨fun z => z.2, fun z => ⟨S.mem z, z⟩⟩
  let N := es.filter (net os w true)
  have no : ¬ HasOdd N := S.par true
  obtain ⟨row, st, rl, rlev, stl, al⟩ := even_row (es := N) (S := W) (H := h) no (fun e he => by
      obtain ⟨a, b⟩ := List.mem_filter.mp he
      obtain ⟨c, d⟩ := S.stay a b
      exact ⟨(mW _).mpr c, (mW _).mpr d⟩) (fun e he => hr e (List.mem_filter.mp he).1) (List.ne_nil_of_mem ((mW _).mpr hw))
  have wl : W.length ≤ os.length := by
    have a : W.length ≤ ns.length := List.length_filter_le _ _
    have b := int_card nn fun x hx => (hn x).mp hx
    omega
  obtain ⟨c, C⟩ := un row (by omega) rlev
  let φ : Plc := (List.range os.length).map fun u : Nat => if LR.win w (u : Int) = some true then some (st (u : Int)) else none
  have pφ : ∀ u : Nat, u < os.length → φ.getD u none = if LR.win w (u : Int) = some true then some (st (u : Int)) else none := fun u hu => by
    show ((List.range os.length).map _).getD u none = _
    rw [List.getD_eq_getElem?_getD, List.getElem?_map, List.getElem?_range hu]; rfl
  have P : PlcOk os.length row.length φ := ⟨by show ((List.range os.length).map _).length = _; rw [List.length_map, List.length_range], fun s m => by
    obtain ⟨u, hu, e⟩ := List.mem_map.mp m
    by_cases z : LR.win w (u : Int) = some true
    · rw [if_pos z] at e; cases e; exact stl _ ((mW _).mpr z)
    · rw [if_neg z] at e; cases e⟩
  have ok : ∀ e ∈ es, net os w true e = true → ∀ u : Nat, es0 e = (u : Int) → okAt row φ (st (u : Int)) e = true := fun e he hne u e0 => by
    obtain ⟨_, w2⟩ := S.stay he hne
    obtain ⟨a, b⟩ := (hn _).mp (S.mem w2)
    have p2 : pat φ (es2 e) = some (st (es2 e)) := by
      unfold pat
      rw [pφ _ (by omega), show ((es2 e).toNat : Int) = es2 e by omega, if_pos w2]
    unfold okAt
    rw [p2]
    have := al e (List.mem_filter.mpr ⟨he, hne⟩)
    rw [e0] at this
    exact this
  have fit : ∀ u, u < os.length → fitsB row os es φ u = true := fun u hu => by
    unfold fitsB
    rw [pφ u hu]
    by_cases z : LR.win w (u : Int) = some true
    · rw [if_pos z]
      show goodAt row os es φ u (st (u : Int)) = true
      obtain ⟨pl, hl⟩ := of_win z
      have ow : ownr os (u : Int) = os.getD u false := by unfold ownr; rw [Int.toNat_natCast]
      unfold goodAt
      by_cases o : os.getD u false = true
      · rw [if_pos o, List.any_eq_true]
        obtain ⟨e, he, ep, e0, _⟩ := S.own _ _ _ hl (by rw [ow]; exact o)
        exact ⟨e, mem_outs.mpr ⟨he, e0⟩, ok e he (net_iff.mpr ⟨pl, by rw [e0]; exact hl, .inr ep⟩) u e0⟩
      · rw [if_neg o, List.all_eq_true]
        intro e he
        obtain ⟨he, e0⟩ := mem_outs.mp he
        exact ok e he (net_iff.mpr ⟨pl, by rw [e0]; exact hl, .inl (by rw [e0, ow]; exact o)⟩) u e0
    · rw [if_neg z]
  have L := F.le _ (carP_ok C P) (fun u hu => by rw [carP_fit hb (fun l hl => (rlev l hl).1) C P fun e he => (hr e he).1]; exact fit u hu) v
  have hv : v < os.length := by have := (hn _).mp (S.mem hw); omega
  rw [carP_at, pφ v hv, if_pos hw] at L
  obtain ⟨t, e, _⟩ := ple_some L
  rw [e]; rfl
theorem told_wins (S : Sol os ns es w) (hn : ∀ v, v ∈ ns ↔ 0 ≤ v ∧ v < os.length) (fit : ∀ v, v < os.length → fitsB ls os es ψ v = true) {v : Nat} (hv : v < os.length) (ht : (ψ.getD v none).isSome = true) : LR.win w (v : Int) = some true := by
  obtain ⟨p, pl, hl⟩ := S.win ((hn (v : Int)).mpr ⟨by omega, by omega⟩)
  cases p with
  | true => exact win_of hl
  | false =>
    exfalso
    let okψ : List Int → Bool := fun e => match pat ψ (es0 e) with
      | some s => okAt ls ψ s e
      | none => false
    let E := (es.filter (net os w false)).filter okψ
    let R := ns.filter fun u => decide (LR.win w u = some false) && (pat ψ u).isSome
    have mR : ∀ u, u ∈ R ↔ LR.win w u = some false ∧ (pat ψ u).isSome = true := fun u => by
      show u ∈ ns.filter _ ↔ _
      rw [List.mem_filter, Bool.and_eq_true, decide_eq_true_eq]
      exact ⟨fun z => z.2, fun z => ⟨S.mem z.1, z⟩⟩
    have nx : ∀ u ∈ R, ∃ e, e ∈ E ∧ es0 e = u ∧ es2 e ∈ R := fun u hu => by
      obtain ⟨u1, u2⟩ := (mR u).mp hu
      obtain ⟨a, b⟩ := (hn u).mp (S.mem u1)
      obtain ⟨pl, hl⟩ := of_win u1
      obtain ⟨s, hs⟩ := Option.isSome_iff_exists.mp u2
      have f := fit u.toNat (by omega)
      unfold fitsB at f
      have hs' : ψ.getD u.toNat none = some s := hs
      rw [hs'] at f
      have f : goodAt ls os es ψ u.toNat s = true := f
      unfold goodAt at f
      have uc : ((u.toNat : Nat) : Int) = u := by omega
      have : ∃ e ∈ es, es0 e = u ∧ net os w false e = true ∧ okAt ls ψ s e = true := by
        by_cases o : os.getD u.toNat false = true
        · rw [if_pos o, List.any_eq_true] at f
          obtain ⟨e, he, k⟩ := f
          obtain ⟨he, e0⟩ := mem_outs.mp he
          rw [uc] at e0
          exact ⟨e, he, e0, net_iff.mpr ⟨pl, by rw [e0]; exact hl, .inl (by rw [e0]; unfold ownr; rw [o]; decide)⟩, k⟩
        · rw [if_neg o, List.all_eq_true] at f
          obtain ⟨e, he, ep, e0, _⟩ := S.own _ _ _ hl (by unfold ownr; simpa using o)
          exact ⟨e, he, e0, net_iff.mpr ⟨pl, by rw [e0]; exact hl, .inr ep⟩, f e (mem_outs.mpr ⟨he, by rw [uc]; exact e0⟩)⟩
      obtain ⟨e, he, e0, h1, h2⟩ := this
      refine ⟨e, List.mem_filter.mpr ⟨List.mem_filter.mpr ⟨he, h1⟩, ?_⟩, e0, (mR _).mpr ⟨(S.stay he h1).2, ?_⟩⟩
      · show (match pat ψ (es0 e) with
          | some s => okAt ls ψ s e
          | none => false) = true
        rw [e0, hs]; exact h2
      · obtain ⟨t, ht, _⟩ := okAt_some h2
        rw [ht]; rfl
    let f : Int → List Int := fun u => if hu : u ∈ R then Classical.choose (nx u hu) else []
    have hf : ∀ u ∈ R, f u ∈ E ∧ es0 (f u) = u ∧ es2 (f u) ∈ R := fun u hu => by
      show (if hu : u ∈ R then Classical.choose (nx u hu) else []) ∈ E ∧ _
      have e : f u = Classical.choose (nx u hu) := dif_pos hu
      rw [e, dif_pos hu]
      exact Classical.choose_spec (nx u hu)
    have v0 : (v : Int) ∈ R := (mR _).mpr ⟨win_of hl, by unfold pat; rw [Int.toNat_natCast]; exact ht⟩
    obtain ⟨e, he, r⟩ := cycle_in v0 hf
    obtain ⟨h1, h2⟩ := List.mem_filter.mp he
    obtain ⟨h0, h1⟩ := List.mem_filter.mp h1
    have sub : ∀ g, g ∈ E.filter (fun g => decide (es1 g ≤ es1 e)) → g ∈ (es.filter (net os w false)).filter (fun g => decide (es1 g ≤ es1 e)) ∧ g ∈ (es.filter okψ).filter (fun g => decide (es1 g ≤ es1 e)) := fun g hg => by
      obtain ⟨a, b⟩ := List.mem_filter.mp hg
      obtain ⟨a, c⟩ := List.mem_filter.mp a
      exact ⟨List.mem_filter.mpr ⟨a, b⟩, List.mem_filter.mpr ⟨List.mem_filter.mpr ⟨(List.mem_filter.mp a).1, c⟩, b⟩⟩
    by_cases c : es1 e % 2 = 1
    · refine suits_even (ls := ls) (st := fun x => ((pat ψ x).getD 0 : Nat)) (es := es.filter okψ) (fun g hg => ?_) ⟨e, List.mem_filter.mpr ⟨h0, h2⟩, c, r.mono fun g hg => (sub g hg).2⟩
      have k := (List.mem_filter.mp hg).2
      have k : (match pat ψ (es0 g) with
          | some s => okAt ls ψ s g
          | none => false) = true := k
      cases hp : pat ψ (es0 g) with
      | none => rw [hp] at k; cases k
      | some s =>
        rw [hp] at k
        obtain ⟨t, ht, ha⟩ := okAt_some k
        rw [ht]; exact ha
    · exact S.par false ⟨e, List.mem_filter.mpr ⟨h0, h1⟩, (by show es1 e % 2 = 0; omega), r.mono fun g hg => (sub g hg).1⟩
/-- with the halving row of as many nodes -/
theorem halv_wins (S : Sol os ns es w) (hn : ∀ v, v ∈ ns ↔ 0 ≤ v ∧ v < os.length) (nn : ns.Nodup) (hr : ∀ e ∈ es, 0 ≤ es1 e ∧ es1 e ≤ 2 * h) (F : LeastFit (hv os.length h) os es ψ) {v : Nat} (hv : v < os.length) : (ψ.getD v none).isSome = decide (LR.win w (v : Int) = some true) := by
  rw [Bool.eq_iff_iff, decide_eq_true_eq]
  exact ⟨told_wins S hn F.fit hv, wins_told S hn nn hr (fun l hl => (hv_lev _ _ h (Nat.le_refl _) (by omega) l hl).1) (fun r a b => held_hv _ _ h (Nat.le_refl _) (by omega) r a b) F⟩
end
end LR
set_option Elab.async false
set_option maxRecDepth 100000
set_option linter.all false
set_option maxHeartbeats 4000000
set_option Elab.async false
set_option maxRecDepth 100000
set_option linter.all false
namespace LR
open PySem PySem.W PySem.Calls PyProof.Rows
/-! # the head: the top's run over the heap as a tree -/
theorem ob_tree {K : Params → Frag} {as : List Addr} {e : ∀ P, as = (K P).map (·.1)} (s : SharedT) : as.map (HandSHeadRun.getT s) = (kHook K as e).obs s.abs :=
  List.map_congr_left fun a _ => HandSHeadRun.getT_eq s a
end LR
set_option Elab.async false
set_option maxRecDepth 100000
set_option linter.all false
set_option maxHeartbeats 4000000
namespace LR
open PySem PySem.Spec PyProof.Rows L2
def topS (i : Nat) : Stmt := PySem.Challenge.pw_ladderreach_k11_whole_winners_and_plan.main.body.getD i (.Pass ⟨0, 0, 0, 0⟩)
abbrev s_opponent : Stmt := topS 2
abbrev N_opponent : List Str := ["player"]
theorem sc_opponent : FnScope N_opponent ["player"] (defScope s_opponent) := ⟨rfl, rfl, rfl, by decide +kernel, rfl, by decide +kernel, by decide +kernel⟩
abbrev s_wanting : Stmt := topS 3
abbrev N_wanting : List Str := ["rank"]
theorem sc_wanting : FnScope N_wanting ["rank"] (defScope s_wanting) := ⟨rfl, rfl, rfl, by decide +kernel, rfl, by decide +kernel, by decide +kernel⟩
abbrev s_solve : Stmt := topS 5
abbrev N_solve : List Str := ["game", "solved", "winners", "node"]
theorem sc_solve : FnScope N_solve ["game"] (defScope s_solve) := ⟨rfl, rfl, rfl, by decide +kernel, rfl, by decide +kernel, by decide +kernel⟩
abbrev s__solve_part : Stmt := topS 6
abbrev N__solve_part : List Str := ["owners", "nodes", "edges", "rank", "edge", "player", "other", "pulled", "rest", "node", "smaller", "solved", "won"]
theorem sc__solve_part : FnScope N__solve_part ["owners", "nodes", "edges"] (defScope s__solve_part) := ⟨rfl, rfl, rfl, by decide +kernel, rfl, by decide +kernel, by decide +kernel⟩
abbrev s__between : Stmt := topS 7
abbrev N__between : List Str := ["nodes", "edges", "edge"]
theorem sc__between : FnScope N__between ["nodes", "edges"] (defScope s__between) := ⟨rfl, rfl, rfl, by decide +kernel, rfl, by decide +kernel, by decide +kernel⟩
abbrev s__pull : Stmt := topS 8
abbrev N__pull : List Str := ["owners", "nodes", "edges", "player", "won", "rank", "pulled", "node", "before", "ways", "edge", "good"]
theorem sc__pull : FnScope N__pull ["owners", "nodes", "edges", "player", "won", "rank"] (defScope s__pull) := ⟨rfl, rfl, rfl, by decide +kernel, rfl, by decide +kernel, by decide +kernel⟩
abbrev s_check_height : Stmt := topS 23
abbrev N_check_height : List Str := ["height"]
theorem sc_check_height : FnScope N_check_height ["height"] (defScope s_check_height) := ⟨rfl, rfl, rfl, by decide +kernel, rfl, by decide +kernel, by decide +kernel⟩
abbrev s_check_count : Stmt := topS 24
abbrev N_check_count : List Str := ["count", "most"]
theorem sc_check_count : FnScope N_check_count ["count", "most"] (defScope s_check_count) := ⟨rfl, rfl, rfl, by decide +kernel, rfl, by decide +kernel, by decide +kernel⟩
abbrev s_check_node : Stmt := topS 25
abbrev N_check_node : List Str := ["size", "node"]
theorem sc_check_node : FnScope N_check_node ["size", "node"] (defScope s_check_node) := ⟨rfl, rfl, rfl, by decide +kernel, rfl, by decide +kernel, by decide +kernel⟩
abbrev s_check_nodes : Stmt := topS 26
abbrev N_check_nodes : List Str := ["size", "nodes", "node"]
theorem sc_check_nodes : FnScope N_check_nodes ["size", "nodes"] (defScope s_check_nodes) := ⟨rfl, rfl, rfl, by decide +kernel, rfl, by decide +kernel, by decide +kernel⟩
abbrev s__check_edges : Stmt := topS 29
abbrev N__check_edges : List Str := ["height", "size", "edges", "seen", "index", "edge", "source", "rank", "target"]
theorem sc__check_edges : FnScope N__check_edges ["height", "size", "edges"] (defScope s__check_edges) := ⟨rfl, rfl, rfl, by decide +kernel, rfl, by decide +kernel, by decide +kernel⟩
abbrev s__check_owners : Stmt := topS 32
abbrev N__check_owners : List Str := ["owners", "owner"]
theorem sc__check_owners : FnScope N__check_owners ["owners"] (defScope s__check_owners) := ⟨rfl, rfl, rfl, by decide +kernel, rfl, by decide +kernel, by decide +kernel⟩
abbrev s__check_dead_ends : Stmt := topS 33
abbrev N__check_dead_ends : List Str := ["size", "edges", "sources", "edge", "node"]
theorem sc__check_dead_ends : FnScope N__check_dead_ends ["size", "edges"] (defScope s__check_dead_ends) := ⟨rfl, rfl, rfl, by decide +kernel, rfl, by decide +kernel, by decide +kernel⟩
abbrev s_paths_from : Stmt := topS 35
abbrev N_paths_from : List Str := ["edges", "start", "paths", "waiting", "node", "edge"]
theorem sc_paths_from : FnScope N_paths_from ["edges", "start"] (defScope s_paths_from) := ⟨rfl, rfl, rfl, by decide +kernel, rfl, by decide +kernel, by decide +kernel⟩
abbrev s_path_between : Stmt := topS 36
abbrev N_path_between : List Str := ["edges", "start", "goal"]
theorem sc_path_between : FnScope N_path_between ["edges", "start", "goal"] (defScope s_path_between) := ⟨rfl, rfl, rfl, by decide +kernel, rfl, by decide +kernel, by decide +kernel⟩
abbrev s_cycle_with : Stmt := topS 37
abbrev N_cycle_with : List Str := ["edges", "remainder", "edge", "source", "rank", "target", "path", "other"]
theorem sc_cycle_with : FnScope N_cycle_with ["edges", "remainder"] (defScope s_cycle_with) := ⟨rfl, rfl, rfl, by decide +kernel, rfl, by decide +kernel, by decide +kernel⟩
abbrev s_judge : Stmt := topS 39
abbrev N_judge : List Str := ["game", "player", "nodes", "plan", "used", "node", "edges", "edge", "cycle"]
theorem sc_judge : FnScope N_judge ["game", "player", "nodes", "plan"] (defScope s_judge) := ⟨rfl, rfl, rfl, by decide +kernel, rfl, by decide +kernel, by decide +kernel⟩
abbrev s_edges_of_plan : Stmt := topS 40
abbrev N_edges_of_plan : List Str := ["game", "player", "nodes", "plan", "edge"]
theorem sc_edges_of_plan : FnScope N_edges_of_plan ["game", "player", "nodes", "plan"] (defScope s_edges_of_plan) := ⟨rfl, rfl, rfl, by decide +kernel, rfl, by decide +kernel, by decide +kernel⟩
abbrev s_pool : Stmt := topS 42
abbrev N_pool : List Str := ["script", "k", "cell"]
theorem sc_pool : FnScope N_pool ["script", "k"] (defScope s_pool) := ⟨rfl, rfl, rfl, by decide +kernel, rfl, by decide +kernel, by decide +kernel⟩
abbrev s_draw : Stmt := topS 43
abbrev N_draw : List Str := ["pool", "many", "value", "mixed"]
theorem sc_draw : FnScope N_draw ["pool", "many"] (defScope s_draw) := ⟨rfl, rfl, rfl, by decide +kernel, rfl, by decide +kernel, by decide +kernel⟩
abbrev s_levels : Stmt := topS 44
abbrev N_levels : List Str := ["pool", "height", "limit", "size", "index"]
theorem sc_levels : FnScope N_levels ["pool", "height", "limit"] (defScope s_levels) := ⟨rfl, rfl, rfl, by decide +kernel, rfl, by decide +kernel, by decide +kernel⟩
abbrev s_owners : Stmt := topS 45
abbrev N_owners : List Str := ["pool", "size", "letters", "index"]
theorem sc_owners : FnScope N_owners ["pool", "size"] (defScope s_owners) := ⟨rfl, rfl, rfl, by decide +kernel, rfl, by decide +kernel, by decide +kernel⟩
abbrev s_edges : Stmt := topS 46
abbrev N_edges : List Str := ["pool", "height", "size", "limit", "edges", "node", "index", "edge"]
theorem sc_edges : FnScope N_edges ["pool", "height", "size", "limit"] (defScope s_edges) := ⟨rfl, rfl, rfl, by decide +kernel, rfl, by decide +kernel, by decide +kernel⟩
abbrev s_row_edges : Stmt := topS 47
abbrev N_row_edges : List Str := ["levels", "edges", "k"]
theorem sc_row_edges : FnScope N_row_edges ["levels"] (defScope s_row_edges) := ⟨rfl, rfl, rfl, by decide +kernel, rfl, by decide +kernel, by decide +kernel⟩
abbrev s_game : Stmt := topS 48
abbrev N_game : List Str := ["pool", "height", "limit", "size", "letters", "levels", "edges", "index", "edge"]
theorem sc_game : FnScope N_game ["pool", "height", "limit"] (defScope s_game) := ⟨rfl, rfl, rfl, by decide +kernel, rfl, by decide +kernel, by decide +kernel⟩
abbrev s_number : Stmt := topS 49
abbrev N_number : List Str := ["value"]
theorem sc_number : FnScope N_number ["value"] (defScope s_number) := ⟨rfl, rfl, rfl, by decide +kernel, rfl, by decide +kernel, by decide +kernel⟩
abbrev s_same : Stmt := topS 50
abbrev N_same : List Str := ["answer", "due", "k"]
theorem sc_same : FnScope N_same ["answer", "due"] (defScope s_same) := ⟨rfl, rfl, rfl, by decide +kernel, rfl, by decide +kernel, by decide +kernel⟩
abbrev s_is_edge : Stmt := topS 51
abbrev N_is_edge : List Str := ["edge"]
theorem sc_is_edge : FnScope N_is_edge ["edge"] (defScope s_is_edge) := ⟨rfl, rfl, rfl, by decide +kernel, rfl, by decide +kernel, by decide +kernel⟩
abbrev s_gap : Stmt := topS 52
abbrev N_gap : List Str := ["levels", "one", "other", "greatest", "k"]
theorem sc_gap : FnScope N_gap ["levels", "one", "other"] (defScope s_gap) := ⟨rfl, rfl, rfl, by decide +kernel, rfl, by decide +kernel, by decide +kernel⟩
abbrev s_allows : Stmt := topS 53
abbrev N_allows : List Str := ["levels", "source", "rank", "target", "gap"]
theorem sc_allows : FnScope N_allows ["levels", "source", "rank", "target"] (defScope s_allows) := ⟨rfl, rfl, rfl, by decide +kernel, rfl, by decide +kernel, by decide +kernel⟩
abbrev s_reaches : Stmt := topS 54
abbrev N_reaches : List Str := ["edges", "bound", "source", "target", "seen", "k", "edge"]
theorem sc_reaches : FnScope N_reaches ["edges", "bound", "source", "target"] (defScope s_reaches) := ⟨rfl, rfl, rfl, by decide +kernel, rfl, by decide +kernel, by decide +kernel⟩
abbrev s_has_cycle : Stmt := topS 55
abbrev N_has_cycle : List Str := ["edges", "parity", "edge"]
theorem sc_has_cycle : FnScope N_has_cycle ["edges", "parity"] (defScope s_has_cycle) := ⟨rfl, rfl, rfl, by decide +kernel, rfl, by decide +kernel, by decide +kernel⟩
abbrev s_fits : Stmt := topS 56
abbrev N_fits : List Str := ["letters", "edges", "levels", "places", "node", "count", "good", "edge", "goal"]
theorem sc_fits : FnScope N_fits ["letters", "edges", "levels", "places", "node"] (defScope s_fits) := ⟨rfl, rfl, rfl, by decide +kernel, rfl, by decide +kernel, by decide +kernel⟩
abbrev s_climb : Stmt := topS 57
abbrev N_climb : List Str := ["letters", "edges", "levels", "places", "node", "turn", "bad"]
theorem sc_climb : FnScope N_climb ["letters", "edges", "levels"] (defScope s_climb) := ⟨rfl, rfl, rfl, by decide +kernel, rfl, by decide +kernel, by decide +kernel⟩
abbrev s_halving : Stmt := topS 58
abbrev N_halving : List Str := ["count", "height", "parts", "row", "k"]
theorem sc_halving : FnScope N_halving ["count", "height"] (defScope s_halving) := ⟨rfl, rfl, rfl, by decide +kernel, rfl, by decide +kernel, by decide +kernel⟩
abbrev s_wins : Stmt := topS 59
abbrev N_wins : List Str := ["letters", "edges", "height", "places", "place"]
theorem sc_wins : FnScope N_wins ["letters", "edges", "height"] (defScope s_wins) := ⟨rfl, rfl, rfl, by decide +kernel, rfl, by decide +kernel, by decide +kernel⟩
abbrev s_any_edges : Stmt := topS 60
abbrev N_any_edges : List Str := ["pool", "height", "size", "edges", "node", "index", "edge"]
theorem sc_any_edges : FnScope N_any_edges ["pool", "height", "size"] (defScope s_any_edges) := ⟨rfl, rfl, rfl, by decide +kernel, rfl, by decide +kernel, by decide +kernel⟩
abbrev s_any_game : Stmt := topS 61
abbrev N_any_game : List Str := ["pool", "height", "way", "size", "letters"]
theorem sc_any_game : FnScope N_any_game ["pool", "height"] (defScope s_any_game) := ⟨rfl, rfl, rfl, by decide +kernel, rfl, by decide +kernel, by decide +kernel⟩
abbrev s_side_is_won : Stmt := topS 62
abbrev N_side_is_won : List Str := ["letters", "edges", "text", "plan", "player", "nodes", "node", "web", "edge"]
theorem sc_side_is_won : FnScope N_side_is_won ["letters", "edges", "text", "plan", "player"] (defScope s_side_is_won) := ⟨rfl, rfl, rfl, by decide +kernel, rfl, by decide +kernel, by decide +kernel⟩
abbrev s_solved : Stmt := topS 63
abbrev N_solved : List Str := ["answer", "letters", "edges", "node", "entry", "player"]
theorem sc_solved : FnScope N_solved ["answer", "letters", "edges"] (defScope s_solved) := ⟨rfl, rfl, rfl, by decide +kernel, rfl, by decide +kernel, by decide +kernel⟩
abbrev s_law : Stmt := topS 64
abbrev N_law : List Str := ["script", "pool", "height", "made", "letters", "edges", "letter", "edge", "size", "game", "turn", "answer", "text", "due", "good", "player", "nodes", "node"]
theorem sc_law : FnScope N_law ["script"] (defScope s_law) := ⟨rfl, rfl, rfl, by decide +kernel, rfl, by decide +kernel, by decide +kernel⟩
abbrev s_W_init : Stmt := inClass (topS 28) 2
abbrev N_W_init : List Str := ["self", "height", "size", "edges"]
theorem sc_W_init : FnScope N_W_init ["self", "height", "size", "edges"] (defScope s_W_init) := ⟨rfl, rfl, rfl, by decide +kernel, rfl, by decide +kernel, by decide +kernel⟩
abbrev s_W_out : Stmt := inClass (topS 28) 4
abbrev N_W_out : List Str := ["self", "node", "edge"]
theorem sc_W_out : FnScope N_W_out ["self", "node"] (defScope s_W_out) := ⟨rfl, rfl, rfl, by decide +kernel, rfl, by decide +kernel, by decide +kernel⟩
abbrev s_G_init : Stmt := inClass (topS 31) 0
abbrev N_G_init : List Str := ["self", "height", "owners", "edges"]
theorem csc_G_init : CScope N_G_init ["self", "height", "owners", "edges"] (defScope s_G_init) := ⟨rfl, rfl, rfl, by decide +kernel, rfl, by decide +kernel, by decide +kernel, by decide +kernel⟩
abbrev s_G_out : Stmt := inClass (topS 31) 3
abbrev N_G_out : List Str := ["self", "node"]
theorem csc_G_out : CScope N_G_out ["self", "node"] (defScope s_G_out) := ⟨rfl, rfl, rfl, by decide +kernel, rfl, by decide +kernel, by decide +kernel, by decide +kernel⟩
abbrev s_NoSuchNode_init : Stmt := inClass (topS 20) 0
abbrev N_NoSuchNode_init : List Str := ["self", "node"]
theorem csc_NoSuchNode_init : CScope N_NoSuchNode_init ["self", "node"] (defScope s_NoSuchNode_init) := ⟨rfl, rfl, rfl, by decide +kernel, rfl, by decide +kernel, by decide +kernel, by decide +kernel⟩
structure Cs where
  Web : Addr
  Game : Addr
  NoSuchNode : Addr
structure Txt (P : Program) (K : PySem.W.Frag) (mg : Str → Option Value) (ζ : Cs) : Prop where
  n_len : mg "len" = none
  n_abs : mg "abs" = none
  n_max : mg "max" = none
  n_min : mg "min" = none
  n_isinstance : mg "isinstance" = none
  n_int : mg "int" = none
  n_bool : mg "bool" = none
  n_str : mg "str" = none
  n_list : mg "list" = none
  n_tuple : mg "tuple" = none
  n_range : mg "range" = none
  n_enumerate : mg "enumerate" = none
  n_set : mg "set" = none
  n_sorted : mg "sorted" = none
  n_any : mg "any" = none
  n_all : mg "all" = none
  n_ValueError : mg "ValueError" = none
  objc : ObjC K
  d_opponent : DefIn K mg "opponent" s_opponent ["player"]
  d_wanting : DefIn K mg "wanting" s_wanting ["rank"]
  d_solve : DefIn K mg "solve" s_solve ["game"]
  d__solve_part : DefIn K mg "_solve_part" s__solve_part ["owners", "nodes", "edges"]
  d__between : DefIn K mg "_between" s__between ["nodes", "edges"]
  d__pull : DefIn K mg "_pull" s__pull ["owners", "nodes", "edges", "player", "won", "rank"]
  d_check_height : DefIn K mg "check_height" s_check_height ["height"]
  d_check_count : DefIn K mg "check_count" s_check_count ["count", "most"]
  d_check_node : DefIn K mg "check_node" s_check_node ["size", "node"]
  d_check_nodes : DefIn K mg "check_nodes" s_check_nodes ["size", "nodes"]
  d__check_edges : DefIn K mg "_check_edges" s__check_edges ["height", "size", "edges"]
  d__check_owners : DefIn K mg "_check_owners" s__check_owners ["owners"]
  d__check_dead_ends : DefIn K mg "_check_dead_ends" s__check_dead_ends ["size", "edges"]
  d_paths_from : DefIn K mg "paths_from" s_paths_from ["edges", "start"]
  d_path_between : DefIn K mg "path_between" s_path_between ["edges", "start", "goal"]
  d_cycle_with : DefIn K mg "cycle_with" s_cycle_with ["edges", "remainder"]
  d_judge : DefIn K mg "judge" s_judge ["game", "player", "nodes", "plan"]
  d_edges_of_plan : DefIn K mg "edges_of_plan" s_edges_of_plan ["game", "player", "nodes", "plan"]
  d_pool : DefIn K mg "_law_pool" s_pool ["script", "k"]
  d_draw : DefIn K mg "_law_draw" s_draw ["pool", "many"]
  d_levels : DefIn K mg "_law_levels" s_levels ["pool", "height", "limit"]
  d_owners : DefIn K mg "_law_owners" s_owners ["pool", "size"]
  d_edges : DefIn K mg "_law_edges" s_edges ["pool", "height", "size", "limit"]
  d_row_edges : DefIn K mg "_law_row_edges" s_row_edges ["levels"]
  d_game : DefIn K mg "_law_game" s_game ["pool", "height", "limit"]
  d_number : DefIn K mg "_law_number" s_number ["value"]
  d_same : DefIn K mg "_law_same" s_same ["answer", "due"]
  d_is_edge : DefIn K mg "_law_is_edge" s_is_edge ["edge"]
  d_gap : DefIn K mg "_law_gap" s_gap ["levels", "one", "other"]
  d_allows : DefIn K mg "_law_allows" s_allows ["levels", "source", "rank", "target"]
  d_reaches : DefIn K mg "_law_reaches" s_reaches ["edges", "bound", "source", "target"]
  d_has_cycle : DefIn K mg "_law_has_cycle" s_has_cycle ["edges", "parity"]
  d_fits : DefIn K mg "_law_fits" s_fits ["letters", "edges", "levels", "places", "node"]
  d_climb : DefIn K mg "_law_climb" s_climb ["letters", "edges", "levels"]
  d_halving : DefIn K mg "_law_halving" s_halving ["count", "height"]
  d_wins : DefIn K mg "_law_wins" s_wins ["letters", "edges", "height"]
  d_any_edges : DefIn K mg "_law_any_edges" s_any_edges ["pool", "height", "size"]
  d_any_game : DefIn K mg "_law_any_game" s_any_game ["pool", "height"]
  d_side_is_won : DefIn K mg "_law_side_is_won" s_side_is_won ["letters", "edges", "text", "plan", "player"]
  d_solved : DefIn K mg "_law_solved" s_solved ["answer", "letters", "edges"]
  d_law : DefIn K mg "law" s_law ["script"]
  cl_Web : Cls K ζ.Web
  mg_Web : mg "Web" = some (.ref ζ.Web)
  na_Web_height : NoAttr K ζ.Web "height"
  na_Web_size : NoAttr K ζ.Web "size"
  na_Web_edges : NoAttr K ζ.Web "edges"
  mk_Web : MakIn K mg "Web" ζ.Web "Web.__init__" s_W_init ["self", "height", "size", "edges"]
  mt_W_out : MetIn K ζ.Web "out" "Web.out" s_W_out ["self", "node"]
  cv_Web_MOST_NODES : ∃ mc u, ClX.CRead K ζ.Web mc ∧ ClX.CVal K ζ.Web mc "MOST_NODES" (.int 9) u
  cv_Web_MOST_EDGES : ∃ mc u, ClX.CRead K ζ.Web mc ∧ ClX.CVal K ζ.Web mc "MOST_EDGES" (.int 63) u
  cl_Game : Cls K ζ.Game
  mg_Game : mg "Game" = some (.ref ζ.Game)
  na_Game_height : NoAttr K ζ.Game "height"
  na_Game_size : NoAttr K ζ.Game "size"
  na_Game_edges : NoAttr K ζ.Game "edges"
  na_Game_owners : NoAttr K ζ.Game "owners"
  mk_Game : MakInC P K mg "Game" ζ.Game "Game.__init__" s_G_init ["self", "height", "owners", "edges"]
  mt_G_out : MetInC P K mg ζ.Game "out" "Game.out" s_G_out ["self", "node"]
  su_Game_init : SupAt K ζ.Game ζ.Game "__init__" "Web.__init__" "__init__" s_W_init ["self", "height", "size", "edges"]
  su_Game_out : SupAt K ζ.Game ζ.Game "out" "Web.out" "out" s_W_out ["self", "node"]
  e_NoSuchNode : ErrIn P K mg "NoSuchNode" ζ.NoSuchNode "NoSuchNode.__init__" s_NoSuchNode_init "node"
  mg_NoSuchNode : mg "NoSuchNode" = some (.ref ζ.NoSuchNode)
end LR
set_option Elab.async false
set_option maxRecDepth 100000
set_option linter.all false
set_option maxHeartbeats 4000000
namespace LR
open PySem PySem.Spec PyProof.Rows L2
section
variable {P : Program} {w : World} {K : PySem.W.Frag} {mg : Str → Option Value} {base : Heap} {ζ : Cs}
theorem err_NoSuchNode (T : Txt P K mg ζ) : ErrOk P w K mg base "NoSuchNode" ζ.NoSuchNode "node" := by
  refine T.e_NoSuchNode.ok csc_NoSuchNode_init (fun f cc cda fd A outer s H vs Q E S hr h => ⟨_, nss_cons (ns_expr (ne_supV (i := 0) S T.e_NoSuchNode.T T.e_NoSuchNode.sm T.e_NoSuchNode.mr T.e_NoSuchNode.sv (pa_cons (pe_joined (PJ.cons (pe_str) (PJ.cons (pe_fmt (pv 1)) (PJ.nil)))) pa_nil)))
   (nss_ps (pss_one (ps_ost (pv 0) (pv 1)))), ?_⟩)
  obtain ⟨a, v, rfl, ha, hv, kk⟩ := h
  refine ⟨a, rfl, ha, js_c (n := 0) (by decide) (Nat.zero_le _) (by decide +kernel) fun acc h => js_v (n := 1000) (by decide) h (log_small hv) (fun Q q => ⟨_, rfl, q⟩) fun acc h => ⟨by show 1 ≤ 1000; decide, ha, ?_⟩⟩
  exact ⟨_, rfl, _, rfl, a, ζ.NoSuchNode, rfl, T.e_NoSuchNode.T, T.e_NoSuchNode.no, .inl ⟨ha, kk⟩⟩
end
end LR
set_option Elab.async false
set_option maxRecDepth 100000
set_option linter.all false
set_option maxHeartbeats 4000000
namespace LR
open PySem PySem.Spec PyProof.Rows L2
section
variable {P : Program} {w : World} {K : PySem.W.Frag} {mg : Str → Option Value} {base : Heap} {ζ : Cs}
def spPool (K : PySem.W.Frag) : Sp := fun vs H Q _ => ∃ (a : Addr) (ns : List Int) (k : Nat), vs = [.ref a, .int k] ∧ SqL K H a (ns.map V.int) ∧ ∀ p x y z t, H p = none → Q (.ref p) (upd H p (.lst [.int x, .int y, .int z, .int t]))
theorem ok_pool (T : Txt P K mg ζ) : Cal P w K mg base 1 "_law_pool" (spPool K) := by
  refine T.d_pool.cal sc_pool (fun vs H Q E h => ?_) (fun f cdv A outer s H vs Q E hr h => ⟨_, pss_cons (ps_set (i := 2) sc_pool.nd rfl (Or.inl rfl) (pe_int))
 (pss_cons (ps_if (pt_cmpR op_lt (pv 1) (pe_callB call_len_seq (by rfl) T.n_len b_len (pa_cons (pv 0) (pa_nil))) (nomark _))
 (pss_one (ps_set (i := 2) sc_pool.nd rfl (Or.inl rfl) (pe_callB call_abs (by rfl) T.n_abs b_abs (pa_cons (pe_callTy call_int1 (by rfl) T.n_int b_int (pa_cons (pe_ix ix_list (pv 0) (pv 1) (fun _ _ => rfl)) (pa_nil))) (pa_nil)))))
 (pss_nil))
 (pss_cons (ps_if (pt_cmpR op_ge (pv 2) (pe_op op_pow (pe_int) (pe_int)) (nomark _))
 (pss_one (ps_ret (pe_lst (pa_cons (pe_int) (pa_cons (pv 2) (pa_cons (pe_int) (pa_cons (pe_op op_add (pv 1) (pe_int)) (pa_nil))))))))
 (pss_nil))
 (pss_one (ps_ret (pe_lst (pa_cons (pe_int) (pa_cons (pv 2) (pa_cons (pe_int) (pa_cons (pe_op op_add (pv 1) (pe_int)) (pa_nil)))))))))), ?_⟩)
  · obtain ⟨a, ns, k, rfl, _⟩ := h; rfl
  obtain ⟨a, ns, k, rfl, hS, kk⟩ := h
  refine ⟨_, rfl, _, rfl, a, _, rfl, .inl hS, _, _, rfl, rfl, _, rfl, ?_⟩
  refine ite2 (fun c => ?_) (fun _ => ?_)
  have hlt : k < ns.length := by
    have := of_decide_eq_true c
    rw [List.length_map] at this
    omega
  refine ⟨_, rfl, _, rfl, a, _, _, _, rfl, rfl, hS, atI_nat (v := V.int (ns[k])) (by rw [List.getElem?_map, List.getElem?_eq_getElem hlt]; rfl), .inl ⟨_, rfl, _, rfl, ?_⟩⟩
  all_goals
    refine ⟨_, rfl, _, _, rfl, rfl, ⟨by decide, by decide, by decide⟩, _, _, rfl, rfl, _, rfl, ?_⟩
    refine ite2 (fun _ => ?_) (fun _ => ?_)
    · exact ⟨_, rfl, _, rfl, _, _, rfl, rfl, by show 4 ≤ sizeLine; decide, fun p hp => kk p _ _ _ _ hp⟩
    · exact ⟨_, rfl, _, rfl, _, _, rfl, rfl, by show 4 ≤ sizeLine; decide, fun p hp => kk p _ _ _ _ hp⟩
end
end LR
set_option Elab.async false
set_option maxRecDepth 100000
set_option linter.all false
set_option maxHeartbeats 4000000
namespace LR
open PySem PySem.Spec PyProof.Rows L2
section
variable {P : Program} {w : World} {K : PySem.W.Frag} {mg : Str → Option Value} {base : Heap} {ζ : Cs}
def spDraw : Sp := fun vs H Q _ => ∃ (p : Addr) (many : Int), vs = [.ref p, .int many] ∧ IsPool H p ∧ 0 < many ∧ many < 1073741824 ∧ ∀ (v : Int) H', 0 ≤ v → v < many → Keep p H H' → IsPool H' p → Q (.int v) H'
theorem ok_draw (T : Txt P K mg ζ) : Cal P w K mg base 1 "_law_draw" spDraw := by
  refine T.d_draw.cal sc_draw (fun vs H Q E h => ?_) (fun f cdv A outer s H vs Q E hr h => ⟨_, pss_cons (ps_if (pt_cmpR op_eq (pe_ix ix_list (pv 0) (pe_int) (fun _ _ => rfl)) (pe_int) (nomark _))
 (pss_cons (ps_set (i := 2) sc_draw.nd rfl (Or.inl rfl) (pe_op op_mod (pe_callTy call_int1 (by rfl) T.n_int b_int (pa_cons (pe_ix ix_list (pv 0) (pe_int) (fun _ _ => rfl)) (pa_nil))) (pv 1)))
 (pss_cons (ps_asg (pe_op op_fdiv (pe_callTy call_int1 (by rfl) T.n_int b_int (pa_cons (pe_ix ix_list (pv 0) (pe_int) (fun _ _ => rfl)) (pa_nil))) (pv 1)) (pg_sub (pv 0) (pe_int) set_list))
 (pss_cons (ps_if (pt_cmpR op_eq (pe_ix ix_list (pv 0) (pe_int) (fun _ _ => rfl)) (pe_int) (nomark _))
 (pss_cons (ps_asg (pe_int) (pg_sub (pv 0) (pe_int) set_list))
 (pss_one (ps_asg (pv 2) (pg_sub (pv 0) (pe_int) set_list))))
 (pss_nil))
 (pss_one (ps_ret (pv 2))))))
 (pss_nil))
 (pss_cons (ps_asg (pe_op op_add (pe_ix ix_list (pv 0) (pe_int) (fun _ _ => rfl)) (pe_int)) (pg_sub (pv 0) (pe_int) set_list))
 (pss_cons (ps_set (i := 3) sc_draw.nd rfl (Or.inl rfl) (pe_op op_mod (pe_callTy call_int1 (by rfl) T.n_int b_int (pa_cons (pe_op op_add (pe_op op_add (pe_op op_add (pe_op op_mul (pe_ix ix_list (pv 0) (pe_int) (fun _ _ => rfl)) (pe_int)) (pe_op op_mul (pe_ix ix_list (pv 0) (pe_int) (fun _ _ => rfl)) (pe_int))) (pe_op op_mul (pe_ix ix_list (pv 0) (pe_int) (fun _ _ => rfl)) (pe_int))) (pe_int)) (pa_nil))) (pe_int)))
 (pss_cons (ps_set (i := 3) sc_draw.nd rfl (Or.inl rfl) (pe_op op_mod (pe_callTy call_int1 (by rfl) T.n_int b_int (pa_cons (pe_op op_add (pe_op op_add (pe_op op_mul (pv 3) (pv 3)) (pe_op op_mul (pe_ix ix_list (pv 0) (pe_int) (fun _ _ => rfl)) (pe_int))) (pe_ix ix_list (pv 0) (pe_int) (fun _ _ => rfl))) (pa_nil))) (pe_int)))
 (pss_cons (ps_set (i := 3) sc_draw.nd rfl (Or.inl rfl) (pe_op op_mod (pe_callTy call_int1 (by rfl) T.n_int b_int (pa_cons (pe_op op_add (pe_op op_mul (pv 3) (pv 3)) (pe_int)) (pa_nil))) (pe_int)))
 (pss_one (ps_ret (pe_op op_mod (pe_callTy call_int1 (by rfl) T.n_int b_int (pa_cons (pe_op op_fdiv (pv 3) (pe_int)) (pa_nil))) (pv 1)))))))), ?_⟩)
  · obtain ⟨a, ns, rfl, _⟩ := h; rfl
  obtain ⟨p, many, rfl, ⟨a, b, c, d, hp⟩, hm0, hm1, kk⟩ := h
  refine ⟨_, rfl, p, _, _, _, rfl, rfl, SqL.of hp, rfl, rfl, _, rfl, ?_⟩
  refine ite2 (fun _ => ?_) (fun _ => ?_)
  · refine ⟨_, rfl, p, _, _, _, rfl, rfl, SqL.of hp, rfl, .inl ⟨_, rfl, _, rfl, _, _, rfl, rfl, hm0, ?_⟩⟩
    refine ⟨_, rfl, p, _, _, _, rfl, rfl, SqL.of hp, rfl, .inl ⟨_, rfl, _, rfl, _, _, rfl, rfl, ⟨hm0, hm1⟩, _, rfl, p, _, _, _, rfl, rfl, hp, rfl, ?_⟩⟩
    refine ⟨_, rfl, p, _, _, _, rfl, rfl, SqL.of upd_same, rfl, rfl, _, rfl, ?_⟩
    refine ite2 (fun _ => ?_) (fun _ => ?_)
    · refine ⟨_, rfl, p, _, _, _, rfl, rfl, upd_same, rfl, ?_⟩
      refine ⟨_, rfl, _, rfl, p, _, _, _, rfl, rfl, upd_same, rfl, ?_⟩
      exact ⟨_, rfl, kk _ _ (Int.emod_nonneg _ (by omega)) (Int.emod_lt_of_pos _ hm0) (by rw [upd_upd, upd_upd]; exact Keep.refl.upd) (by rw [upd_upd, upd_upd]; exact IsPool.upd)⟩
    · exact ⟨_, rfl, kk _ _ (Int.emod_nonneg _ (by omega)) (Int.emod_lt_of_pos _ hm0) Keep.refl.upd IsPool.upd⟩
  · refine ⟨_, rfl, _, _, _, _, rfl, rfl, SqL.of hp, rfl, _, _, rfl, rfl, _, rfl, p, _, _, _, rfl, rfl, hp, rfl, ?_⟩
    refine ⟨_, rfl, _, _, _, _, rfl, rfl, SqL.of upd_same, rfl, _, _, rfl, rfl, .inr ⟨by decide, by decide⟩, _, rfl, _, _, _, _, rfl, rfl, SqL.of upd_same, rfl, _, _, rfl, rfl, .inr ⟨by decide, by decide⟩, _, _, rfl, rfl, _, rfl, _, _, _, _, rfl, rfl, SqL.of upd_same, rfl, _, _, rfl, rfl, .inr ⟨by decide, by decide⟩, _, _, rfl, rfl, _, _, rfl, rfl, .inl ⟨_, rfl, _, _, rfl, rfl, (by show (0:Int) < _; decide), ?_⟩⟩
    refine ⟨_, rfl, _, rfl, _, _, rfl, rfl, .inl ⟨Int.lt_of_lt_of_le (by decide) (Int.emod_nonneg _ (by decide)), Int.lt_trans (Int.emod_lt_of_pos _ (by decide)) (by decide)⟩, _, rfl, _, _, _, _, rfl, rfl, SqL.of upd_same, rfl, _, _, rfl, rfl, .inr ⟨by decide, by decide⟩, _, _, rfl, rfl, _, rfl, _, _, _, _, rfl, rfl, SqL.of upd_same, rfl, _, _, rfl, rfl, .inl ⟨_, rfl, _, _, rfl, rfl, (by show (0:Int) < _; decide), ?_⟩⟩
    refine ⟨_, rfl, _, rfl, _, _, rfl, rfl, .inl ⟨Int.lt_of_lt_of_le (by decide) (Int.emod_nonneg _ (by decide)), Int.lt_trans (Int.emod_lt_of_pos _ (by decide)) (by decide)⟩, _, _, rfl, rfl, .inl ⟨_, rfl, _, _, rfl, rfl, (by show (0:Int) < _; decide), ?_⟩⟩
    exact ⟨_, rfl, _, _, rfl, rfl, ⟨by decide, by decide⟩, .inl ⟨_, rfl, _, rfl, _, _, rfl, rfl, hm0, kk _ _ (Int.emod_nonneg _ (by omega)) (Int.emod_lt_of_pos _ hm0) Keep.refl.upd IsPool.upd⟩⟩
end
end LR
set_option Elab.async false
set_option maxRecDepth 100000
set_option linter.all false
set_option maxHeartbeats 4000000
namespace LR
open PySem PySem.Spec PyProof.Rows L2
section
variable {P : Program} {w : World} {K : PySem.W.Frag} {mg : Str → Option Value} {base : Heap} {ζ : Cs}
def spNumber : Sp := fun vs H Q _ => ∃ (x : V) (d : Dt), vs = [x] ∧ At H x d ∧ Q (.bl (isN d)) H
theorem ok_number (T : Txt P K mg ζ) : Cal P w K mg base 1 "_law_number" spNumber := by
  refine T.d_number.cal sc_number (fun vs H Q E h => ?_) (fun f cdv A outer s H vs Q E hr h => ⟨_, pss_one (ps_ret (pe_and (pe_callB call_isi (by rfl) T.n_isinstance b_isinstance (pa_cons (pv 0) (pa_cons (pe_bltn (v := .ty "int") (by rfl) T.n_int b_int rfl) (pa_nil)))) (pe_one (pe_not (pe_callB call_isi (by rfl) T.n_isinstance b_isinstance (pa_cons (pv 0) (pa_cons (pe_bltn (v := .ty "bool") (by rfl) T.n_bool b_bool rfl) (pa_nil)))))))), ?_⟩)
  · obtain ⟨x, d, rfl, _⟩ := h; rfl
  obtain ⟨x, d, rfl, a, kk⟩ := h
  refine ⟨_, rfl, _, _, _, _, _, rfl, .ty _, At.tyX a, kit_ty (kitI d), _, rfl, ite_b (fun c => ?_) (fun c => ?_)⟩
  · refine ⟨_, rfl, _, _, _, _, _, rfl, .ty _, At.tyX a, kit_ty (kitBo d), _, rfl, ?_⟩
    have e : (!isB d) = isN d := by cases d <;> first | rfl | cases c
    rw [e]; exact kk
  · have e : isN d = false := by cases d <;> first | rfl | cases c
    rw [← e]; exact kk
end
end LR
set_option Elab.async false
set_option maxRecDepth 100000
set_option linter.all false
set_option maxHeartbeats 4000000
namespace LR
open PySem PySem.Spec PyProof.Rows L2
section
variable {P : Program} {w : World} {K : PySem.W.Frag} {mg : Str → Option Value} {base : Heap} {ζ : Cs}
/-- the answer is the due one, in kind and value -/
def spSame (n : Nat) : Sp := fun vs H Q _ => ∃ (x y : V) (a d : Dt), vs = [x, y] ∧ At H x a ∧ At H y d ∧ dep d < n ∧ ∀ b : Bool, (b = true ↔ a = d) → Q (.bl b) H
theorem ok_same (T : Txt P K mg ζ) (n : Nat) : Cal P w K mg base (n + 2) "_law_same" (spSame n) := by
  have c_number : Cal P w K mg base 1 "_law_number" spNumber := ok_number T
  induction n with
  | zero =>
    refine T.d_same.cal sc_same (fun vs H Q E h => ?_) (fun f cdv A outer s H vs Q E hr h => ?_)
    · obtain ⟨x, y, a, d, rfl, _⟩ := h; rfl
    · obtain ⟨x, y, a, d, rfl, _, _, hn, _⟩ := h
      exact absurd hn (Nat.not_lt_zero _)
  | succ n ih =>
  have c_same := ih
  refine T.d_same.cal sc_same (fun vs H Q E h => ?_) (fun f cdv A outer s H vs Q E hr h => ⟨_, pss_cons (ps_if (PW.pt (pw_or (pt_val (pe_callB call_isi (by rfl) T.n_isinstance b_isinstance (pa_cons (pv 1) (pa_cons (pe_bltn (v := .ty "list") (by rfl) T.n_list b_list rfl) (pa_nil))))) (pw_or1 (pt_val (pe_callB call_isi (by rfl) T.n_isinstance b_isinstance (pa_cons (pv 1) (pa_cons (pe_bltn (v := .ty "tuple") (by rfl) T.n_tuple b_tuple rfl) (pa_nil))))))))
 (pss_cons (ps_if (PW.pt (pw_and (pt_val (pe_callB call_isi (by rfl) T.n_isinstance b_isinstance (pa_cons (pv 1) (pa_cons (pe_bltn (v := .ty "list") (by rfl) T.n_list b_list rfl) (pa_nil))))) (pw_and1 (pt_not (pt_val (pe_callB call_isi (by rfl) T.n_isinstance b_isinstance (pa_cons (pv 0) (pa_cons (pe_bltn (v := .ty "list") (by rfl) T.n_list b_list rfl) (pa_nil)))))))))
 (pss_one (ps_ret (pe_bl)))
 (pss_nil))
 (pss_cons (ps_if (PW.pt (pw_and (pt_val (pe_callB call_isi (by rfl) T.n_isinstance b_isinstance (pa_cons (pv 1) (pa_cons (pe_bltn (v := .ty "tuple") (by rfl) T.n_tuple b_tuple rfl) (pa_nil))))) (pw_and1 (pt_not (pt_val (pe_callB call_isi (by rfl) T.n_isinstance b_isinstance (pa_cons (pv 0) (pa_cons (pe_bltn (v := .ty "tuple") (by rfl) T.n_tuple b_tuple rfl) (pa_nil)))))))))
 (pss_one (ps_ret (pe_bl)))
 (pss_nil))
 (pss_cons (ps_if (pt_cmpR op_ne (pe_callB call_len_seq (by rfl) T.n_len b_len (pa_cons (pv 0) (pa_nil))) (pe_callB call_len_seq (by rfl) T.n_len b_len (pa_cons (pv 1) (pa_nil))) (nomark _))
 (pss_one (ps_ret (pe_bl)))
 (pss_nil))
 (pss_cons (ps_for PassesOwn.never rfl (pi_range1 rfl T.n_range (pa_cons (pe_callB call_len_seq (by rfl) T.n_len b_len (pa_cons (pv 1) (pa_nil))) (pa_nil))) (pg_name (i := 2) sc_same.nd rfl (Or.inl rfl))
 (pss_one (ps_if (pt_not (pt_val (pe_c c_same hr (by first | decide | omega) (by rfl) (pa_cons (pe_ix ix_seq (pv 0) (pv 2) (fun _ _ => rfl)) (pa_cons (pe_ix ix_seq (pv 1) (pv 2) (fun _ _ => rfl)) (pa_nil))))))
 (pss_one (ps_ret (pe_bl)))
 (pss_nil))))
 (pss_one (ps_ret (pe_bl)))))))
 (pss_nil))
 (pss_cons (ps_if (pt_cmpR op_isN (pv 1) (pe_non) (nomark _))
 (pss_one (ps_ret (pe_cmpR op_isN (pv 0) (pe_non) (nomark _))))
 (pss_nil))
 (pss_cons (ps_if (pt_val (pe_callB call_isi (by rfl) T.n_isinstance b_isinstance (pa_cons (pv 1) (pa_cons (pe_bltn (v := .ty "bool") (by rfl) T.n_bool b_bool rfl) (pa_nil)))))
 (pss_one (ps_ret (pe_and (pe_callB call_isi (by rfl) T.n_isinstance b_isinstance (pa_cons (pv 0) (pa_cons (pe_bltn (v := .ty "bool") (by rfl) T.n_bool b_bool rfl) (pa_nil)))) (pe_one (pe_cmpR op_eq (pv 0) (pv 1) (nomark _))))))
 (pss_nil))
 (pss_cons (ps_if (pt_val (pe_callB call_isi (by rfl) T.n_isinstance b_isinstance (pa_cons (pv 1) (pa_cons (pe_bltn (v := .ty "int") (by rfl) T.n_int b_int rfl) (pa_nil)))))
 (pss_one (ps_ret (pe_and (pe_c c_number hr (by first | decide | omega) (by rfl) (pa_cons (pv 0) (pa_nil))) (pe_one (pe_cmpR op_eq (pv 0) (pv 1) (nomark _))))))
 (pss_nil))
 (pss_one (ps_ret (pe_and (pe_callB call_isi (by rfl) T.n_isinstance b_isinstance (pa_cons (pv 0) (pa_cons (pe_bltn (v := .ty "str") (by rfl) T.n_str b_str rfl) (pa_nil)))) (pe_one (pe_cmpR op_eq (pv 0) (pv 1) (nomark _))))))))), ?_⟩)
  · obtain ⟨x, y, a, d, rfl, _⟩ := h; rfl
  obtain ⟨x, y, a, d, rfl, ha, hd, hn, kk⟩ := h
  cases hd with
  | non =>
    refine ⟨_, rfl, _, _, _, _, _, rfl, .ty _, At.tyX .non, kit_ty (kitL _), _, rfl, iteF ⟨_, rfl, _, _, _, _, _, rfl, .ty _, At.tyX .non, kit_ty (kitU _), _, rfl, iteF ?_⟩⟩
    refine ⟨_, rfl, rfl, _, rfl, iteT ⟨_, rfl, rfl, kk _ ?_⟩⟩
    cases ha <;> simp
  | bl b =>
    refine ⟨_, rfl, _, _, _, _, _, rfl, .ty _, At.tyX (.bl _), kit_ty (kitL _), _, rfl, iteF ⟨_, rfl, _, _, _, _, _, rfl, .ty _, At.tyX (.bl _), kit_ty (kitU _), _, rfl, iteF ?_⟩⟩
    refine ⟨_, rfl, rfl, _, rfl, iteF ⟨_, rfl, _, _, _, _, _, rfl, .ty _, At.tyX (.bl _), kit_ty (kitBo _), _, rfl, iteT ?_⟩⟩
    refine ⟨_, rfl, _, _, _, _, _, rfl, .ty _, At.tyX ha, kit_ty (kitBo _), _, rfl, ite_b (fun c => ?_) (fun c => ?_)⟩
    · cases ha with
      | bl b' => exact ⟨_, rfl, _, rfl, rfl, kk _ (by simp)⟩
      | _ => cases c
    · refine kk _ ⟨fun z => (by cases z), fun z => ?_⟩
      subst z; cases c
  | int b =>
    refine ⟨_, rfl, _, _, _, _, _, rfl, .ty _, At.tyX (.int _), kit_ty (kitL _), _, rfl, iteF ⟨_, rfl, _, _, _, _, _, rfl, .ty _, At.tyX (.int _), kit_ty (kitU _), _, rfl, iteF ?_⟩⟩
    refine ⟨_, rfl, rfl, _, rfl, iteF ⟨_, rfl, _, _, _, _, _, rfl, .ty _, At.tyX (.int _), kit_ty (kitBo _), _, rfl, iteF ⟨_, rfl, _, _, _, _, _, rfl, .ty _, At.tyX (.int _), kit_ty (kitI _), _, rfl, iteT ?_⟩⟩⟩
    refine ⟨_, rfl, x, a, rfl, ha, _, rfl, ite_b (fun c => ?_) (fun c => ?_)⟩
    · cases ha with
      | int b' => exact ⟨_, rfl, _, rfl, rfl, kk _ (by simp)⟩
      | _ => cases c
    · refine kk _ ⟨fun z => (by cases z), fun z => ?_⟩
      subst z; cases c
  | str b =>
    refine ⟨_, rfl, _, _, _, _, _, rfl, .ty _, At.tyX (.str _), kit_ty (kitL _), _, rfl, iteF ⟨_, rfl, _, _, _, _, _, rfl, .ty _, At.tyX (.str _), kit_ty (kitU _), _, rfl, iteF ?_⟩⟩
    refine ⟨_, rfl, rfl, _, rfl, iteF ⟨_, rfl, _, _, _, _, _, rfl, .ty _, At.tyX (.str _), kit_ty (kitBo _), _, rfl, iteF ⟨_, rfl, _, _, _, _, _, rfl, .ty _, At.tyX (.str _), kit_ty (kitI _), _, rfl, iteF ?_⟩⟩⟩
    refine ⟨_, rfl, _, _, _, _, _, rfl, .ty _, At.tyX ha, kit_ty (kitS _), _, rfl, ite_b (fun c => ?_) (fun c => ?_)⟩
    · cases ha with
      | str b' => exact ⟨_, rfl, _, rfl, rfl, kk _ (by simp)⟩
      | _ => cases c
    · refine kk _ ⟨fun z => (by cases z), fun z => ?_⟩
      subst z; cases c
  | lst hq hs hz =>
    rename_i q ys ds
    have hdn : deps ds < n := by rw [dep] at hn; omega
    refine ⟨_, rfl, _, _, _, _, _, rfl, .ty _, At.tyX (At.lst hq hs hz), kit_ty (kitL _), _, rfl, iteT ?_⟩
    refine ⟨_, rfl, _, _, _, _, _, rfl, .ty _, At.tyX (At.lst hq hs hz), kit_ty (kitL _), _, rfl, iteT ?_⟩
    cases ha with
    | lst hp as az =>
      rename_i p xs as'
      refine ⟨_, rfl, _, _, _, _, _, rfl, .ty _, At.tyX (At.lst hp as az), kit_ty (kitL _), _, rfl, iteF ?_⟩
      refine ⟨_, rfl, _, _, _, _, _, rfl, .ty _, At.tyX (At.lst hq hs hz), kit_ty (kitU _), _, rfl, iteF (iteF ?_)⟩
      have hl1 := as.length; have hl2 := hs.length
      refine ⟨_, rfl, p, xs, rfl, .inl (SqL.of hp), _, rfl, q, ys, rfl, .inl (SqL.of hq), rfl, _, rfl, ?_⟩
      refine ite_b (fun c => ?_) (fun c => ?_)
      · refine kk _ ⟨fun z => (by cases z), fun z => ?_⟩
        cases z
        rw [hl1, hl2] at c; simp at c
      have hl : as'.length = ds.length := by
        rw [hl1, hl2] at c; simp at c; omega
      refine ⟨_, rfl, q, ys, rfl, .inl (SqL.of hq), _, rfl, by omega, by omega, ?_⟩
      refine for_range (lo := 0) (n := ys.length) (fun i σ H' => H' = H ∧ (∃ z, σ = [some (.ref p), some (.ref q), z]) ∧ as'.take i = ds.take i) ⟨rfl, ⟨_, rfl⟩, rfl⟩ ?_ ?_
      · rintro i σ H' hi ⟨rfl, ⟨z, rfl⟩, ht⟩
        have hi1 : i < as'.length := by omega
        have hi2 : i < ds.length := by omega
        obtain ⟨x, ex, ax⟩ := as.getD (List.getElem?_eq_getElem hi1)
        obtain ⟨y, ey, ay⟩ := hs.getD (List.getElem?_eq_getElem hi2)
        refine ⟨_, rfl, _, rfl, .inl ⟨ p, xs, _, _, rfl, rfl, SqL.of hp, (by rw [Int.zero_add]; exact atI_nat ex), _, rfl, _, rfl, .inl ⟨ q, ys, _, _, rfl, rfl, SqL.of hq, (by rw [Int.zero_add]; exact atI_nat ey), ?_⟩⟩⟩
        refine ⟨x, y, _, _, rfl, ax, ay, Nat.lt_of_le_of_lt (deps_mem (List.getElem_mem hi2)) hdn, fun b hb => ⟨_, rfl, ite_b (fun c => ?_) (fun c => ?_)⟩⟩
        · refine kk _ ⟨fun z => (by cases z), fun z => ?_⟩
          injection z with z
          have hbt := hb.mpr (List.getElem_of_eq z hi1)
          rw [hbt] at c; cases c
        · refine ⟨rfl, ⟨_, rfl⟩, ?_⟩
          have hbt : b = true := by cases b with
            | true => rfl
            | false => cases c
          rw [List.take_succ, List.take_succ, ht, List.getElem?_eq_getElem hi1, List.getElem?_eq_getElem hi2, hb.mp hbt]
      · rintro σ H' ⟨rfl, ⟨z, rfl⟩, ht⟩
        refine kk true ⟨fun _ => ?_, fun _ => rfl⟩
        rw [hl2, List.take_length, ← hl, List.take_length] at ht
        rw [ht]
    | non => exact ⟨_, rfl, _, _, _, _, _, rfl, .ty _, At.tyX .non, kit_ty (kitL _), _, rfl, iteT (kk _ ⟨fun z => (by cases z), fun z => (by cases z)⟩)⟩
    | bl _ => exact ⟨_, rfl, _, _, _, _, _, rfl, .ty _, At.tyX (.bl _), kit_ty (kitL _), _, rfl, iteT (kk _ ⟨fun z => (by cases z), fun z => (by cases z)⟩)⟩
    | int _ => exact ⟨_, rfl, _, _, _, _, _, rfl, .ty _, At.tyX (.int _), kit_ty (kitL _), _, rfl, iteT (kk _ ⟨fun z => (by cases z), fun z => (by cases z)⟩)⟩
    | str _ => exact ⟨_, rfl, _, _, _, _, _, rfl, .ty _, At.tyX (.str _), kit_ty (kitL _), _, rfl, iteT (kk _ ⟨fun z => (by cases z), fun z => (by cases z)⟩)⟩
    | tup h5 a5 z5 => exact ⟨_, rfl, _, _, _, _, _, rfl, .ty _, At.tyX (.tup h5 a5 z5), kit_ty (kitL _), _, rfl, iteT (kk _ ⟨fun z => (by cases z), fun z => (by cases z)⟩)⟩
  | tup hq hs hz =>
    rename_i q ys ds
    have hdn : deps ds < n := by rw [dep] at hn; omega
    refine ⟨_, rfl, _, _, _, _, _, rfl, .ty _, At.tyX (At.tup hq hs hz), kit_ty (kitL _), _, rfl, iteF ⟨_, rfl, _, _, _, _, _, rfl, .ty _, At.tyX (At.tup hq hs hz), kit_ty (kitU _), _, rfl, iteT ?_⟩⟩
    refine ⟨_, rfl, _, _, _, _, _, rfl, .ty _, At.tyX (At.tup hq hs hz), kit_ty (kitL _), _, rfl, iteF (iteF ⟨_, rfl, _, _, _, _, _, rfl, .ty _, At.tyX (At.tup hq hs hz), kit_ty (kitU _), _, rfl, iteT ?_⟩)⟩
    cases ha with
    | tup hp as az =>
      rename_i p xs as'
      refine ⟨_, rfl, _, _, _, _, _, rfl, .ty _, At.tyX (At.tup hp as az), kit_ty (kitU _), _, rfl, iteF ?_⟩
      have hl1 := as.length; have hl2 := hs.length
      refine ⟨_, rfl, p, xs, rfl, .inr (SqT.of hp), _, rfl, q, ys, rfl, .inr (SqT.of hq), rfl, _, rfl, ?_⟩
      refine ite_b (fun c => ?_) (fun c => ?_)
      · refine kk _ ⟨fun z => (by cases z), fun z => ?_⟩
        cases z
        rw [hl1, hl2] at c; simp at c
      have hl : as'.length = ds.length := by
        rw [hl1, hl2] at c; simp at c; omega
      refine ⟨_, rfl, q, ys, rfl, .inr (SqT.of hq), _, rfl, by omega, by omega, ?_⟩
      refine for_range (lo := 0) (n := ys.length) (fun i σ H' => H' = H ∧ (∃ z, σ = [some (.ref p), some (.ref q), z]) ∧ as'.take i = ds.take i) ⟨rfl, ⟨_, rfl⟩, rfl⟩ ?_ ?_
      · rintro i σ H' hi ⟨rfl, ⟨z, rfl⟩, ht⟩
        have hi1 : i < as'.length := by omega
        have hi2 : i < ds.length := by omega
        obtain ⟨x, ex, ax⟩ := as.getD (List.getElem?_eq_getElem hi1)
        obtain ⟨y, ey, ay⟩ := hs.getD (List.getElem?_eq_getElem hi2)
        refine ⟨_, rfl, _, rfl, .inr (.inl ⟨ p, xs, _, _, rfl, rfl, SqT.of hp, (by rw [Int.zero_add]; exact atI_nat ex), _, rfl, _, rfl, .inr (.inl ⟨ q, ys, _, _, rfl, rfl, SqT.of hq, (by rw [Int.zero_add]; exact atI_nat ey), ?_⟩)⟩)⟩
        refine ⟨x, y, _, _, rfl, ax, ay, Nat.lt_of_le_of_lt (deps_mem (List.getElem_mem hi2)) hdn, fun b hb => ⟨_, rfl, ite_b (fun c => ?_) (fun c => ?_)⟩⟩
        · refine kk _ ⟨fun z => (by cases z), fun z => ?_⟩
          injection z with z
          have hbt := hb.mpr (List.getElem_of_eq z hi1)
          rw [hbt] at c; cases c
        · refine ⟨rfl, ⟨_, rfl⟩, ?_⟩
          have hbt : b = true := by cases b with
            | true => rfl
            | false => cases c
          rw [List.take_succ, List.take_succ, ht, List.getElem?_eq_getElem hi1, List.getElem?_eq_getElem hi2, hb.mp hbt]
      · rintro σ H' ⟨rfl, ⟨z, rfl⟩, ht⟩
        refine kk true ⟨fun _ => ?_, fun _ => rfl⟩
        rw [hl2, List.take_length, ← hl, List.take_length] at ht
        rw [ht]
    | non => exact ⟨_, rfl, _, _, _, _, _, rfl, .ty _, At.tyX .non, kit_ty (kitU _), _, rfl, iteT (kk _ ⟨fun z => (by cases z), fun z => (by cases z)⟩)⟩
    | bl _ => exact ⟨_, rfl, _, _, _, _, _, rfl, .ty _, At.tyX (.bl _), kit_ty (kitU _), _, rfl, iteT (kk _ ⟨fun z => (by cases z), fun z => (by cases z)⟩)⟩
    | int _ => exact ⟨_, rfl, _, _, _, _, _, rfl, .ty _, At.tyX (.int _), kit_ty (kitU _), _, rfl, iteT (kk _ ⟨fun z => (by cases z), fun z => (by cases z)⟩)⟩
    | str _ => exact ⟨_, rfl, _, _, _, _, _, rfl, .ty _, At.tyX (.str _), kit_ty (kitU _), _, rfl, iteT (kk _ ⟨fun z => (by cases z), fun z => (by cases z)⟩)⟩
    | lst h5 a5 z5 => exact ⟨_, rfl, _, _, _, _, _, rfl, .ty _, At.tyX (.lst h5 a5 z5), kit_ty (kitU _), _, rfl, iteT (kk _ ⟨fun z => (by cases z), fun z => (by cases z)⟩)⟩
end
end LR
set_option Elab.async false
set_option maxRecDepth 100000
set_option linter.all false
set_option maxHeartbeats 4000000
namespace LR
open PySem PySem.Spec PyProof.Rows L2
section
variable {P : Program} {w : World} {K : PySem.W.Frag} {mg : Str → Option Value} {base : Heap} {ζ : Cs}
def spHeight : Sp := fun vs H Q _ => ∃ h : Int, vs = [.int h] ∧ (h = 1 ∨ h = 2 ∨ h = 3) ∧ ∀ H', Same H H' → Q .non H'
theorem ok_height (T : Txt P K mg ζ) : Cal P w K mg base 1 "check_height" spHeight := by
  refine T.d_check_height.cal sc_check_height (fun vs H Q E h => ?_) (fun f cdv A outer s H vs Q E hr h => ⟨_, pss_one (ps_if (pt_cmpR op_notIn_seq (pv 0) (pe_tup (pa_cons (pe_int) (pa_cons (pe_int) (pa_cons (pe_int) (pa_nil))))) rfl)
 (pss_never)
 (pss_nil)), ?_⟩)
  · obtain ⟨h, rfl, _⟩ := h; rfl
  obtain ⟨h, rfl, hh, kk⟩ := h
  refine ⟨_, rfl, (by show 3 ≤ sizeLine; decide), fun t ht => ?_⟩
  refine ⟨t, _, rfl, .inr (SqT.of upd_same), rfl, rfl, _, rfl, ?_⟩
  rcases hh with rfl | rfl | rfl <;> exact iteF (kk _ (same_new ht))
end
end LR
set_option Elab.async false
set_option maxRecDepth 100000
set_option linter.all false
set_option maxHeartbeats 4000000
namespace LR
open PySem PySem.Spec PyProof.Rows L2
section
variable {P : Program} {w : World} {K : PySem.W.Frag} {mg : Str → Option Value} {base : Heap} {ζ : Cs}
def spChkEdges (K : PySem.W.Frag) : Sp := fun vs H Q _ => ∃ (h n : Int) (a : Addr) (ts : List Addr) (es : List (List Int)), vs = [.int h, .int n, .ref a] ∧ Sq K H a (ts.map V.ref) ∧ RowsH H ts es ∧ (∀ e ∈ es, EdgeOk h n e) ∧ es.Nodup ∧ es.length ≤ 63 ∧ ∀ H', Same H H' → Q .non H'
theorem ok_chkedges (T : Txt P K mg ζ) : Cal P w K mg base 1 "_check_edges" (spChkEdges K) := by
  refine T.d__check_edges.cal sc__check_edges (fun vs H Q E h => ?_) (fun f cdv A outer s H vs Q E hr h => ⟨_, pss_cons (ps_set (i := 3) sc__check_edges.nd rfl (Or.inl rfl) (pe_callTy0 cr_set0T (by rfl) T.n_set b_set))
 (pss_one (ps_for PassesOwn.never rfl (pi_enumS (by rfl) T.n_enumerate (pa_cons (pv 2) (pa_nil))) (pg_tup rfl (pgs_cons (pg_name (i := 4) sc__check_edges.nd rfl (Or.inl rfl)) (pgs_cons (pg_name (i := 5) sc__check_edges.nd rfl (Or.inl rfl)) (pgs_nil))))
 (pss_cons (ps_asg (pv 5) (pg_tup rfl (pgs_cons (pg_name (i := 6) sc__check_edges.nd rfl (Or.inl rfl)) (pgs_cons (pg_name (i := 7) sc__check_edges.nd rfl (Or.inl rfl)) (pgs_cons (pg_name (i := 8) sc__check_edges.nd rfl (Or.inl rfl)) (pgs_nil))))))
 (pss_cons (ps_if (pt_not (PW.pt (pw_and (pt_chain op_le op_lt (pe_int) (pv 6) (pv 1) ) (pw_and (pt_chain op_le op_lt (pe_int) (pv 8) (pv 1) ) (pw_and1 (pt_chain op_le op_le (pe_int) (pv 7) (pe_op op_mul (pe_int) (pv 0)) ))))))
 (pss_never)
 (pss_nil))
 (pss_cons (ps_if (pt_cmpR (or_inT hr.units) (pv 5) (pv 3) rfl)
 (pss_never)
 (pss_nil))
 (pss_one (ps_expr (pe_addT hr.units (pv 3) (pa_cons (pv 5) pa_nil))))))))), ?_⟩)
  · obtain ⟨h, n, a, ts, es, rfl, _⟩ := h; rfl
  obtain ⟨h, n, a, ts, es, rfl, hS, hR, hok, hnd, hl, kk⟩ := h
  refine ⟨rfl, fun S hS0 => ?_⟩
  have s1 : Same H (upd H S (SetTO P w S [])) := same_new hS0
  have hS1 : (upd H S (SetTO P w S [])) S = some (SetTO P w S []) := upd_same
  refine ⟨_, rfl, a, rfl, hS.enum s1 fun J G W g1 g2 => for_it W (fun i σ H' => Same H H' ∧ (∃ L : List (Addr × List Int), H' S = some (SetTO P w S L) ∧ (∀ p ∈ L, H p.1 = some (.tup (p.2.map V.int))) ∧ L.length = i ∧ ∀ k, k ∈ L.map (·.2) ↔ k ∈ es.take i) ∧ ∃ z4 z5 z6 z7 z8 : Option V, σ = [some (.int h), some (.int n), some (.ref a), some (.ref S), z4, z5, z6, z7, z8]) ⟨s1, ⟨[], hS1, (fun p z => by cases z), rfl, fun k => by simp⟩, none, none, none, none, none, rfl⟩ (fun i σ H' _ h => g1 _ h.1) ?_ ?_⟩
  · rintro i x1 σ H2 H3 hi ⟨s2, ⟨L, hL, hLt, hLl, hLm⟩, z4, z5, z6, z7, z8, rfl⟩ ⟨t, x2, y2, rfl, ht, rfl, ex, ey⟩
    cases ex
    obtain ⟨te, ete, rfl⟩ : ∃ te, ts[i]? = some te ∧ y2 = .ref te := by
      have ey : (ts.map V.ref)[i]? = some y2 := ey
      rw [List.getElem?_map] at ey
      cases q : ts[i]? with
      | none => rw [q] at ey; cases ey
      | some te => rw [q] at ey; cases ey; exact ⟨te, rfl, rfl⟩
    obtain ⟨e, ee, he⟩ := hR.getT ete
    have eok := hok e (List.mem_of_getElem? ee)
    obtain ⟨s0, r0, t0, rfl, hs, hr0, ht0⟩ := eok
    refine ⟨t, _, rfl, SqT.of upd_same, rfl, _, _, rfl, _, _, rfl, rfl, ?_⟩
    have s3 := s2.new (o := .tup [.int (i : Nat), .ref te]) ht
    have hL3 := (same_new (o := .tup [.int (i : Nat), .ref te]) ht) _ _ hL
    generalize upd H2 t (.tup [.int (i : Nat), .ref te]) = H4 at s3 hL3 ⊢
    have he3 := s3 _ _ he
    have hS3 : H S = none := hS0
    refine ⟨_, rfl, te, _, rfl, SqT.of he3, rfl, _, _, rfl, _, _, rfl, _, _, rfl, rfl, ?_⟩
    have heS := SqT.of (K := K) he3
    have hLS : ∀ p ∈ L, SqT K H4 p.1 (p.2.map V.int) := fun p hp => SqT.of (s3 _ _ (hLt p hp))
    refine ⟨_, rfl, _, _, rfl, rfl, _, rfl, ite2 (fun _ => ?_) (fun c => absurd (decide_eq_true hs.1) c)⟩
    refine ⟨_, rfl, _, _, rfl, rfl, _, rfl, ite2 (fun _ => ?_) (fun c => absurd (decide_eq_true hs.2) c)⟩
    refine ⟨_, rfl, _, _, rfl, rfl, _, rfl, ite2 (fun _ => ?_) (fun c => absurd (decide_eq_true ht0.1) c)⟩
    refine ⟨_, rfl, _, _, rfl, rfl, _, rfl, ite2 (fun _ => ?_) (fun c => absurd (decide_eq_true ht0.2) c)⟩
    refine ⟨_, rfl, _, _, rfl, rfl, _, rfl, ite2 (fun _ => ?_) (fun c => absurd (decide_eq_true hr0.1) c)⟩
    refine ⟨_, rfl, _, _, rfl, rfl, .inl ⟨by decide, by decide⟩, _, _, rfl, rfl, _, rfl, ite2 (fun c => by rw [decide_eq_true hr0.2] at c; cases c) (fun _ => ?_)⟩
    have nin : [s0, r0, t0] ∉ L.map (·.2) := fun z => nodup_take hnd ee ((hLm _).mp z)
    refine ⟨_, rfl, _, rfl, te, S, [s0, r0, t0], L, rfl, rfl, heS, hL3, hLS, _, rfl, ite2 (fun c => absurd (of_decide_eq_true c) nin) (fun _ => ?_)⟩
    have li : i < ts.length := (List.getElem?_eq_some_iff.mp ete).1
    have := hR.1
    refine ⟨_, rfl, ⟨S, L, rfl, hL3⟩, _, rfl, S, te, [s0, r0, t0], L, rfl, rfl, heS, hL3, hLS, by omega, fun L' _ e2 => ⟨fun b o q => ?_, ⟨L', upd_same, fun p hp => ?_, ?_, fun k => ?_⟩, _, _, _, _, _, rfl⟩⟩
    · rw [upd_ne (ne_of_none q hS3)]; exact s3 _ _ q
    · rcases List.mem_cons.mp ((e2 nin).mem_iff.mp hp) with q | q
      · subst q; exact he
      · exact hLt p q
    · rw [(e2 nin).length_eq, List.length_cons, hLl]
    · rw [((e2 nin).map (·.2)).mem_iff, take_mem ee, List.map_cons, List.mem_cons, hLm k]
  · rintro σ H' ⟨s2, _⟩
    exact kk _ s2
def spCount : Sp := fun vs H Q _ => ∃ c m : Int, vs = [.int c, .int m] ∧ 1 ≤ c ∧ c ≤ m ∧ Q .non H
theorem ok_count (T : Txt P K mg ζ) : Cal P w K mg base 1 "check_count" spCount := by
  refine T.d_check_count.cal sc_check_count (fun vs H Q E h => ?_) (fun f cdv A outer s H vs Q E hr h => ⟨_, pss_one (ps_if (pt_not (pt_chain op_le op_le (pe_int) (pv 0) (pv 1) ))
 (pss_never)
 (pss_nil)), ?_⟩)
  · obtain ⟨m, u, rfl, _⟩ := h; rfl
  obtain ⟨c, m, rfl, h1, h2, kk⟩ := h
  refine ⟨_, rfl, _, _, rfl, rfl, _, rfl, ite2 (fun _ => ?_) (fun q => absurd (decide_eq_true h1) q)⟩
  exact ⟨_, rfl, _, _, rfl, rfl, _, rfl, ite2 (fun q => by rw [decide_eq_true h2] at q; cases q) (fun _ => kk)⟩
def spWeb (C : Addr) : Sp := fun vs H Q _ => ∃ (x a dx : Addr) (h n : Int) (ts : List Addr) (es : List (List Int)), vs = [.ref x, .int h, .int n, .ref a] ∧ H x = some (.ins C dx []) ∧ (H a = some (.lst (ts.map V.ref)) ∨ H a = some (.tup (ts.map V.ref))) ∧ RowsH H ts es ∧ (h = 1 ∨ h = 2 ∨ h = 3) ∧ (1 ≤ n ∧ n ≤ 9) ∧ es.length ≤ 63 ∧ (∀ e ∈ es, EdgeOk h n e) ∧ es.Nodup ∧ ∀ H' ss, Keep x H H' → WebAt C H' x h n ss → ss.Perm es → ss.Pairwise elt → Q .non H'
theorem body_web (T : Txt P K mg ζ) {C : Addr} (cl : Cls K C) (na1 : NoAttr K C "height") (na2 : NoAttr K C "size") (na3 : NoAttr K C "edges") (f : Addr) (cdv : Value) (A : Around) (outer : List Env) (s : Shared) (H : Hp) (vs : List V) (Q : VK) (E : XK) (hr : Room 1 (A.deeper (envOfC "Web.__init__" (defScope s_W_init) s.heap.objs.size f cdv))) (h : spWeb C vs H Q E) :
    ∃ t, PSs (cxOf CX0 P w K mg base N_W_init "Web.__init__" (defScope s_W_init) f cdv A outer s H E).nox (defBody s_W_init) t ∧ t { nx := fun _ H' => Q .non H', rt := Q } (L2.start N_W_init vs) H := by
  have c_check_height : Cal P w K mg base 1 "check_height" spHeight := ok_height T
  have c_check_count : Cal P w K mg base 1 "check_count" spCount := ok_count T
  have c__check_edges : Cal P w K mg base 1 "_check_edges" (spChkEdges K) := ok_chkedges T
  refine ⟨_, pss_cons (ps_expr (pe_c c_check_height hr (by first | decide | omega) (by rfl) (pa_cons (pv 1) (pa_nil))))
 (pss_cons (ps_expr (pe_c c_check_count hr (by first | decide | omega) (by rfl) (pa_cons (pv 2) (pa_cons (ClX.pe_cval (pe_glob (v := .ref ζ.Web) (by rfl) T.mg_Web rfl)) (pa_nil)))))
 (pss_cons (ps_if (pt_cmpR op_gt (pe_callB call_len_seq (by rfl) T.n_len b_len (pa_cons (pv 3) (pa_nil))) (ClX.pe_cval (pe_glob (v := .ref ζ.Web) (by rfl) T.mg_Web rfl)) (nomark _))
 (pss_never)
 (pss_nil))
 (pss_cons (ps_expr (pe_c c__check_edges hr (by first | decide | omega) (by rfl) (pa_cons (pv 1) (pa_cons (pv 2) (pa_cons (pv 3) (pa_nil))))))
 (pss_cons (ps_fld (pv 0) (pv 1) rfl)
 (pss_cons (ps_fld (pv 0) (pv 2) rfl)
 (pss_one (ps_fld (pv 0) (pe_callTy call_tuple_of (by rfl) T.n_tuple b_tuple (pa_cons (pe_callB (cr_sortQ (d := 3) (B := 64) (by decide)) (by rfl) T.n_sorted b_sorted (pa_cons (pv 3) pa_nil)) (pa_nil))) rfl))))))), ?_⟩
  obtain ⟨x, a, dx, h, n, ts, es, rfl, hx, ha, hR, hh, hn, hl, hok, hnd, kk⟩ := h
  have hS : Sq K H a (ts.map V.ref) := by
    rcases ha with ha | ha
    · exact .inl (SqL.of ha)
    · exact .inr (SqT.of ha)
  have nax : a ≠ x := by
    rcases ha with ha | ha
    · exact ne_of ha hx (by intro z; cases z)
    · exact ne_of ha hx (by intro z; cases z)
  obtain ⟨mc, u, cr, cv⟩ := T.cv_Web_MOST_NODES
  obtain ⟨mc2, u2, cr2, cv2⟩ := T.cv_Web_MOST_EDGES
  refine ⟨_, rfl, h, rfl, hh, fun H1 s1 => ?_⟩
  refine ⟨_, rfl, ζ.Web, mc, _, u, rfl, cr, cv, n, 9, rfl, hn.1, hn.2, ?_⟩
  refine ⟨_, rfl, a, _, rfl, hS.same s1, ζ.Web, mc2, _, u2, rfl, cr2, cv2, _, _, rfl, rfl, _, rfl, ?_⟩
  rw [List.length_map, hR.1]
  refine ite2 (fun c => absurd (of_decide_eq_true c) (by omega)) (fun _ => ?_)
  refine ⟨_, rfl, _, rfl, _, rfl, h, n, a, ts, es, rfl, hS.same s1, hR.same s1, hok, hnd, hl, fun H2 s2 => ?_⟩
  have s02 := s1.trans s2
  have hx2 := s02 _ _ hx
  refine ⟨_, rfl, _, rfl, x, C, dx, _, rfl, hx2, cl, na1, (by show 0 < 1000; decide), ?_⟩
  have k3 : Keep x H (upd H2 x (.ins C dx (putF "height" (V.int h) []))) := s02.keep.upd
  refine ⟨_, rfl, _, rfl, x, C, dx, _, rfl, upd_same, cl, na2, (by show 1 < 1000; decide), ?_⟩
  rw [upd_upd]
  have k4 : Keep x H (upd H2 x (.ins C dx (putF "size" (V.int n) (putF "height" (V.int h) [])))) := s02.keep.upd
  have hx4 : (upd H2 x (.ins C dx (putF "size" (V.int n) (putF "height" (V.int h) [])))) x = some (.ins C dx (putF "size" (V.int n) (putF "height" (V.int h) []))) := upd_same
  generalize upd H2 x (.ins C dx (putF "size" (V.int n) (putF "height" (V.int h) []))) = H4 at k4 hx4 ⊢
  have hR4 : RowsH H4 ts es := ⟨hR.1, fun k t e a b => k4 _ (ne_of (hR.2 k t e a b) hx (by intro z; cases z)) _ (hR.2 k t e a b)⟩
  have hS4 := hS.keep k4 nax
  refine ⟨_, rfl, a, ts.map V.ref, rfl, hS4, (by rw [List.length_map, hR.1]; omega), fun y hy => ?_, fun ys p perm pw hp => ?_⟩
  · obtain ⟨t, ht, rfl⟩ := List.mem_map.mp hy
    obtain ⟨j, hj⟩ := List.mem_iff_getElem?.mp ht
    obtain ⟨e, ee, he⟩ := hR4.getT hj
    obtain ⟨b1, b2⟩ := edge_bd (by omega) hn.2 (hok e (List.mem_of_getElem? ee))
    exact ⟨e, ⟨t, rfl, SqT.of he⟩, b1, b2⟩
  obtain ⟨us, rfl, pu, hU, pss⟩ := hR4.perm perm
  have rowU : ∀ t ∈ us, TupI K H4 (.ref t) (rowH H4 t) := fun t ht => by
    obtain ⟨j, hj⟩ := List.mem_iff_getElem?.mp ht
    obtain ⟨e, _, he⟩ := hU.getT hj
    exact ⟨t, rfl, by rw [rowH_of he]; exact SqT.of he⟩
  have okU : ∀ t ∈ us, EdgeOk h n (rowH H4 t) := fun t ht => hok _ (pss.mem_iff.mp (List.mem_map.mpr ⟨t, ht, rfl⟩))
  have pw2 : (us.map (rowH H4)).Pairwise elt := by
    rw [List.pairwise_map]
    have nd3 := List.pairwise_map.mp (pss.nodup_iff.mpr hnd)
    have pw1 := List.pairwise_map.mp pw
    refine List.Pairwise.imp_of_mem (fun {u v} hu hv hw => ?_) (pw1.and nd3)
    exact elt_code (by omega) hn.2 (okU u hu) (okU v hv) (hw.1 _ _ (rowU u hu) (rowU v hv)) hw.2
  have npx : x ≠ p := ne_of_none hx4 hp
  refine ⟨p, _, rfl, .inl ⟨SqL.of upd_same, fun te hte => ?_⟩⟩
  have hx5 := (same_new (o := .lst (us.map V.ref)) hp) _ _ hx4
  have npt : x ≠ te := ne_of_none hx5 hte
  refine ⟨_, rfl, x, C, dx, _, rfl, (same_new hte) _ _ hx5, cl, na3, (by show 2 < 1000; decide), ?_⟩
  refine kk _ (us.map (rowH H4)) (((k4.new hp).new hte).upd) ⟨dx, te, us, ?_, ?_, ?_⟩ pss pw2
  · rw [upd_same]; rfl
  · rw [upd_ne npt.symm, upd_same]
  · refine ⟨hU.1, fun k t e a b => ?_⟩
    have := hU.2 k t e a b
    rw [upd_ne (ne_of this hx4 (by intro z; cases z)), upd_ne (ne_of_none ((same_new (o := .lst (us.map V.ref)) hp) _ _ this) hte), upd_ne (ne_of_none this hp)]
    exact this
def spNode : Sp := fun vs H Q _ => ∃ (m u : Int), vs = [.int m, .int u] ∧ 0 ≤ u ∧ u < m ∧ Q .non H
theorem ok_node (T : Txt P K mg ζ) : Cal P w K mg base 1 "check_node" spNode := by
  refine T.d_check_node.cal sc_check_node (fun vs H Q E h => ?_) (fun f cdv A outer s H vs Q E hr h => ⟨_, pss_one (ps_if (pt_not (pt_chain op_le op_lt (pe_int) (pv 1) (pv 0) ))
 (pss_never)
 (pss_nil)), ?_⟩)
  · obtain ⟨m, u, rfl, _⟩ := h; rfl
  obtain ⟨m, u, rfl, u0, u1, kk⟩ := h
  refine ⟨_, rfl, _, _, rfl, rfl, _, rfl, ?_⟩
  refine ite2 (fun c => ?_) (fun c => absurd (decide_eq_true u0) c)
  refine ⟨_, rfl, _, _, rfl, rfl, _, rfl, ?_⟩
  refine ite2 (fun c => ?_) (fun _ => kk)
  rw [decide_eq_true u1] at c; cases c
end
end LR
set_option Elab.async false
set_option maxRecDepth 100000
set_option linter.all false
set_option maxHeartbeats 4000000
namespace LR
open PySem PySem.Spec PyProof.Rows L2
section
variable {P : Program} {w : World} {K : PySem.W.Frag} {mg : Str → Option Value} {base : Heap} {ζ : Cs}
def spChkOwn : Sp := fun vs H Q _ => ∃ os : List Bool, vs = [.str (strO os)] ∧ 1 ≤ os.length ∧ os.length ≤ 9 ∧ ∀ H', Same H H' → Q .non H'
theorem ok_chkown (T : Txt P K mg ζ) : Cal P w K mg base 1 "_check_owners" spChkOwn := by
  refine T.d__check_owners.cal sc__check_owners (fun vs H Q E h => ?_) (fun f cdv A outer s H vs Q E hr h => ⟨_, pss_cons (ps_if (pt_not (pt_chain op_le op_le (pe_int) (pe_callB call_len_str (by rfl) T.n_len b_len (pa_cons (pv 0) pa_nil)) (ClX.pe_cval (pe_glob (v := .ref ζ.Web) (by rfl) T.mg_Web rfl)) ))
 (pss_never)
 (pss_nil))
 (pss_one (ps_if (pt_val (pe_callB (cr_any rfl) (by rfl) T.n_any b_any (pa_cons (pe_lc (own := [("owner", 1)]) (g := gName 1) (tt := tYes)  rfl sc__check_owners.nd (pi_str (pv 0)) (blkOk_by (N := N__check_owners) (sc := defScope s__check_owners) (by decide +kernel)) (fun _ _ _ _ _ => pg_name (i := 1) sc__check_owners.nd rfl (Or.inl rfl)) (fun _ _ _ _ _ => pts_nil) (fun _ _ _ _ _ => pe_cmpR (op_notInK (K := K) rfl) (pv 1) (pe_tup (pa_cons (pe_str) (pa_cons (pe_str) (pa_nil)))) rfl)) (pa_nil))))
 (pss_never)
 (pss_nil))), ?_⟩)
  · obtain ⟨os, rfl, _⟩ := h; rfl
  obtain ⟨os, rfl, h1, h9, kk⟩ := h
  obtain ⟨mc, u, cr, cv⟩ := T.cv_Web_MOST_NODES
  have hle := strO_len os
  refine ⟨_, rfl, _, rfl, (by rw [hle, sizeLine_eq]; omega), _, _, rfl, rfl, _, rfl, ite2 (fun _ => ?_) (fun c => absurd (decide_eq_true (by rw [hle]; omega)) c)⟩
  refine ⟨ζ.Web, mc, _, u, rfl, cr, cv, _, _, rfl, rfl, _, rfl, ite2 (fun c => ?_) (fun _ => ?_)⟩
  · rw [hle, decide_eq_true (by omega)] at c; cases c
  refine ⟨_, rfl, _, rfl, fun D hD => ?_⟩
  have hsz : (strO os).cps.size = os.length := hle
  refine lc_it (walk_str (z := strO os)) (fun i H' => Same H H' ∧ ∃ bs : List Bool, H' D = some (.lst (bs.map V.bl)) ∧ bs.length = i ∧ bs.any id = false) ⟨same_new hD, [], upd_same, rfl, rfl⟩ (fun _ _ _ _ => trivial) ?_ ?_
  · rintro i x H2 H3 hi ⟨s2, bs, hD2, hbl, hba⟩ ⟨rfl, c, hc, rfl⟩
    obtain ⟨b, hb, rfl⟩ := strO_getN hc
    refine ⟨rfl, _, rfl, (by show 2 ≤ sizeLine; decide), fun t ht => ?_⟩
    refine ⟨t, _, rfl, .inr (SqT.of upd_same), rfl, rfl, bs.map V.bl, ?_, ?_, fun q o e => ?_, bs ++ [false], ?_, ?_, ?_⟩
    · exact (same_new ht) _ _ hD2
    · rw [List.length_map, sizeLine_eq]; omega
    · rw [upd_ne (ne_of_none e hD), upd_ne (ne_of_none (s2 _ _ e) ht)]; exact s2 _ _ e
    · rw [upd_same, List.map_append]
      cases b <;> rfl
    · rw [List.length_append, hbl]; rfl
    · rw [List.any_append, hba]; rfl
  · rintro H2 ⟨s2, bs, hD2, hbl, hba⟩
    refine ⟨_, bs, rfl, SqL.of hD2, _, rfl, ?_⟩
    rw [hba]
    exact iteF (kk _ s2)
def spDead : Sp := fun vs H Q _ => ∃ (n : Nat) (te : Addr) (us : List Addr) (ss : List (List Int)), vs = [.int n, .ref te] ∧ n ≤ 9 ∧ H te = some (.tup (us.map V.ref)) ∧ RowsH H us ss ∧ ss.length ≤ 63 ∧ (∀ e ∈ ss, e.length = 3) ∧ (∀ v : Nat, v < n → ∃ e ∈ ss, e.head? = some (v : Int)) ∧ ∀ H', Same H H' → Q .non H'
theorem inV_ints (i : Int) (l : List Int) : inV (.int i) (l.map V.int) = decide (i ∈ l) := by
  unfold inV
  rw [List.any_map, Bool.eq_iff_iff, List.any_eq_true, decide_eq_true_eq]
  constructor
  · rintro ⟨j, hj, he⟩
    have : (j == i) = true := he
    rw [beq_iff_eq] at this
    subst this; exact hj
  · intro h
    exact ⟨i, h, by show (i == i) = true; simp⟩
theorem flat_ints (l : List Int) : (l.map V.int).all flatV = true := by
  rw [List.all_map, List.all_eq_true]
  intro _ _; rfl
theorem ok_dead (T : Txt P K mg ζ) : Cal P w K mg base 1 "_check_dead_ends" spDead := by
  refine T.d__check_dead_ends.cal sc__check_dead_ends (fun vs H Q E h => ?_) (fun f cdv A outer s H vs Q E hr h => ⟨_, pss_cons (ps_setLc (i := 2) (own := [("edge", 3)]) (g := gName 3) (tt := tYes)  rfl sc__check_dead_ends.nd rfl rfl (sw_true rfl rfl rfl (by decide +kernel)) (pi_tup (pv 1)) (blkOk_by (N := N__check_dead_ends) (sc := defScope s__check_dead_ends) (by decide +kernel)) (fun _ _ _ _ _ => pg_name (i := 3) sc__check_dead_ends.nd rfl (Or.inl rfl)) (fun _ _ _ _ _ => pts_nil) (fun _ _ _ _ _ => pe_ix (ix_tupK (K := K) rfl) (pv 3) pe_int (fun _ _ => rfl)))
 (pss_one (ps_for PassesOwn.never rfl (pi_range1 rfl T.n_range (pa_cons (pv 0) (pa_nil))) (pg_name (i := 4) sc__check_dead_ends.nd rfl (Or.inl rfl))
 (pss_one (ps_if (pt_cmpR op_notIn_seq (pv 4) (pv 2) rfl)
 (pss_never)
 (pss_nil))))), ?_⟩)
  · obtain ⟨n, te, us, ss, rfl, _⟩ := h; rfl
  obtain ⟨n, te, us, ss, rfl, n9, ht, hR, hl, h3, hd, kk⟩ := h
  refine ⟨_, rfl, ⟨te, rfl, ⟨_, SqT.of ht⟩, fun D hD => ?_⟩⟩
  refine lc_tup (K := K) (a := te) (xs := us.map V.ref) (fun i H' => Same H H' ∧ H' D = some (.lst (((ss.take i).map fun e => e.headD 0).map V.int))) ⟨same_new hD, upd_same⟩ (fun i H' _ h => SqT.of (h.1 _ _ ht)) ?_ ?_
  · rintro i y H2 hy ⟨s2, hD2⟩
    rw [List.getElem?_map] at hy
    cases q : us[i]? with
    | none => rw [q] at hy; cases hy
    | some t =>
    rw [q] at hy; cases hy
    obtain ⟨e, ee, he⟩ := hR.getT q
    have e3 := h3 e (List.mem_of_getElem? ee)
    obtain ⟨s0, r0, t0, rfl⟩ : ∃ a b c, e = [a, b, c] := by
      match e, e3 with
      | [a, b, c], _ => exact ⟨a, b, c, rfl⟩
    have et : ss.take (i + 1) = ss.take i ++ [[s0, r0, t0]] := by rw [List.take_succ, ee]; rfl
    refine ⟨rfl, _, rfl, t, _, _, _, rfl, rfl, SqT.of (s2 _ _ he), rfl, _, hD2, ?_, fun b o e => ?_, ?_⟩
    · rw [List.length_map, List.length_map, List.length_take, sizeLine_eq]; omega
    · rw [upd_ne (ne_of_none e hD)]; exact s2 _ _ e
    · rw [upd_same, et, List.map_append, List.map_append]; rfl
  · rintro H2 ⟨s2, hD2⟩
    rw [List.length_map, hR.1, List.take_length] at hD2
    refine ⟨_, rfl, _, rfl, by omega, by omega, ?_⟩
    refine for_range (lo := 0) (n := ((n : Int)).toNat) (fun i σ H' => Same H H' ∧ (∃ l : List Int, H' D = some (.lst (l.map V.int)) ∧ ∀ v : Nat, v < n → (v : Int) ∈ l) ∧ ∃ z3 z4 : Option V, σ = [some (.int n), some (.ref te), some (.ref D), z3, z4]) ⟨s2, ⟨_, hD2, fun v hv => ?_⟩, none, none, rfl⟩ ?_ ?_
    · obtain ⟨e, he, hh⟩ := hd v hv
      refine List.mem_map.mpr ⟨e, he, ?_⟩
      cases e with
      | nil => cases hh
      | cons a r => cases hh; rfl
    · rintro i σ H3 hi ⟨s3, ⟨l, hl3, hm⟩, z3, z4, rfl⟩
      rw [Int.toNat_natCast] at hi
      refine ⟨_, rfl, _, rfl, D, _, rfl, .inl (SqL.of hl3), rfl, flat_ints l, _, rfl, ?_⟩
      have := inV_ints (0 + (i : Nat)) l
      rw [this, Int.zero_add, decide_eq_true (hm i hi)]
      exact iteF ⟨s3, ⟨l, hl3, hm⟩, _, _, rfl⟩
    · rintro σ H3 ⟨s3, _⟩
      exact kk _ s3
def spGame (C : Addr) : Sp := fun vs H Q _ => ∃ (x a dx : Addr) (h : Int) (os : List Bool) (ts : List Addr) (es : List (List Int)), vs = [.ref x, .int h, .str (strO os), .ref a] ∧ H x = some (.ins C dx []) ∧ (H a = some (.lst (ts.map V.ref)) ∨ H a = some (.tup (ts.map V.ref))) ∧ RowsH H ts es ∧ (h = 1 ∨ h = 2 ∨ h = 3) ∧ (1 ≤ os.length ∧ os.length ≤ 9) ∧ es.length ≤ 63 ∧ (∀ e ∈ es, EdgeOk h os.length e) ∧ es.Nodup ∧ (∀ v : Nat, v < os.length → ∃ e ∈ es, e.head? = some (v : Int)) ∧ ∀ H' ss, Keep x H H' → GameAt C H' x h os ss → ss.Perm es → ss.Pairwise elt → Q .non H'
theorem ok_game (T : Txt P K mg ζ) : Mak P w K mg base 3 "Game" ζ.Game (spGame ζ.Game) := by
  have c__check_owners : Cal P w K mg base 1 "_check_owners" spChkOwn := ok_chkown T
  have c__check_dead_ends : Cal P w K mg base 1 "_check_dead_ends" spDead := ok_dead T
  have su_init : SupTo P w K mg base CX0 2 ζ.Game ζ.Game "__init__" (spWeb ζ.Game) := T.su_Game_init.to sc_W_init (fun vs H Q E h => by obtain ⟨x, a, dx, h, n, ts, es, rfl, _⟩ := h; rfl) (fun f cdv A outer s H vs Q E hr h => body_web T T.cl_Game T.na_Game_height T.na_Game_size T.na_Game_edges f cdv A outer s H vs Q E hr h)
  refine T.mk_Game.mak csc_G_init (fun vs H Q E h => ?_) (fun f cc cda fd A outer s H vs Q E S hr h => ⟨_, nss_cons (ns_ps (ps_expr (pe_c c__check_owners hr (by first | decide | omega) (by rfl) (pa_cons (pv 2) (pa_nil)))))
 (nss_cons (ns_expr (ne_supM (i := 0) S su_init hr (by first | decide | omega) pass0 (pa_cons (pv 1) (pa_cons (pe_callB call_len_str (by rfl) T.n_len b_len (pa_cons (pv 2) pa_nil)) (pa_cons (pv 3) (pa_nil))))))
 (nss_cons (ns_ps (ps_fld (pv 0) (pv 2) rfl))
 (nss_one (ns_ps (ps_expr (pe_c c__check_dead_ends hr (by first | decide | omega) (by rfl) (pa_cons (pe_fld (pv 0) rfl) (pa_cons (pe_fld (pv 0) rfl) (pa_nil))))))))), ?_⟩)
  · obtain ⟨x, a, dx, h, os, ts, es, rfl, _⟩ := h; rfl
  obtain ⟨x, a, dx, h, os, ts, es, rfl, hx, ha, hR, hh, hn, hl, hok, hnd, hdd, kk⟩ := h
  refine ⟨_, rfl, os, rfl, hn.1, hn.2, fun H1 s1 => ?_⟩
  have hx1 := s1 _ _ hx
  have hle := strO_len os
  refine ⟨x, dx, _, rfl, hx1, _, rfl, _, rfl, _, rfl, (by rw [hle, sizeLine_eq]; omega), _, rfl, ?_⟩
  rw [hle]
  refine ⟨x, a, dx, h, os.length, ts, es, rfl, hx1, ha.imp (s1 _ _) (s1 _ _), hR.same s1, hh, (by omega), hl, hok, hnd, fun H2 ss k2 WA perm pw => ?_⟩
  obtain ⟨dx2, te, us, w1, w2, w3⟩ := WA
  have nte : te ≠ x := ne_of w2 w1 (by intro z; cases z)
  refine ⟨_, rfl, _, rfl, x, ζ.Game, dx2, _, rfl, w1, T.cl_Game, T.na_Game_owners, (by show 3 < 1000; decide), ?_⟩
  have k3 : Keep x H (upd H2 x (.ins ζ.Game dx2 (putF "owners" (.str (strO os)) [("height", V.int h), ("size", V.int os.length), ("edges", .ref te)]))) := (s1.keep.trans k2).upd
  have g3 : GameAt ζ.Game (upd H2 x (.ins ζ.Game dx2 (putF "owners" (.str (strO os)) [("height", V.int h), ("size", V.int os.length), ("edges", .ref te)]))) x h os ss := by
    refine ⟨dx2, te, us, upd_same, ?_, w3.1, fun k t e a b => ?_⟩
    · rw [upd_ne nte]; exact w2
    · have := w3.2 k t e a b
      rw [upd_ne (ne_of this w1 (by intro z; cases z))]; exact this
  generalize upd H2 x (.ins ζ.Game dx2 (putF "owners" (.str (strO os)) [("height", V.int h), ("size", V.int os.length), ("edges", .ref te)])) = H3 at k3 g3 ⊢
  obtain ⟨dx3, te3, us3, v1, v2, v3⟩ := id g3
  refine ⟨_, rfl, x, ζ.Game, dx3, _, _, rfl, v1, T.cl_Game, T.na_Game_size, rfl, _, rfl, x, ζ.Game, dx3, _, _, rfl, v1, T.cl_Game, T.na_Game_edges, rfl, ?_⟩
  refine ⟨os.length, te3, us3, ss, rfl, hn.2, v2, v3, (by rw [perm.length_eq]; exact hl), fun e he => ?_, fun v hv => ?_, fun H4 s4 => kk H4 ss (k3.same s4) (g3.same s4) perm pw⟩
  · obtain ⟨_, _, _, rfl, _⟩ := hok e (perm.mem_iff.mp he); rfl
  · obtain ⟨e, he, hh⟩ := hdd v hv
    exact ⟨e, perm.mem_iff.mpr he, hh⟩
/-- edges and size stand in the instance's fields -/
def EdgesAt (C : Addr) (H : Hp) (x : Addr) (n : Int) (ss : List (List Int)) : Prop := ∃ dx fs te us, H x = some (.ins C dx fs) ∧ fs.lookup ("size" : Str) = some (.int n) ∧ fs.lookup ("edges" : Str) = some (.ref te) ∧ H te = some (.tup (us.map V.ref)) ∧ RowsH H us ss
def spOutG (C : Addr) : Sp := fun vs H Q _ => ∃ (x : Addr) (h n v : Int) (ss : List (List Int)), vs = [.ref x, .int v] ∧ EdgesAt C H x n ss ∧ (∀ e ∈ ss, EdgeOk h n e) ∧ ss.length ≤ 63 ∧ (0 ≤ v ∧ v < n) ∧ ∀ H' b us, Same H H' → H' b = some (.tup (us.map V.ref)) → RowsH H' us (ss.filter fun e => decide (e.head? = some v)) → Q (.ref b) H'
theorem body_out (T : Txt P K mg ζ) {C : Addr} (cl : Cls K C) (na2 : NoAttr K C "size") (na3 : NoAttr K C "edges") (f : Addr) (cdv : Value) (A : Around) (outer : List Env) (s : Shared) (H : Hp) (vs : List V) (Q : VK) (E : XK) (hr : Room 1 (A.deeper (envOfC "Web.out" (defScope s_W_out) s.heap.objs.size f cdv))) (h : spOutG C vs H Q E) :
    ∃ t, PSs (cxOf CX0 P w K mg base N_W_out "Web.out" (defScope s_W_out) f cdv A outer s H E).nox (defBody s_W_out) t ∧ t { nx := fun _ H' => Q .non H', rt := Q } (L2.start N_W_out vs) H := by
  have c_check_node : Cal P w K mg base 1 "check_node" spNode := ok_node T
  refine ⟨_, pss_cons (ps_expr (pe_c c_check_node hr (by first | decide | omega) (by rfl) (pa_cons (pe_fld (pv 0) rfl) (pa_cons (pv 1) (pa_nil)))))
 (pss_one (ps_ret (pe_callTy call_tuple_of (by rfl) T.n_tuple b_tuple (pa_cons (pe_lc (own := [("edge", 2)]) (g := gName 2)  rfl sc_W_out.nd (pi_tup (pe_fld (pv 0) rfl)) (blkOk_by (N := N_W_out) (sc := defScope s_W_out) (by decide +kernel)) (fun _ _ _ _ _ => pg_name (i := 2) sc_W_out.nd rfl (Or.inl rfl)) (fun _ _ _ _ _ => pts_one (pt_cmpR op_eq (pe_ix (ix_tupK (K := K) rfl) (pv 2) pe_int (fun _ _ => rfl)) (pv 1) (nomark _))) (fun _ _ _ _ _ => pv 2)) (pa_nil))))), ?_⟩
  obtain ⟨x, h, n, v, ss, rfl, WA, hok, hl, hv, kk⟩ := h
  obtain ⟨dx, fs, te, us, h1, f2, f3, h2, h3⟩ := id WA
  refine ⟨_, rfl, x, C, dx, _, _, rfl, h1, cl, na2, f2, _, rfl, _, v, rfl, hv.1, hv.2, ?_⟩
  refine ⟨_, rfl, x, C, dx, _, _, rfl, h1, cl, na3, f3, te, rfl, ⟨_, SqT.of h2⟩, fun D hD => ?_⟩
  refine lc_tup (K := K) (a := te) (xs := us.map V.ref) (fun i H' => Same H H' ∧ ∃ ws, H' D = some (.lst (ws.map V.ref)) ∧ RowsH H ws ((ss.take i).filter fun e => decide (e.head? = some v))) ⟨same_new hD, [], upd_same, RowsH.nil⟩ (fun i H' _ h => SqT.of (h.1 _ _ h2)) ?_ ?_
  · rintro i y H2 hy ⟨s2, ws, hD2, hW⟩
    rw [List.getElem?_map] at hy
    cases q : us[i]? with
    | none => rw [q] at hy; cases hy
    | some t =>
    rw [q] at hy; cases hy
    obtain ⟨e, ee, he⟩ := h3.getT q
    obtain ⟨s0, r0, t0, rfl, _⟩ := hok e (List.mem_of_getElem? ee)
    have et : ss.take (i + 1) = ss.take i ++ [[s0, r0, t0]] := by rw [List.take_succ, ee]; rfl
    refine ⟨rfl, _, rfl, t, _, _, _, rfl, rfl, SqT.of (s2 _ _ he), rfl, _, rfl, rfl, _, rfl, ?_⟩
    have em : decide (V.int s0 = V.int v) = decide (s0 = v) := by simp
    rw [em]
    refine ite_b (fun c => ?_) (fun c => ?_)
    · have wl : ws.length ≤ 63 := by
        have := List.length_filter_le (fun e : List Int => decide (e.head? = some v)) (ss.take i)
        rw [← hW.1, List.length_take] at this; omega
      have c1 : decide ([s0, r0, t0].head? = some v) = true := by simp; exact of_decide_eq_true c
      refine ⟨_, rfl, _, hD2, (by rw [List.length_map, sizeLine_eq]; omega), fun b o e => ?_, ws ++ [t], ?_, ?_⟩
      · rw [upd_ne (ne_of_none e hD)]; exact s2 _ _ e
      · rw [upd_same, List.map_append]; rfl
      · rw [et, List.filter_append, List.filter_cons, List.filter_nil, if_pos c1]
        exact hW.snoc he
    · have c1 : ¬ decide ([s0, r0, t0].head? = some v) = true := by
        intro z; simp at z; rw [decide_eq_true z] at c; cases c
      refine ⟨s2, ws, hD2, ?_⟩
      rw [et, List.filter_append, List.filter_cons, List.filter_nil, if_neg c1, List.append_nil]
      exact hW
  · rintro H2 ⟨s2, ws, hD2, hW⟩
    rw [List.length_map, h3.1, List.take_length] at hW
    refine ⟨D, _, rfl, .inl ⟨SqL.of hD2, fun b hb => ?_⟩⟩
    exact kk _ b ws (s2.new hb) upd_same ((hW.same s2).same (same_new hb))
theorem GameAt.edges {C H x h os ss} (g : GameAt C H x h os ss) : EdgesAt C H x os.length ss := by
  obtain ⟨dx, te, us, h1, h2, h3⟩ := g
  exact ⟨dx, _, te, us, h1, rfl, rfl, h2, h3⟩
theorem ok_gout (T : Txt P K mg ζ) : Met P w K mg base 3 ζ.Game "out" (spOutG ζ.Game) := by
  have su_out : SupTo P w K mg base CX0 2 ζ.Game ζ.Game "out" (spOutG ζ.Game) := T.su_Game_out.to sc_W_out (fun vs H Q E h => by obtain ⟨x, h, n, v, ss, rfl, _⟩ := h; rfl) (fun f cdv A outer s H vs Q E hr h => body_out T T.cl_Game T.na_Game_size T.na_Game_edges f cdv A outer s H vs Q E hr h)
  refine T.mt_G_out.met T.cl_Game csc_G_out (fun vs H Q E h => ?_) (fun f cc cda fd A outer s H vs Q E S hr h => ⟨_, nss_one (ns_ret (ne_supM (i := 0) S su_out hr (by first | decide | omega) pass0 (pa_cons (pv 1) (pa_nil)))), ?_⟩)
  · obtain ⟨x, h, n, v, ss, rfl, _⟩ := h; rfl
  obtain ⟨x, h, n, v, ss, rfl, WA, rest⟩ := h
  obtain ⟨dx, fs, te, us, h1, h2⟩ := id WA
  exact ⟨x, dx, fs, rfl, h1, _, rfl, x, h, n, v, ss, rfl, WA, rest⟩
end
end LR
set_option Elab.async false
set_option maxRecDepth 100000
set_option linter.all false
set_option maxHeartbeats 4000000
namespace LR
open PySem PySem.Spec PyProof.Rows L2
section
variable {P : Program} {w : World} {K : PySem.W.Frag} {mg : Str → Option Value} {base : Heap} {ζ : Cs}
def spOwners : Sp := fun vs H Q _ => ∃ (p : Addr) (n : Nat), vs = [.ref p, .int n] ∧ IsPool H p ∧ n ≤ 9 ∧ ∀ H' (os : List Bool), Keep p H H' → IsPool H' p → os.length = n → Q (.str (strO os)) H'
theorem ok_owners (T : Txt P K mg ζ) : Cal P w K mg base 2 "_law_owners" spOwners := by
  have c_draw : Cal P w K mg base 1 "_law_draw" spDraw := ok_draw T
  refine T.d_owners.cal sc_owners (fun vs H Q E h => ?_) (fun f cdv A outer s H vs Q E hr h => ⟨_, pss_cons (ps_set (i := 2) sc_owners.nd rfl (Or.inl rfl) (pe_str))
 (pss_cons (ps_for PassesOwn.never rfl (pi_range1 rfl T.n_range (pa_cons (pv 1) (pa_nil))) (pg_name (i := 3) sc_owners.nd rfl (Or.inl rfl))
 (pss_one (ps_set (i := 2) sc_owners.nd rfl (Or.inl rfl) (pe_op op_add_str (pv 2) (pe_ix ix_str pe_str (pe_c c_draw hr (by first | decide | omega) (by rfl) (pa_cons (pv 0) (pa_cons (pe_int) (pa_nil)))) (fun _ _ => rfl))))))
 (pss_one (ps_ret (pv 2)))), ?_⟩)
  · obtain ⟨p, n, rfl, _⟩ := h; rfl
  obtain ⟨p, n, rfl, hp, hn, kk⟩ := h
  refine ⟨_, rfl, _, rfl, by omega, by omega, ?_⟩
  refine for_range (lo := 0) (n := ((n : Nat) : Int).toNat) (fun i σ H' => Keep p H H' ∧ IsPool H' p ∧ ∃ (os : List Bool) (z : Option V), os.length = i ∧ σ = [some (.ref p), some (.int n), some (.str (strO os)), z]) ⟨Keep.refl, hp, [], none, rfl, rfl⟩ ?_ ?_
  · rintro i σ H2 hi ⟨k2, p2, os, z, hl, rfl⟩
    rw [Int.toNat_natCast] at hi
    have hle := strO_len os
    refine ⟨_, rfl, _, rfl, p, 2, rfl, p2, by decide, by decide, fun d H3 d0 d1 k3 p3 => ?_⟩
    obtain ⟨b, hb⟩ : ∃ b : Bool, atI ("AB" : Str).cps.toList d = some (ltr b) := by
      rcases (by omega : d = 0 ∨ d = 1) with q | q
      · subst q; exact ⟨true, rfl⟩
      · subst q; exact ⟨false, rfl⟩
    refine ⟨("AB" : Str), d, ltr b, rfl, rfl, (by show 2 ≤ sizeLine; decide), hb, strO os, ⟨#[ltr b]⟩, rfl, rfl, ?_, k2.trans k3, p3, os ++ [b], some (.int (0 + (i : Nat))), ?_, ?_⟩
    · rw [hle, sizeLine_eq]; show _ + 1 ≤ _; omega
    · rw [List.length_append, hl]; rfl
    · rw [strO_snoc]; rfl
  · rintro σ H2 ⟨k2, p2, os, z, hl, rfl⟩
    exact ⟨_, rfl, kk _ os k2 p2 (by rw [hl, Int.toNat_natCast])⟩
end
end LR
set_option Elab.async false
set_option maxRecDepth 100000
set_option linter.all false
set_option maxHeartbeats 4000000
namespace LR
open PySem PySem.Spec PyProof.Rows L2
section
variable {P : Program} {w : World} {K : PySem.W.Frag} {mg : Str → Option Value} {base : Heap} {ζ : Cs}
def fPool : Fs := fun as _ Q => ∃ (ns : List Int) (k : Nat), as = [.scr ns, .d (nat k)] ∧ Q .pool
theorem q_pool (T : Txt P K mg ζ) : CalX P w K mg base 1 "_law_pool" (spF K fPool) := (ok_pool T).toX.imp fun vs H Q E h => by
  obtain ⟨g, as, Ed, Qd, en, ia, ⟨ns, k, rfl, q⟩, kv, _⟩ := h
  obtain ⟨a, r, rfl, sc, ia⟩ := ia.s1
  obtain ⟨v, r, rfl, i1, ia⟩ := ia.d1
  cases ia.n0
  exact ⟨a, ns, k, by rw [i1.intE], sc.at_ en, fun p x y z t hp => kv (.ref p) .pool _ _ pool_le (en.ok.pool hp ⟨_, _, _, _, upd_same⟩) ⟨p, rfl, .inr rfl⟩ q⟩
def fDraw : Fs := fun as _ Q => ∃ m : Int, as = [.pool, .d (.int m)] ∧ 0 < m ∧ m < 1073741824 ∧ ∀ v : Int, 0 ≤ v → v < m → Q (.d (.int v))
theorem q_draw (T : Txt P K mg ζ) : CalX P w K mg base 1 "_law_draw" (spF K fDraw) := (ok_draw T).toX.imp fun vs H Q E h => by
  obtain ⟨g, as, Ed, Qd, en, ia, ⟨m, rfl, h0, h1, q⟩, kv, _⟩ := h
  obtain ⟨p, r, rfl, mp, ia⟩ := ia.p1
  obtain ⟨v, r, rfl, i1, ia⟩ := ia.d1
  cases ia.n0
  exact ⟨p, m, by rw [i1.intE], (en.ok.pl p mp).1, h0, h1, fun u H' u0 u1 kp hp => kv (.int u) (.d (.int u)) _ _ (grow_le en.ok) (en.ok.keep mp kp hp) (Is.int u) (q u u0 u1)⟩
end
end LR
set_option Elab.async false
set_option maxRecDepth 100000
set_option linter.all false
set_option maxHeartbeats 4000000
namespace LR
open PySem PySem.Spec PyProof.Rows L2
section
variable {P : Program} {w : World} {K : PySem.W.Frag} {mg : Str → Option Value} {base : Heap} {ζ : Cs}
def fOwners : Fs := fun as _ Q => ∃ n : Nat, as = [.pool, .d (nat n)] ∧ n ≤ 9 ∧ ∀ os : List Bool, os.length = n → Q (.d (.str (strO os)))
theorem q_owners (T : Txt P K mg ζ) : CalX P w K mg base 2 "_law_owners" (spF K fOwners) := (ok_owners T).toX.imp fun vs H Q E h => by
  obtain ⟨g, as, Ed, Qd, en, ia, ⟨n, rfl, h0, q⟩, kv, _⟩ := h
  obtain ⟨p, r, rfl, mp, ia⟩ := ia.p1
  obtain ⟨v, r, rfl, i1, ia⟩ := ia.d1
  cases ia.n0
  exact ⟨p, n, by rw [i1.intE], (en.ok.pl p mp).1, h0, fun H' os kp hp ho => kv (.str _) (.d (.str _)) _ _ (grow_le en.ok) (en.ok.keep mp kp hp) (Is.str _) (q os ho)⟩
end
end LR
set_option Elab.async false
set_option maxRecDepth 100000
set_option linter.all false
set_option maxHeartbeats 4000000
namespace LR
open PySem PySem.Spec PyProof.Rows L2
section
variable {P : Program} {w : World} {K : PySem.W.Frag} {mg : Str → Option Value} {base : Heap} {ζ : Cs}
def fWeb (C : Addr) : Fs := fun as _ Q => ∃ (h n : Int) (tp : Bool) (es : List (List Int)), as = [.d (.int h), .d (.int n), .d (edX tp es)] ∧ (h = 1 ∨ h = 2 ∨ h = 3) ∧ (1 ≤ n ∧ n ≤ 9) ∧ es.length ≤ 63 ∧ (∀ e ∈ es, EdgeOk h n e) ∧ es.Nodup ∧ ∀ ss, ss.Perm es → ss.Pairwise elt → Q (.d (webD C h n ss))
theorem made_rows {H : Hp} {y dx C : Addr} (hy : H y = none) (hd : H dx = none) : Same H (upd (upd H dx (.own y)) y (.ins C dx [])) := fun b o e => by
  rw [upd_ne (ne_of_none e hy), upd_ne (ne_of_none e hd)]; exact e
theorem mk_Web (T : Txt P K mg ζ) : ∀ {vs H Q E}, spF K (fWeb ζ.Web) vs H Q E → ∀ y dx, H y = none → H dx = none → dx ≠ y → spWeb ζ.Web (.ref y :: vs) (upd (upd H dx (.own y)) y (.ins ζ.Web dx [])) (fun v H2 => v = .non ∧ Q (.ref y) H2) E := fun {vs H Q E} h y dx hy hd ne => by
  obtain ⟨g, as, Ed, Qd, en, ia, ⟨h, n, tp, es, rfl, hh, hn, hl, hok, hnd, q⟩, kv, _⟩ := h
  obtain ⟨v1, r, rfl, i1, ia⟩ := ia.d1
  obtain ⟨v2, r, rfl, i2, ia⟩ := ia.d1
  obtain ⟨v3, r, rfl, i3, ia⟩ := ia.d1
  cases ia.n0
  obtain ⟨a, ts, rfl, ha, hr⟩ := edX_at i3
  have s0 := made_rows (C := ζ.Web) hy hd
  have sb := en.ok.sb
  refine ⟨y, a, dx, h, n, ts, es, by rw [i1.intE, i2.intE], upd_same, ?_, (hr.same sb).same s0, hh, hn, hl, hok, hnd, fun H' ss k W perm pw => ⟨rfl, ?_⟩⟩
  · rcases ha with ha | ha
    · exact .inl (s0 _ _ (sb _ _ ha))
    · exact .inr (s0 _ _ (sb _ _ ha))
  · have s1 := made_same hy hd k
    have w1 := en.ok.same s1
    have okS : ∀ e ∈ ss, EdgeOk h n e := fun e he => hok e (perm.mem_iff.mp he)
    refine kv _ (.d (webD ζ.Web h n ss)) H' _ (grow_le en.ok) w1 ?_ (q ss perm pw)
    exact webD_of w1 T.cl_Web (fun f hf => by
      simp only [List.mem_cons, List.not_mem_nil, or_false] at hf
      rcases hf with rfl | rfl | rfl
      · exact T.na_Web_height
      · exact T.na_Web_size
      · exact T.na_Web_edges) W (by rw [perm.length_eq]; omega) (ed3 okS)
end
end LR
set_option Elab.async false
set_option maxRecDepth 100000
set_option linter.all false
set_option maxHeartbeats 4000000
namespace LR
open PySem PySem.Spec PyProof.Rows L2
section
variable {P : Program} {w : World} {K : PySem.W.Frag} {mg : Str → Option Value} {base : Heap} {ζ : Cs}
def fGame (C : Addr) : Fs := fun as _ Q => ∃ (h : Int) (os : List Bool) (tp : Bool) (es : List (List Int)), as = [.d (.int h), .d (.str (strO os)), .d (edX tp es)] ∧ (h = 1 ∨ h = 2 ∨ h = 3) ∧ (1 ≤ os.length ∧ os.length ≤ 9) ∧ es.length ≤ 63 ∧ (∀ e ∈ es, EdgeOk h os.length e) ∧ es.Nodup ∧
  (∀ v : Nat, v < os.length → ∃ e ∈ es, e.head? = some (v : Int)) ∧ ∀ ss, ss.Perm es → ss.Pairwise elt → Q (.d (gameD C h os ss))
theorem naGame (T : Txt P K mg ζ) : ∀ f ∈ (["height", "size", "edges", "owners"] : List Str), NoAttr K ζ.Game f := fun f hf => by
  simp only [List.mem_cons, List.not_mem_nil, or_false] at hf
  rcases hf with rfl | rfl | rfl | rfl
  · exact T.na_Game_height
  · exact T.na_Game_size
  · exact T.na_Game_edges
  · exact T.na_Game_owners
theorem mk_Game (T : Txt P K mg ζ) : ∀ {vs H Q E}, spF K (fGame ζ.Game) vs H Q E → ∀ y dx, H y = none → H dx = none → dx ≠ y → spGame ζ.Game (.ref y :: vs) (upd (upd H dx (.own y)) y (.ins ζ.Game dx [])) (fun v H2 => v = .non ∧ Q (.ref y) H2) E := fun {vs H Q E} h y dx hy hd ne => by
  obtain ⟨g, as, Ed, Qd, en, ia, ⟨h, os, tp, es, rfl, hh, hn, hl, hok, hnd, hde, q⟩, kv, _⟩ := h
  obtain ⟨v1, r, rfl, i1, ia⟩ := ia.d1
  obtain ⟨v2, r, rfl, i2, ia⟩ := ia.d1
  obtain ⟨v3, r, rfl, i3, ia⟩ := ia.d1
  cases ia.n0
  obtain ⟨a, ts, rfl, ha, hr⟩ := edX_at i3
  have s0 := made_rows (C := ζ.Game) hy hd
  have sb := en.ok.sb
  refine ⟨y, a, dx, h, os, ts, es, by rw [i1.intE, i2.strE], upd_same, ?_, (hr.same sb).same s0, hh, hn, hl, hok, hnd, hde, fun H' ss k W perm pw => ⟨rfl, ?_⟩⟩
  · rcases ha with ha | ha
    · exact .inl (s0 _ _ (sb _ _ ha))
    · exact .inr (s0 _ _ (sb _ _ ha))
  · have s1 := made_same hy hd k
    have w1 := en.ok.same s1
    have okS : ∀ e ∈ ss, EdgeOk h os.length e := fun e he => hok e (perm.mem_iff.mp he)
    exact kv _ (.d (gameD ζ.Game h os ss)) H' _ (grow_le en.ok) w1 (gameD_of w1 T.cl_Game (naGame T) W (by rw [perm.length_eq]; omega) (ed3 okS)) (q ss perm pw)
end
end LR
set_option Elab.async false
set_option maxRecDepth 100000
set_option linter.all false
set_option maxHeartbeats 4000000
namespace LR
open PySem PySem.Spec PyProof.Rows L2
section
variable {P : Program} {w : World} {K : PySem.W.Frag} {mg : Str → Option Value} {base : Heap} {ζ : Cs}
theorem map_getD {α : Type} {f : α → D} {l : List α} {i : Nat} {x : D} (e : (l.map f)[i]? = some x) : ∃ y, l[i]? = some y ∧ x = f y := by
  rw [List.getElem?_map] at e
  cases h : l[i]? with
  | none => rw [h] at e; cases e
  | some y => rw [h] at e; cases e; exact ⟨y, rfl, rfl⟩
theorem rg_get {n i : Nat} {x : D} (e : (rgD 0 n)[i]? = some x) : i < n ∧ x = nat i := by
  unfold rgD at e
  obtain ⟨y, ey, rfl⟩ := map_getD e
  have hi := (List.getElem?_eq_some_iff.mp ey).1
  rw [List.length_range] at hi
  rw [List.getElem?_range hi] at ey
  cases ey
  exact ⟨hi, by show D.int _ = D.int _; rw [Int.zero_add]⟩
theorem rg_len {a : Int} {n : Nat} : (rgD a n).length = n := by unfold rgD; rw [List.length_map, List.length_range]
theorem intL_at {c : List Int} {j : Int} {k : Nat} {x : Int} (e : j = k) (h : c[k]? = some x) : ixD (intL c) (.int j) = some (.int x) := by
  subst e
  show atI _ _ = _
  exact atI_of (by rw [List.getElem?_map, h]; rfl)
theorem pseq_of {p : PF} {env : List Ev} {l : List D} (h : p env = some (.lst l)) : (ipSeq p).p env = some l := by
  show pseq p env = _
  unfold pseq
  rw [h]
end
end LR
set_option Elab.async false
set_option maxRecDepth 100000
set_option linter.all false
set_option maxHeartbeats 4000000
namespace LR
open PySem PySem.Spec PyProof.Rows L2
section
variable {P : Program} {w : World} {K : PySem.W.Frag} {mg : Str → Option Value} {base : Heap} {ζ : Cs}
/-- drawn levels -/
def fLevels : Fs := fun as _ Q => ∃ h lim : Int, as = [.pool, .d (.int h), .d (.int lim)] ∧ (1 ≤ h ∧ h ≤ 1000) ∧ (0 ≤ lim ∧ lim ≤ 1000) ∧ ∀ ls : List Int, (ls.length : Int) ≤ lim → (∀ l ∈ ls, 1 ≤ l ∧ l ≤ h) → Q (.fr (.ls (ls.map .int)))
theorem q_levels (T : Txt P K mg ζ) : CalX P w K mg base 2 "_law_levels" (spF K fLevels) := by
  have cx_draw : CalX P w K mg base 1 "_law_draw" (spF K fDraw) := q_draw T
  refine T.d_levels.dl sc_levels (by rintro as E Q ⟨h, lim, rfl, _⟩; rfl) (by decide) fun fa cdv A outer s H E hr => ⟨_, qss_cons (qs_setN (i := 3) false sc_levels.nd rfl (Or.inl rfl) (qe_cT cx_draw hr (by first | decide | omega) (takes_of rfl rfl rfl rfl) (by rfl) (qa_cons (qe_var (pv 0)) (qa_cons (qe_p (qp_op op_addA o_add (qp_var (pv 2)) (qp_int))) (qa_nil)))))
 (qss_one (qs_ret (qe_lc (own := [("index", 4)]) rfl sc_levels.nd (qi_range1 (by rfl) T.n_range (qe_var (pv 3))) (blkOk_by (N := N_levels) (sc := defScope s_levels) (by decide +kernel)) (fun _ _ _ _ _ => qg_name (pg_name (i := 4) sc_levels.nd rfl (Or.inl rfl))) (fun _ _ _ _ _ => qts_nil) (fun _ _ _ _ _ => qe_op op_addA o_add (qe_p (qp_int)) (qe_cT cx_draw hr (by first | decide | omega) takes0 (by rfl) (qa_cons (qe_var (pv 0)) (qa_cons (qe_var (pv 1)) (qa_nil)))))))), ?_⟩
  rintro as Ed Qd ⟨h, lim, rfl, ⟨h0, h1⟩, ⟨l0, l1⟩, q⟩
  refine ⟨_, rfl, lim + 1, rfl, by omega, by omega, fun n n0 n1 => ?_⟩
  refine ⟨rfl, ⟨by omega, by omega⟩, fun i acc => ∃ ls : List Int, acc = ls.map .int ∧ ls.length = i ∧ ∀ l ∈ ls, 1 ≤ l ∧ l ≤ h, ⟨[], rfl, rfl, fun _ h => by cases h⟩, ?_, ?_⟩
  · rintro i x acc ex ⟨ls, rfl, hl, hb⟩
    refine ⟨fun _ => ?_, fun c => by cases c⟩
    refine ⟨_, rfl, h, rfl, by omega, by omega, fun v v0 v1 => ⟨_, rfl, ls ++ [1 + v], by rw [List.map_append]; rfl, by rw [List.length_append, hl]; rfl, fun l hl => ?_⟩⟩
    rcases List.mem_append.mp hl with z | z
    · exact hb l z
    · rw [List.mem_singleton] at z; omega
  · rintro acc ⟨ls, rfl, hl, hb⟩
    rw [rg_len] at hl
    exact q ls (by omega) hb
end
end LR
set_option Elab.async false
set_option maxRecDepth 100000
set_option linter.all false
set_option maxHeartbeats 4000000
namespace LR
open PySem PySem.Spec PyProof.Rows L2
section
variable {P : Program} {w : World} {K : PySem.W.Frag} {mg : Str → Option Value} {base : Heap} {ζ : Cs}
/-- data of depth n at most, equal or not -/
def fSame (n : Nat) : Fs := fun as _ Q => ∃ x y : D, as = [.d x, .d y] ∧ okp n x = true ∧ okp n y = true ∧ ∀ b : Bool, (b = true ↔ x = y) → Q (.d (.bl b))
theorem q_same (T : Txt P K mg ζ) (n : Nat) : CalX P w K mg base (n + 3) "_law_same" (spF K (fSame n)) := (ok_same T (n + 1)).toX.imp fun vs H Q E h => by
  obtain ⟨g, as, Ed, Qd, en, ia, ⟨x, y, rfl, ox, oy, q⟩, kv, _⟩ := h
  obtain ⟨v, r, rfl, i1, ia⟩ := ia.d1
  obtain ⟨u, r, rfl, i2, ia⟩ := ia.d1
  cases ia.n0
  obtain ⟨a, rfl, _⟩ := okp_dt n x ox
  obtain ⟨d, rfl, hd⟩ := okp_dt n y oy
  refine ⟨v, u, a, d, rfl, dtF_at en.ok.sb a i1, dtF_at en.ok.sb d i2, by omega, fun b hb => ?_⟩
  exact kv (.bl b) (.d (.bl b)) H g .rfl en.ok (Is.bl b) (q b (hb.trans ⟨fun e => by rw [e], dtF_inj _ _⟩))
end
end LR
set_option Elab.async false
set_option maxRecDepth 100000
set_option linter.all false
set_option maxHeartbeats 4000000
namespace LR
open PySem PySem.Spec PyProof.Rows L2
section
variable {P : Program} {w : World} {K : PySem.W.Frag} {mg : Str → Option Value} {base : Heap} {ζ : Cs}
def fNum : Fs := fun as _ Q => ∃ i : Int, as = [.d (.int i)] ∧ Q (.d (.bl true))
theorem q_num (T : Txt P K mg ζ) : CalX P w K mg base 1 "_law_number" (spF K fNum) := by
  refine T.d_number.dl sc_number (by rintro as E Q ⟨i, rfl, _⟩; rfl) (by decide) fun fa cdv A outer s H E hr => ⟨_, qss_one (qs_ret (qe_p (qp_and (qp_callB (o_isi (T := "int") kitI) call_isi (by rfl) T.n_isinstance b_isinstance (qps_cons (qp_var (pv 0)) (qps_cons (qp_ty (pe_bltn (v := .ty "int") (by rfl) T.n_int b_int rfl)) (qps_nil)))) (qp_one (qp_not (qp_callB (o_isi (T := "bool") kitBo) call_isi (by rfl) T.n_isinstance b_isinstance (qps_cons (qp_var (pv 0)) (qps_cons (qp_ty (pe_bltn (v := .ty "bool") (by rfl) T.n_bool b_bool rfl)) (qps_nil))))))))), ?_⟩
  rintro as Ed Qd ⟨i, rfl, q⟩
  exact ⟨_, rfl, q⟩
end
end LR
set_option Elab.async false
set_option maxRecDepth 100000
set_option linter.all false
set_option maxHeartbeats 4000000
namespace LR
open PySem PySem.Spec PyProof.Rows L2
section
variable {P : Program} {w : World} {K : PySem.W.Frag} {mg : Str → Option Value} {base : Heap} {ζ : Cs}
def fRowX2 : Fs := fun as _ Q => ∃ ls : List Int, as = [.d (intL ls)] ∧ ls.length ≤ 1000 ∧ Q (.fr (.ls ((rowE ls).map intT)))
theorem q_rowX2 (T : Txt P K mg ζ) : CalX P w K mg base 1 "_law_row_edges" (spF K fRowX2) := by
  refine T.d_row_edges.dl sc_row_edges (by rintro as E Q ⟨ls, rfl, _⟩; rfl) (by decide) fun fa cdv A outer s H E hr => ⟨_, qss_cons (qs_setN (i := 1) true sc_row_edges.nd rfl (Or.inl rfl) (qe_lst (qa_nil)))
 (qss_cons (qs_for (vs := [2]) [2] (passes_of rfl) rfl (qi_range1 (by rfl) T.n_range (qe_p (qp_callB o_len c_len (by rfl) T.n_len b_len (qps_cons (qp_var (pv 0)) (qps_nil))))) (qg_name (pg_name (i := 2) sc_row_edges.nd rfl (Or.inl rfl)))
 (qss_cons (qs_own m_append (ps_expr (pe_bm PySem.F.plainAttrs_list PySem.F.slot_list_append PySem.F.type_list_append mt_append (pv 1) (qa_cons (qe_p (qp_tup (qps_cons (qp_var (pv 2)) (qps_cons (qp_op op_mulA o_mul (qp_int) (qp_ix ix_A o_ix (qp_var (pv 0)) (qp_var (pv 2)) (fun _ _ => rfl))) (qps_cons (qp_op op_addA o_add (qp_var (pv 2)) (qp_int)) (qps_nil)))))) (qa_nil)))))
 (qss_one (qs_own m_append (ps_expr (pe_bm PySem.F.plainAttrs_list PySem.F.slot_list_append PySem.F.type_list_append mt_append (pv 1) (qa_cons (qe_p (qp_tup (qps_cons (qp_op op_addA o_add (qp_var (pv 2)) (qp_int)) (qps_cons (qp_op op_sub o_sub (qp_op op_mulA o_mul (qp_int) (qp_ix ix_A o_ix (qp_var (pv 0)) (qp_var (pv 2)) (fun _ _ => rfl))) (qp_int)) (qps_cons (qp_var (pv 2)) (qps_nil)))))) (qa_nil))))))))
 (qss_cons (qs_if (qt_p (qpt_cmp (op_eqD hr.units) o_eq (qp_callB o_len c_len (by rfl) T.n_len b_len (qps_cons (qp_var (pv 0)) (qps_nil))) (qp_int) (nomark _)))
 (qss_one (qs_own m_append (ps_expr (pe_bm PySem.F.plainAttrs_list PySem.F.slot_list_append PySem.F.type_list_append mt_append (pv 1) (qa_cons (qe_p (qp_tup (qps_cons (qp_int) (qps_cons (qp_int) (qps_cons (qp_int) (qps_nil)))))) (qa_nil))))))
 (qss_nil))
 (qss_one (qs_retO (pv 1))))), ?_⟩
  rintro as Ed Qd ⟨ls, rfl, hl, q⟩
  have le : ((ls.map D.int).length : Int) = ls.length := by rw [List.length_map]
  refine ⟨_, rfl, Nat.zero_le _, ?_⟩
  refine ⟨_, pN1 rfl rfl, ⟨by omega, by omega⟩, fun i e => e = [.d (intL ls), .own (.ls ((rowP ls i).map intT)), .any], rfl, ?_, ?_⟩
  · rintro i x e ex rfl
    obtain ⟨hi, rfl⟩ := rg_get ex
    rw [le, Int.toNat_natCast] at hi
    have g := intL_at (c := ls) (j := (i : Nat)) (x := ls.getD i 0) rfl (by rw [getD_get hi, List.getElem?_eq_getElem hi])
    refine ⟨_, rfl, intT [(i : Int), 2 * ls.getD i 0, (i : Int) + 1], ptup3 rfl (p2_of rfl (p2_of rfl rfl g) rfl) (p2_of rfl rfl rfl), _, _, rfl, rfl, ?_, ?_⟩
    · rw [List.length_append, List.length_map, rowP_len]; show _ + 1 ≤ 100000; omega
    refine ⟨_, rfl, intT [(i : Int) + 1, 2 * ls.getD i 0 - 1, (i : Int)], ptup3 (p2_of rfl rfl rfl) (p2_of (p2_of rfl (p2_of rfl rfl g) rfl) rfl rfl) rfl, _, _, rfl, rfl, ?_, ?_⟩
    · rw [List.length_append, List.length_append, List.length_map, rowP_len]; show _ + 1 + 1 ≤ 100000; omega
    · show _ = [Ev.d (intL ls), .own (.ls ((rowP ls (i + 1)).map intT)), .any]
      rw [rowP_succ, List.map_append, List.map_append]; rfl
  · rintro e rfl
    rw [rg_len, le, Int.toNat_natCast]
    refine ⟨decide (((ls.map D.int).length : Int) = 0), p2_of (pN1 rfl rfl) rfl rfl, fun z => ?_, fun z => ?_⟩
    · have z := of_decide_eq_true z
      rw [le] at z
      have l0 : ls.length = 0 := by omega
      unfold rowE at q
      rw [if_pos l0] at q
      rw [l0]
      exact ⟨_, rfl, intT [0, 0, 0], ptup3 rfl rfl rfl, _, _, rfl, rfl, by show 1 ≤ 100000; decide, q⟩
    · have z := of_decide_eq_false z
      rw [le] at z
      unfold rowE at q
      rw [if_neg (by omega)] at q
      exact q
end
end LR
set_option Elab.async false
set_option maxRecDepth 100000
set_option linter.all false
set_option maxHeartbeats 4000000
namespace LR
open PySem PySem.Spec PyProof.Rows L2
section
variable {P : Program} {w : World} {K : PySem.W.Frag} {mg : Str → Option Value} {base : Heap} {ζ : Cs}
def fEdges : Fs := fun as _ Q => ∃ (h : Int) (n lim : Nat), as = [.pool, .d (.int h), .d (nat n), .d (nat lim)] ∧ (1 ≤ h ∧ h ≤ 3) ∧ (1 ≤ n ∧ n ≤ 9) ∧ (1 ≤ lim ∧ lim ≤ 7) ∧ ∀ fs, Eds h n fs → fs.length ≤ n * lim → (∀ v : Nat, v < n → ∃ e ∈ fs, es0 e = (v : Int)) → Q (.d (edL fs))
theorem q_edges (T : Txt P K mg ζ) : CalX P w K mg base 2 "_law_edges" (spF K fEdges) := by
  have cx_draw : CalX P w K mg base 1 "_law_draw" (spF K fDraw) := q_draw T
  refine T.d_edges.dl sc_edges (by rintro as E Q ⟨h, n, lim, rfl, _⟩; rfl) (by decide) fun fa cdv A outer s H E hr => ⟨_, qss_cons (qs_setN (i := 4) true sc_edges.nd rfl (Or.inl rfl) (qe_lst (qa_nil)))
 (qss_cons (qs_for (vs := [5]) [5, 6, 7] (passes_of rfl) rfl (qi_range1 (by rfl) T.n_range (qe_var (pv 2))) (qg_name (pg_name (i := 5) sc_edges.nd rfl (Or.inl rfl)))
 (qss_one (qs_for (vs := [6]) [6, 7] (passes_of rfl) rfl (qi_range1 (by rfl) T.n_range (qe_op op_addA o_add (qe_p (qp_int)) (qe_cT cx_draw hr (by first | decide | omega) (takes_of rfl rfl rfl rfl) (by rfl) (qa_cons (qe_var (pv 0)) (qa_cons (qe_var (pv 3)) (qa_nil)))))) (qg_name (pg_name (i := 6) sc_edges.nd rfl (Or.inl rfl)))
 (qss_cons (qs_setN (i := 7) false sc_edges.nd rfl (Or.inl rfl) (qe_tup (qa_cons (qe_var (pv 5)) (qa_cons (qe_cT cx_draw hr (by first | decide | omega) (takes_of rfl rfl rfl rfl) (by rfl) (qa_cons (qe_var (pv 0)) (qa_cons (qe_p (qp_op op_addA o_add (qp_op op_mulA o_mul (qp_int) (qp_var (pv 1))) (qp_int))) (qa_nil)))) (qa_cons (qe_cT cx_draw hr (by first | decide | omega) (takes_of rfl rfl rfl rfl) (by rfl) (qa_cons (qe_var (pv 0)) (qa_cons (qe_var (pv 2)) (qa_nil)))) (qa_nil))))))
 (qss_one (qs_if (qt_loan (qpt_cmp (op_notInA (Room.u65 hr)) o_nin (qp_var (pv 7)) (qp_var (pv 4)) rfl))
 (qss_one (qs_own m_append (ps_expr (pe_bm PySem.F.plainAttrs_list PySem.F.slot_list_append PySem.F.type_list_append mt_append (pv 4) (qa_cons (qe_var (pv 7)) (qa_nil))))))
 (qss_nil)))))))
 (qss_fz [4] (qss_one (qs_ret (qe_var (pv 4)))))), ?_⟩
  rintro as Ed Qd ⟨h, n, lim, rfl, ⟨h1, h3⟩, ⟨n1, n9⟩, ⟨l1, l7⟩, q⟩
  have nl : n * lim ≤ 63 := Nat.mul_le_mul n9 l7
  refine ⟨_, rfl, Nat.zero_le _, ?_⟩
  refine ⟨⟨by omega, by omega⟩, fun i e => ∃ fs, Eds h n fs ∧ fs.length ≤ i * lim ∧ (∀ v : Nat, v < i → ∃ e ∈ fs, es0 e = (v : Int)) ∧ e = [.pool, .d (.int h), .d (nat n), .d (nat lim), .own (.ls (fs.map intT)), .any, .any, .any], ⟨[], ⟨fun _ h => (by cases h), .nil⟩, by simp, fun v hv => by omega, rfl⟩, ?_, ?_⟩
  · rintro i x e ex ⟨fs, O, hl, hv, rfl⟩
    obtain ⟨hi, rfl⟩ := rg_get ex
    rw [Int.toNat_natCast] at hi
    have il : (i + 1) * lim = i * lim + lim := Nat.succ_mul i lim
    have ib : (i + 1) * lim ≤ n * lim := Nat.mul_le_mul_right lim hi
    refine ⟨_, rfl, lim, rfl, by omega, by omega, fun m m0 m1 => ⟨_, rfl, ⟨by omega, by omega⟩, fun j e => ∃ fs, Eds h n fs ∧ fs.length ≤ i * lim + j ∧ (∀ v : Nat, v < i → ∃ e ∈ fs, es0 e = (v : Int)) ∧ (0 < j → ∃ e ∈ fs, es0 e = (i : Int)) ∧ e = [.pool, .d (.int h), .d (nat n), .d (nat lim), .own (.ls (fs.map intT)), .d (nat i), .any, .any], ⟨fs, O, by omega, hv, fun h => by omega, rfl⟩, ?_, ?_⟩⟩
    · rintro j x e ex ⟨fs, O, hl, hv, hj0, rfl⟩
      obtain ⟨hj, rfl⟩ := rg_get ex
      refine ⟨_, p2_of (p2_of rfl rfl rfl) rfl rfl, 2 * h + 1, rfl, by omega, by omega, fun r r0 r1 => ⟨n, rfl, by omega, by omega, fun t t0 t1 => ?_⟩⟩
      refine ⟨_, rfl, by show 3 ≤ 1000; decide, ?_⟩
      have okE : EdgeOk h n [((i : Nat) : Int), r, t] := ⟨_, r, t, rfl, ⟨by omega, by omega⟩, ⟨r0, by omega⟩, ⟨t0, t1⟩⟩
      obtain ⟨b, eb, hb⟩ := nin_eds [((i : Nat) : Int), r, t] fs
      refine ⟨b, p2_of rfl rfl eb, fun z => ?_, fun z => ⟨fs, O, by omega, hv, fun _ => ?_, rfl⟩⟩
      · have nm := hb.mp z
        refine ⟨_, rfl, _, _, rfl, rfl, ?_, _, O.snoc okE nm, ?_, fun v hv2 => ?_, fun _ => ⟨_, List.mem_append_right _ (List.mem_singleton.mpr rfl), rfl⟩, ?_⟩
        · rw [List.length_append, List.length_map, List.length_singleton]; omega
        · rw [List.length_append, List.length_singleton]; omega
        · obtain ⟨e, he, h0⟩ := hv v hv2
          exact ⟨e, List.mem_append_left _ he, h0⟩
        · rw [List.map_append]; rfl
      · refine ⟨[((i : Nat) : Int), r, t], ?_, rfl⟩
        apply Classical.byContradiction
        intro c
        rw [hb.mpr c] at z; cases z
    · rintro e ⟨fs, O, hl, hv, hj0, rfl⟩
      rw [rg_len] at hl hj0
      refine ⟨fs, O, by omega, fun v hv2 => ?_, rfl⟩
      by_cases c : v < i
      · exact hv v c
      · have : v = i := by omega
        subst this
        exact hj0 (by omega)
  · rintro e ⟨fs, O, hl, hv, rfl⟩
    rw [rg_len, Int.toNat_natCast] at hl hv
    exact q fs O hl hv
def fGameL : Fs := fun as _ Q => ∃ (h : Int) (lim : Nat), as = [.pool, .d (.int h), .d (nat lim)] ∧ (1 ≤ h ∧ h ≤ 3) ∧ (1 ≤ lim ∧ lim ≤ 9) ∧ ∀ os es, GameIn h os es → os.length ≤ lim → es.length ≤ 3 * lim → Q (.fr (lesD os es))
theorem q_gameL (T : Txt P K mg ζ) : CalX P w K mg base 3 "_law_game" (spF K fGameL) := by
  have cx_draw : CalX P w K mg base 1 "_law_draw" (spF K fDraw) := q_draw T
  have cx_owners : CalX P w K mg base 2 "_law_owners" (spF K fOwners) := q_owners T
  have cx_edges : CalX P w K mg base 2 "_law_edges" (spF K fEdges) := q_edges T
  have cx_levels : CalX P w K mg base 2 "_law_levels" (spF K fLevels) := q_levels T
  have cx_row_edges : CalX P w K mg base 1 "_law_row_edges" (spF K fRowX2) := q_rowX2 T
  refine T.d_game.dl sc_game (by rintro as E Q ⟨h, lim, rfl, _⟩; rfl) (by decide) fun fa cdv A outer s H E hr => ⟨_, qss_cons (qs_if (qt_cmp (op_eqD hr.units) o_eq (qe_cT cx_draw hr (by first | decide | omega) (takes_of rfl rfl rfl rfl) (by rfl) (qa_cons (qe_var (pv 0)) (qa_cons (qe_p (qp_int)) (qa_nil)))) (qe_p (qp_int)) (nomark _))
 (qss_cons (qs_setN (i := 3) false sc_game.nd rfl (Or.inl rfl) (qe_op op_addA o_add (qe_p (qp_int)) (qe_cT cx_draw hr (by first | decide | omega) (takes_of rfl rfl rfl rfl) (by rfl) (qa_cons (qe_var (pv 0)) (qa_cons (qe_var (pv 2)) (qa_nil))))))
 (qss_cons (qs_setN (i := 4) false sc_game.nd rfl (Or.inl rfl) (qe_cT cx_owners hr (by first | decide | omega) (takes_of rfl rfl rfl rfl) (by rfl) (qa_cons (qe_var (pv 0)) (qa_cons (qe_var (pv 3)) (qa_nil)))))
 (qss_one (qs_ret (qe_lst (qa_cons (qe_var (pv 4)) (qa_cons (qe_cT cx_edges hr (by first | decide | omega) (takes_of rfl rfl rfl rfl) (by rfl) (qa_cons (qe_var (pv 0)) (qa_cons (qe_var (pv 1)) (qa_cons (qe_var (pv 3)) (qa_cons (qe_p (qp_int)) (qa_nil)))))) (qa_nil))))))))
 (qss_nil))
 (qss_cons (qs_setN (i := 5) false sc_game.nd rfl (Or.inl rfl) (qe_cT cx_levels hr (by first | decide | omega) (takes_of rfl rfl rfl rfl) (by rfl) (qa_cons (qe_var (pv 0)) (qa_cons (qe_var (pv 1)) (qa_cons (qe_p (qp_op op_sub o_sub (qp_var (pv 2)) (qp_int))) (qa_nil))))))
 (qss_cons (qs_setN (i := 3) false sc_game.nd rfl (Or.inl rfl) (qe_p (qp_op op_addA o_add (qp_callB o_len c_len (by rfl) T.n_len b_len (qps_cons (qp_var (pv 5)) (qps_nil))) (qp_int))))
 (qss_cons (qs_setN (i := 6) true sc_game.nd rfl (Or.inl rfl) (qe_cT cx_row_edges hr (by first | decide | omega) (takes_of rfl rfl rfl rfl) (by rfl) (qa_cons (qe_var (pv 5)) (qa_nil))))
 (qss_cons (qs_setN (i := 4) false sc_game.nd rfl (Or.inl rfl) (qe_p (qp_str)))
 (qss_cut (qs_for (vs := [7]) [7] (passes_of rfl) rfl (qi_range1 (by rfl) T.n_range (qe_var (pv 3))) (qg_name (pg_name (i := 7) sc_game.nd rfl (Or.inl rfl)))
 (qss_one (qs_setN (i := 4) false sc_game.nd rfl (Or.inl rfl) (qe_op op_addA o_add (qe_var (pv 4)) (qe_ix ix_A o_ix (qe_p (qp_str)) (qe_cT cx_draw hr (by first | decide | omega) (takes_of rfl rfl rfl rfl) (by rfl) (qa_cons (qe_var (pv 0)) (qa_cons (qe_p (qp_int)) (qa_nil)))) (fun _ _ => rfl))))))
 (qss_cut (qs_for (vs := [7]) [7, 8] (passes_of rfl) rfl (qi_range1 (by rfl) T.n_range (qe_cT cx_draw hr (by first | decide | omega) (takes_of rfl rfl rfl rfl) (by rfl) (qa_cons (qe_var (pv 0)) (qa_cons (qe_p (qp_int)) (qa_nil))))) (qg_name (pg_name (i := 7) sc_game.nd rfl (Or.inl rfl)))
 (qss_cons (qs_setN (i := 8) false sc_game.nd rfl (Or.inl rfl) (qe_tup (qa_cons (qe_cT cx_draw hr (by first | decide | omega) (takes_of rfl rfl rfl rfl) (by rfl) (qa_cons (qe_var (pv 0)) (qa_cons (qe_var (pv 3)) (qa_nil)))) (qa_cons (qe_cT cx_draw hr (by first | decide | omega) (takes_of rfl rfl rfl rfl) (by rfl) (qa_cons (qe_var (pv 0)) (qa_cons (qe_p (qp_op op_addA o_add (qp_op op_mulA o_mul (qp_int) (qp_var (pv 1))) (qp_int))) (qa_nil)))) (qa_cons (qe_cT cx_draw hr (by first | decide | omega) (takes_of rfl rfl rfl rfl) (by rfl) (qa_cons (qe_var (pv 0)) (qa_cons (qe_var (pv 3)) (qa_nil)))) (qa_nil))))))
 (qss_one (qs_if (qt_loan (qpt_cmp (op_notInA (Room.u65 hr)) o_nin (qp_var (pv 8)) (qp_var (pv 6)) rfl))
 (qss_one (qs_own m_append (ps_expr (pe_bm PySem.F.plainAttrs_list PySem.F.slot_list_append PySem.F.type_list_append mt_append (pv 6) (qa_cons (qe_var (pv 8)) (qa_nil))))))
 (qss_nil)))))
 (qss_fz [6] (qss_one (qs_ret (qe_lst (qa_cons (qe_var (pv 4)) (qa_cons (qe_var (pv 6)) (qa_nil))))))))))))), ?_⟩
  rintro as Ed Qd ⟨h, lim, rfl, hh, hl, q⟩
  refine ⟨_, rfl, 2, rfl, by decide, by decide, fun v v0 v1 => ⟨_, rfl, _, rfl, _, rfl, fun z => ?_, fun z => ?_⟩⟩
  · refine ⟨_, rfl, lim, rfl, by omega, by omega, fun u u0 u1 => ⟨_, rfl, ?_⟩⟩
    obtain ⟨n, en⟩ : ∃ n : Nat, 1 + u = (n : Int) := ⟨(1 + u).toNat, by omega⟩
    rw [en]
    refine ⟨n, rfl, by omega, fun os ol => ?_⟩
    refine ⟨_, rfl, h, n, 3, rfl, hh, by omega, by decide, fun fs O fl fv => ?_⟩
    refine ⟨_, rfl, by show 2 ≤ 1000; decide, q os fs ⟨by omega, by rw [ol]; exact O, by omega, by rw [ol]; exact fv⟩ (by omega) (by omega)⟩
  · refine ⟨_, p2_of rfl rfl rfl, h, (lim : Int) - 1, rfl, by omega, by omega, fun ls hl hb => ?_⟩
    have le : ((ls.map D.int).length : Int) = ls.length := by rw [List.length_map]
    refine ⟨nat (ls.length + 1), p2_of (pN1 rfl rfl) rfl (some_nat (by rw [le]; omega)), ?_⟩
    refine ⟨ls, rfl, by omega, ?_⟩
    have nl : ((ls.length + 1 : Nat) : Int).toNat = ls.length + 1 := Int.toNat_natCast _
    have RO := rowE_eds hh.1 hb
    have RL := rowE_len ls
    have RV := rowE_out ls
    generalize rowE ls = rs at RO RL RV
    refine ⟨_, rfl, ?_⟩
    refine ⟨fun e => ∃ os : List Bool, os.length = ls.length + 1 ∧ e = [.pool, .d (.int h), .d (nat lim), .d (nat (ls.length + 1)), .d (.str (strO os)), .d (intL ls), .own (.ls (rs.map intT)), .any, .any], ?_, ?_⟩
    · refine ⟨⟨by omega, by omega⟩, fun i e => ∃ os : List Bool, os.length = i ∧ e = [.pool, .d (.int h), .d (nat lim), .d (nat (ls.length + 1)), .d (.str (strO os)), .d (intL ls), .own (.ls (rs.map intT)), .any, .any], ⟨[], rfl, rfl⟩, ?_, ?_⟩
      · rintro i x e ex ⟨os, ol, rfl⟩
        obtain ⟨hi, rfl⟩ := rg_get ex
        refine ⟨_, rfl, _, rfl, 4, rfl, by decide, by decide, fun k k0 k1 => ?_⟩
        have kk : k = 0 ∨ k = 1 ∨ k = 2 ∨ k = 3 := by omega
        obtain ⟨b, eb⟩ : ∃ b : Bool, ixD (.str (Str.ofString "BBBA")) (.int k) = some (.str ⟨#[ltr b]⟩) := by
          rcases kk with rfl | rfl | rfl | rfl
          · exact ⟨false, strIx (k := 0) (l := [66, 66, 66, 65]) (by decide +kernel) (by decide) rfl⟩
          · exact ⟨false, strIx (k := 1) (l := [66, 66, 66, 65]) (by decide +kernel) (by decide) rfl⟩
          · exact ⟨false, strIx (k := 2) (l := [66, 66, 66, 65]) (by decide +kernel) (by decide) rfl⟩
          · exact ⟨true, strIx (k := 3) (l := [66, 66, 66, 65]) (by decide +kernel) (by decide) rfl⟩
        refine ⟨_, eb, .str (strO (os ++ [b])), ?_, os ++ [b], by rw [List.length_append, ol]; rfl, rfl⟩
        show (if (strO os).length + _ ≤ 100000 then some (D.str (strO os ++ _)) else none) = _
        rw [if_pos (by rw [strO_len]; show _ + 1 ≤ _; omega), strO_snoc]
      · rintro e ⟨os, ol, rfl⟩
        rw [rg_len, nl] at ol
        exact ⟨os, ol, rfl⟩
    rintro e ⟨os, ol, rfl⟩
    refine ⟨fun e => ∃ fs, Eds h (ls.length + 1 : Nat) fs ∧ fs.length ≤ 2 * ls.length + 3 ∧ (∀ v : Nat, v < ls.length + 1 → ∃ e ∈ fs, es0 e = (v : Int)) ∧ e = [.pool, .d (.int h), .d (nat lim), .d (nat (ls.length + 1)), .d (.str (strO os)), .d (intL ls), .own (.ls (fs.map intT)), .any, .any], ?_, ?_⟩
    · refine ⟨_, rfl, 3, rfl, by decide, by decide, fun k k0 k1 => ?_⟩
      refine ⟨⟨by omega, by omega⟩, fun i e => ∃ fs, Eds h (ls.length + 1 : Nat) fs ∧ fs.length ≤ 2 * ls.length + 1 + i ∧ (∀ v : Nat, v < ls.length + 1 → ∃ e ∈ fs, es0 e = (v : Int)) ∧ e = [.pool, .d (.int h), .d (nat lim), .d (nat (ls.length + 1)), .d (.str (strO os)), .d (intL ls), .own (.ls (fs.map intT)), .any, .any], ⟨rs, RO, by omega, RV, rfl⟩, ?_, ?_⟩
      · rintro i x e ex ⟨fs, O, fl, fv, rfl⟩
        obtain ⟨hi, rfl⟩ := rg_get ex
        refine ⟨_, rfl, by omega, by omega, fun s s0 s1 => ⟨_, p2_of (p2_of rfl rfl rfl) rfl rfl, 2 * h + 1, rfl, by omega, by omega, fun r r0 r1 => ⟨_, rfl, by omega, by omega, fun t t0 t1 => ?_⟩⟩⟩
        refine ⟨_, rfl, by show 3 ≤ 1000; decide, ?_⟩
        have okE : EdgeOk h (ls.length + 1 : Nat) [s, r, t] := ⟨s, r, t, rfl, ⟨s0, s1⟩, ⟨r0, by omega⟩, ⟨t0, t1⟩⟩
        obtain ⟨b, eb, hb⟩ := nin_eds [s, r, t] fs
        refine ⟨b, p2_of rfl rfl eb, fun z => ?_, fun z => ⟨fs, O, by omega, fv, rfl⟩⟩
        refine ⟨_, rfl, _, _, rfl, rfl, ?_, _, O.snoc okE (hb.mp z), ?_, fun v hv => ?_, ?_⟩
        · rw [List.length_append, List.length_map, List.length_singleton]; omega
        · rw [List.length_append, List.length_singleton]; omega
        · obtain ⟨e, he, h0⟩ := fv v hv
          exact ⟨e, List.mem_append_left _ he, h0⟩
        · rw [List.map_append]; rfl
      · rintro e ⟨fs, O, fl, fv, rfl⟩
        rw [rg_len] at fl
        exact ⟨fs, O, by omega, fv, rfl⟩
    rintro e ⟨fs, O, fl, fv, rfl⟩
    exact ⟨_, rfl, by show 2 ≤ 1000; decide, q os fs ⟨by omega, by rw [ol]; exact O, by omega, by rw [ol]; exact fv⟩ (by omega) (by omega)⟩
end
end LR
set_option Elab.async false
set_option maxRecDepth 100000
set_option linter.all false
set_option maxHeartbeats 4000000
namespace LR
open PySem PySem.Spec PyProof.Rows L2
section
variable {P : Program} {w : World} {K : PySem.W.Frag} {mg : Str → Option Value} {base : Heap} {ζ : Cs}
def fGapX : Fs := fun as _ Q => ∃ (tp : Bool) (ls : List Int) (i j : Nat), as = [.d (seqX tp ls), .d (nat i), .d (nat j)] ∧ (∀ l ∈ ls, 1 ≤ l) ∧ ls.length ≤ 1000 ∧ i ≤ ls.length ∧ j ≤ ls.length ∧ Q (.d (.int (gapI ls i j)))
theorem q_gapX (T : Txt P K mg ζ) : CalX P w K mg base 1 "_law_gap" (spF K fGapX) := by
  refine T.d_gap.dl sc_gap (by rintro as E Q ⟨tp, ls, i, j, rfl, _⟩; rfl) (by decide) fun fa cdv A outer s H E hr => ⟨_, qss_cons (qs_setN (i := 3) false sc_gap.nd rfl (Or.inl rfl) (qe_p (qp_int)))
 (qss_cons (qs_for (vs := [4]) [4] (passes_of rfl) rfl (qi_range2 (by rfl) T.n_range (qe_p (qp_callB o_min2 (call_min2 rfl) (by rfl) T.n_min b_min (qps_cons (qp_var (pv 1)) (qps_cons (qp_var (pv 2)) (qps_nil))))) (qe_p (qp_callB o_max2 (call_max2 rfl) (by rfl) T.n_max b_max (qps_cons (qp_var (pv 1)) (qps_cons (qp_var (pv 2)) (qps_nil)))))) (qg_name (pg_name (i := 4) sc_gap.nd rfl (Or.inl rfl)))
 (qss_one (qs_setN (i := 3) false sc_gap.nd rfl (Or.inl rfl) (qe_p (qp_callB o_max2 (call_max2 rfl) (by rfl) T.n_max b_max (qps_cons (qp_var (pv 3)) (qps_cons (qp_ix ix_A o_ix (qp_var (pv 0)) (qp_var (pv 4)) (fun _ _ => rfl)) (qps_nil))))))))
 (qss_one (qs_ret (qe_var (pv 3))))), ?_⟩
  rintro as Ed Qd ⟨tp, ls, i, j, rfl, hb, hl, hi, hj, q⟩
  have e1 : (if (j : Int) < i then (j : Int) else i) = (min i j : Nat) := by split <;> omega
  have e2 : (if (j : Int) > i then (j : Int) else i) = (max i j : Nat) := by split <;> omega
  refine ⟨_, rfl, .int (min i j : Nat), by show some (D.int (if (j : Int) < i then (j : Int) else i)) = _; rw [e1], .int (max i j : Nat), by show some (D.int (if (j : Int) > i then (j : Int) else i)) = _; rw [e2], ?_⟩
  refine ⟨⟨by omega, by omega, by omega, by omega, by omega⟩, fun k e => ∃ g, e = [.d (seqX tp ls), .d (nat i), .d (nat j), .d (.int g), .any] ∧ IsGap ls (min i j) (min i j + k) g, ⟨0, rfl, Int.le_refl _, fun m z a b => by omega, .inl rfl⟩, ?_, ?_⟩
  · rintro k x e ex ⟨g, rfl, g0, g1, g2⟩
    obtain ⟨y, ey, rfl⟩ := map_getD ex
    have hy := (List.getElem?_eq_some_iff.mp ey).1
    rw [List.length_range] at hy
    rw [List.getElem?_range hy] at ey
    cases ey
    have hlt : min i j + k < ls.length := by omega
    have hv := List.getElem?_eq_getElem hlt
    refine ⟨_, pN2 rfl (p2_of rfl rfl (seqX_at (k := min i j + k) hv)) rfl, _, rfl, ?_, fun m z a b e => ?_, ?_⟩
    · split <;> omega
    · by_cases c : m < min i j + k
      · have := g1 m z a c e; split <;> omega
      · have : m = min i j + k := by omega
        subst this
        rw [hv] at e; cases e
        split <;> omega
    · split
      · exact .inr ⟨_, by omega, by omega, hv⟩
      · rcases g2 with g2 | ⟨m, a, b, c⟩
        · exact .inl g2
        · exact .inr ⟨m, a, by omega, c⟩
  · rintro e ⟨g, rfl, hg⟩
    rw [rg_len, show min i j + ((max i j : Nat) - (min i j : Nat) : Int).toNat = max i j by omega] at hg
    have e3 : gapI ls i j = g := gapI_of hb (by omega) (by omega) hg
    rw [e3] at q
    exact q
def fAllowsX : Fs := fun as _ Q => ∃ (tp : Bool) (ls : List Int) (s t : Nat) (r : Int), as = [.d (seqX tp ls), .d (nat s), .d (.int r), .d (nat t)] ∧ (∀ l ∈ ls, 1 ≤ l) ∧ ls.length ≤ 1000 ∧ s ≤ ls.length ∧ t ≤ ls.length ∧ 0 ≤ r ∧ Q (.d (.bl (alw ls s r t)))
theorem q_allowsX (T : Txt P K mg ζ) : CalX P w K mg base 2 "_law_allows" (spF K fAllowsX) := by
  have cx_gap : CalX P w K mg base 1 "_law_gap" (spF K fGapX) := q_gapX T
  refine T.d_allows.dl sc_allows (by rintro as E Q ⟨tp, ls, s, t, r, rfl, _⟩; rfl) (by decide) fun fa cdv A outer s H E hr => ⟨_, qss_cons (qs_setN (i := 4) false sc_allows.nd rfl (Or.inl rfl) (qe_cT cx_gap hr (by first | decide | omega) (takes_of rfl rfl rfl rfl) (by rfl) (qa_cons (qe_var (pv 0)) (qa_cons (qe_var (pv 1)) (qa_cons (qe_var (pv 3)) (qa_nil))))))
 (qss_cons (qs_if (qt_p (qpt_cmp (op_eqD hr.units) o_eq (qp_op op_mod o_mod (qp_callTy o_int call_int1 (by rfl) T.n_int b_int (qps_cons (qp_var (pv 2)) (qps_nil))) (qp_int)) (qp_int) (nomark _)))
 (qss_one (qs_ret (qe_p (qp_or (qp_cmp op_ge o_cmp (qp_var (pv 1)) (qp_var (pv 3)) (nomark _)) (qp_one (qp_cmp op_le o_cmp (qp_op op_mulA o_mul (qp_int) (qp_var (pv 4))) (qp_var (pv 2)) (nomark _)))))))
 (qss_nil))
 (qss_one (qs_ret (qe_p (qp_and (qp_cmp op_gt o_cmp (qp_var (pv 1)) (qp_var (pv 3)) (nomark _)) (qp_one (qp_cmp op_gt o_cmp (qp_op op_mulA o_mul (qp_int) (qp_var (pv 4))) (qp_var (pv 2)) (nomark _)))))))), ?_⟩
  rintro as Ed Qd ⟨tp, ls, s, t, r, rfl, hb, hl, hs, ht, r0, q⟩
  have ag := alw_gap (ls := ls) (u := s) (p := r) (v := t) (g := gapI ls s t) (by omega) (by omega) r0 (isGap_gapI hb (by omega) (by omega))
  rw [ag] at q
  refine ⟨tp, ls, s, t, rfl, hb, hl, hs, ht, ?_⟩
  refine ⟨decide (r % 2 = 0), p2_of (p2_of (pN1 rfl rfl) rfl rfl) rfl rfl, fun z => ?_, fun z => ?_⟩
  · rw [if_pos (of_decide_eq_true z)] at q
    exact ⟨_, por_b rfl (p2_of (p2_of rfl rfl rfl) rfl rfl), q⟩
  · rw [if_neg (of_decide_eq_false z)] at q
    exact ⟨_, pand_b rfl (p2_of (p2_of rfl rfl rfl) rfl rfl), q⟩
end
end LR
set_option Elab.async false
set_option maxRecDepth 100000
set_option linter.all false
set_option maxHeartbeats 4000000
namespace LR
open PySem PySem.Spec PyProof.Rows L2
section
variable {P : Program} {w : World} {K : PySem.W.Frag} {mg : Str → Option Value} {base : Heap} {ζ : Cs}
def fFitsL : Fs := fun as _ Q => ∃ (h : Int) (os : List Bool) (es : List (List Int)) (tp : Bool) (ls : List Int) (φ : Plc) (v : Nat), as = [.d (.str (strO os)), .d (edL es), .d (seqX tp ls), .d (plcD φ), .d (nat v)] ∧ (∀ e ∈ es, EdgeOk h os.length e) ∧ (∀ l ∈ ls, 1 ≤ l) ∧ ls.length ≤ 1000 ∧ os.length ≤ 9 ∧ PlcOk os.length ls.length φ ∧ v < os.length ∧ Q (.d (.bl (fitsB ls os es φ v)))
theorem q_fitsL (T : Txt P K mg ζ) : CalX P w K mg base 3 "_law_fits" (spF K fFitsL) := by
  have cx_allows : CalX P w K mg base 2 "_law_allows" (spF K fAllowsX) := q_allowsX T
  refine T.d_fits.dl sc_fits (by rintro as E Q ⟨h, os, es, tp, ls, φ, v, rfl, _⟩; rfl) (by decide) fun fa cdv A outer s H E hr => ⟨_, qss_cons (qs_if (qt_p (qpt_cmp op_isN o_isN (qp_ix ix_A o_ix (qp_var (pv 3)) (qp_var (pv 4)) (fun _ _ => rfl)) (qp_non) (nomark _)))
 (qss_one (qs_ret (qe_p (qp_bl))))
 (qss_nil))
 (qss_cons (qs_setN (i := 5) false sc_fits.nd rfl (Or.inl rfl) (qe_p (qp_int)))
 (qss_cons (qs_setN (i := 6) false sc_fits.nd rfl (Or.inl rfl) (qe_p (qp_int)))
 (qss_cons (qs_for (vs := [7]) [7, 8] (passes_of rfl) rfl (qi_seq (qe_var (pv 1))) (qg_name (pg_name (i := 7) sc_fits.nd rfl (Or.inl rfl)))
 (qss_one (qs_if (qt_p (qpt_cmp (op_eqD hr.units) o_eq (qp_ix ix_A o_ix (qp_var (pv 7)) (qp_int) (fun _ _ => rfl)) (qp_var (pv 4)) (nomark _)))
 (qss_cons (qs_setN (i := 5) false sc_fits.nd rfl (Or.inl rfl) (qe_p (qp_op op_addA o_add (qp_var (pv 5)) (qp_int))))
 (qss_cons (qs_setN (i := 8) false sc_fits.nd rfl (Or.inl rfl) (qe_p (qp_ix ix_A o_ix (qp_var (pv 3)) (qp_ix ix_A o_ix (qp_var (pv 7)) (qp_int) (fun _ _ => rfl)) (fun _ _ => rfl))))
 (qss_one (qs_if (QW.qt (qw_and (qt_p (qpt_cmp op_notN o_notN (qp_var (pv 8)) (qp_non) (nomark _))) (qw_and1 (qt_truth (qe_cT cx_allows hr (by first | decide | omega) (takes_of rfl rfl rfl rfl) (by rfl) (qa_cons (qe_var (pv 2)) (qa_cons (qe_p (qp_ix ix_A o_ix (qp_var (pv 3)) (qp_var (pv 4)) (fun _ _ => rfl))) (qa_cons (qe_p (qp_ix ix_A o_ix (qp_var (pv 7)) (qp_int) (fun _ _ => rfl))) (qa_cons (qe_var (pv 8)) (qa_nil))))))))))
 (qss_one (qs_setN (i := 6) false sc_fits.nd rfl (Or.inl rfl) (qe_p (qp_op op_addA o_add (qp_var (pv 6)) (qp_int)))))
 (qss_nil)))))
 (qss_nil))))
 (qss_cons (qs_if (qt_p (qpt_cmp (op_eqD hr.units) o_eq (qp_ix ix_A o_ix (qp_var (pv 0)) (qp_var (pv 4)) (fun _ _ => rfl)) (qp_str) (nomark _)))
 (qss_one (qs_ret (qe_p (qp_cmp op_gt o_cmp (qp_var (pv 6)) (qp_int) (nomark _)))))
 (qss_nil))
 (qss_one (qs_ret (qe_p (qp_cmp (op_eqD hr.units) o_eq (qp_var (pv 6)) (qp_var (pv 5)) (nomark _))))))))), ?_⟩
  rintro as Ed Qd ⟨h, os, es, tp, ls, φ, v, rfl, hok, lb, l1, n9, P0, hv, q⟩
  have pl := P0.len
  refine ⟨_, p2_of (p2_of rfl rfl (plc_at (φ := φ) (v := v) (by omega))) rfl (show isND (optN (φ.getD v none)) .non = some (.bl (decide (φ.getD v none = none))) from by cases φ.getD v none <;> rfl), fun z => ?_, fun z => ?_⟩
  · have z := of_decide_eq_true z
    have : fitsB ls os es φ v = true := by unfold fitsB; rw [z]
    rw [this] at q
    exact ⟨_, rfl, q⟩
  have z := of_decide_eq_false z
  obtain ⟨u, c1⟩ := Option.ne_none_iff_exists'.mp z
  have hu := P0.at_le c1
  have e1 : fitsB ls os es φ v = goodAt ls os es φ v u := by unfold fitsB; rw [c1]
  rw [e1] at q
  refine ⟨_, rfl, _, rfl, ?_⟩
  refine ⟨fun i e => e = [.d (.str (strO os)), .d (edL es), .d (seqX tp ls), .d (plcD φ), .d (nat v), .d (nat (outs (es.take i) v).length), .d (nat ((outs (es.take i) v).filter (okAt ls φ u)).length), .any, .any], rfl, ?_, ?_⟩
  · rintro i x e ex rfl
    obtain ⟨ed, ee, rfl⟩ := map_getD ex
    have em := List.mem_of_getElem? ee
    have oe := hok ed em
    have et : outs (es.take (i + 1)) v = outs (es.take i) v ++ if es0 ed = (v : Int) then [ed] else [] := by
      unfold outs
      rw [List.take_succ, ee, List.filter_append]
      congr 1
      by_cases c : es0 ed = (v : Int) <;> simp [c]
    refine ⟨decide (es0 ed = (v : Int)), p2_of (p2_of rfl rfl (ed_at0 oe)) rfl rfl, fun c => ?_, fun c => ?_⟩
    · have c := of_decide_eq_true c
      rw [if_pos c] at et
      obtain ⟨s, r, t, rfl, hs, hr, ht⟩ := id oe
      obtain ⟨t, rfl⟩ : ∃ a : Nat, t = (a : Int) := ⟨t.toNat, by omega⟩
      have e2 : okAt ls φ u [s, r, (t : Int)] = match φ.getD t none with | none => false | some w => alw ls u r w := rfl
      refine ⟨_, p2_of rfl rfl rfl, _, p2_of rfl (p2_of rfl rfl (ed_at2 oe)) (plc_at (φ := φ) (v := t) (by omega)), ?_⟩
      have fin : ∀ b, okAt ls φ u [s, r, (t : Int)] = b → (nat ((outs (es.take (i + 1)) v).filter (okAt ls φ u)).length) = nat (((outs (es.take i) v).filter (okAt ls φ u)).length + if b = true then 1 else 0) := fun b hb => by
        rw [et, List.filter_append, List.length_append]
        cases b <;> simp [hb]
      have cnt : nat (outs (es.take (i + 1)) v).length = D.int (((outs (es.take i) v).length : Int) + 1) := by
        rw [et, List.length_append]; rfl
      cases c2 : φ.getD t none with
      | none =>
        rw [c2] at e2
        refine ⟨false, rfl, (fun z => by cases z), fun _ => ⟨(fun z => by cases z), fun _ => ?_⟩⟩
        show _ = [_, _, _, _, _, Ev.d (nat (outs (es.take (i + 1)) v).length), Ev.d (nat ((outs (es.take (i + 1)) v).filter (okAt ls φ u)).length), _, _]
        rw [fin false e2, cnt]; rfl
      | some w =>
        rw [c2] at e2
        have hw := P0.at_le c2
        refine ⟨true, rfl, fun _ => ?_, fun z => by cases z⟩
        refine ⟨nat u, p2_of rfl rfl (by rw [plc_at (by omega), c1]; rfl), _, p2_of rfl rfl (ed_at1 oe), tp, ls, u, w, r, rfl, lb, l1, hu.2, hw.2, hr.1, _, rfl, fun c3 => ?_, fun c3 => ?_⟩
        · refine ⟨_, p2_of rfl rfl rfl, ?_⟩
          show _ = [_, _, _, _, _, Ev.d (nat (outs (es.take (i + 1)) v).length), Ev.d (nat ((outs (es.take (i + 1)) v).filter (okAt ls φ u)).length), _, _]
          rw [fin true (e2.trans c3), cnt]; rfl
        · show _ = [_, _, _, _, _, Ev.d (nat (outs (es.take (i + 1)) v).length), Ev.d (nat ((outs (es.take (i + 1)) v).filter (okAt ls φ u)).length), _, _]
          rw [fin false (e2.trans c3), cnt]; rfl
    · have c := of_decide_eq_false c
      rw [if_neg c, List.append_nil] at et
      show _ = [_, _, _, _, _, Ev.d (nat (outs (es.take (i + 1)) v).length), Ev.d (nat ((outs (es.take (i + 1)) v).filter (okAt ls φ u)).length), _, _]
      rw [et]; rfl
  · rintro e rfl
    rw [List.length_map, List.take_length]
    obtain ⟨x, ex, eA⟩ := owner_A (os := os) (v := v) (by omega) hv
    refine ⟨_, p2_of (p2_of rfl rfl ex) rfl eA, fun b => ?_, fun b => ?_⟩
    · refine ⟨.bl (goodAt ls os es φ v u), p2_of rfl rfl ?_, q⟩
      unfold goodAt
      rw [if_pos b]
      show some (D.bl (decide ((0 : Int) < (((outs es v).filter (okAt ls φ u)).length : Nat)))) = _
      congr 2
      rw [Bool.eq_iff_iff, decide_eq_true_eq, List.any_eq_true]
      constructor
      · intro h
        obtain ⟨y, hy⟩ := List.exists_mem_of_length_pos (l := (outs es v).filter (okAt ls φ u)) (by omega)
        exact ⟨y, (List.mem_filter.mp hy).1, (List.mem_filter.mp hy).2⟩
      · rintro ⟨y, h1, h2⟩
        have := List.length_pos_of_mem (List.mem_filter.mpr ⟨h1, h2⟩)
        omega
    · refine ⟨.bl (goodAt ls os es φ v u), p2_of rfl rfl ?_, q⟩
      unfold goodAt
      rw [if_neg (by rw [b]; decide)]
      show some (D.bl (decide ((((outs es v).filter (okAt ls φ u)).length : Int) = ((outs es v).length : Int)))) = _
      congr 2
      rw [Bool.eq_iff_iff, decide_eq_true_eq, List.all_eq_true]
      constructor
      · intro h
        exact fun y hy => List.length_filter_eq_length_iff.mp (by omega) y hy
      · intro h
        have := List.length_filter_eq_length_iff.mpr h
        omega
end
end LR
set_option Elab.async false
set_option maxRecDepth 100000
set_option linter.all false
set_option maxHeartbeats 4000000
namespace LR
open PySem PySem.Spec PyProof.Rows L2
section
variable {P : Program} {w : World} {K : PySem.W.Frag} {mg : Str → Option Value} {base : Heap} {ζ : Cs}
def zeros (os : List Bool) : Plc := List.replicate os.length (some 0)
theorem zeros_ok {os : List Bool} {n : Nat} : PlcOk os.length n (zeros os) := ⟨List.length_replicate, fun s h => by
  have := (List.mem_replicate.mp h).2
  cases this
  exact Nat.zero_le _⟩
def wrongs (ls : List Int) (os : List Bool) (es : List (List Int)) (φ : Plc) : List Nat := (List.range os.length).filter fun v => !fitsB ls os es φ v
theorem wrong_lt {os : List Bool} {ss : List (List Int)} {ls : List Int} {φ : Plc} {v : Nat} (h : v ∈ wrongs ls os ss φ) : v < os.length ∧ fitsB ls os ss φ v = false := by
  unfold wrongs at h
  rw [List.mem_filter, List.mem_range] at h
  exact ⟨h.1, by simpa using h.2⟩
end
end LR
set_option Elab.async false
set_option maxRecDepth 100000
set_option linter.all false
set_option maxHeartbeats 4000000
namespace LR
open PySem PySem.Spec PyProof.Rows L2
section
variable {P : Program} {w : World} {K : PySem.W.Frag} {mg : Str → Option Value} {base : Heap} {ζ : Cs}
theorem str_len {os : List Bool} (hl : os.length ≤ 1000) : lenD [.str (strO os)] = some (nat os.length) := by
  show (if (strO os).length ≤ 100000 then some (D.int ((strO os).length : Nat)) else none) = _
  rw [strO_len, if_pos (by omega)]
theorem seq_len {tp : Bool} {ls : List Int} : lenD [seqX tp ls] = some (nat ls.length) := by
  cases tp <;> exact some_nat (by rw [List.length_map])
theorem zeros_pc {os : List Bool} {i : Nat} {env : List Ev} {vs : List Nat} (hl : os.length ≤ 1000) (hs : pvar 0 env = some (.str (strO os))) (ho : ownFree env vs = true) : plc vs (ipStr (pvar 0)).p (bNm i) (pc (D.bl true)) (pc (D.int 0)) env = some (.lst ((zeros os).map optN)) := by
  have se : ltrs (strO os) = os.map fun b => D.str ⟨#[ltr b]⟩ := by
    unfold ltrs strO
    rw [List.toList_toArray, List.map_map]; rfl
  have sz : (strO os).cps.size ≤ 100000 := (show (strO os).length ≤ _ by rw [strO_len]; omega)
  have e2 : (ipStr (pvar 0)).p env = some (os.map fun b => D.str ⟨#[ltr b]⟩) := by
    show pstr (pvar 0) env = _
    unfold pstr
    rw [hs]
    show (if (strO os).cps.size ≤ 100000 then some (ltrs (strO os)) else none) = _
    rw [if_pos sz, se]
  refine (plc_of ho e2 (pcol_all (F := fun _ => D.int 0) fun b _ => pturn_of (c := true) rfl rfl fun _ => rfl)).trans ?_
  unfold zeros
  rw [List.map_replicate, List.map_const']
  rfl
/-- letters, edges, levels: the least placement that fits -/
def fLwClimb : Fs := fun as _ Q => ∃ (h : Int) (os : List Bool) (es : List (List Int)) (tp : Bool) (ls : List Int), as = [.d (.str (strO os)), .d (edL es), .d (seqX tp ls)] ∧ (∀ e ∈ es, EdgeOk h os.length e) ∧ (∀ l ∈ ls, 1 ≤ l) ∧ ls.length ≤ 1000 ∧ os.length ≤ 9 ∧ es.length ≤ 1000 ∧ ∀ φ, LeastFit ls os es φ → Q (.fr (.ls (φ.map optN)))
theorem q_lwclimb (T : Txt P K mg ζ) : CalX P w K mg base 4 "_law_climb" (spF K fLwClimb) := by
  have cx_fits : CalX P w K mg base 3 "_law_fits" (spF K fFitsL) := q_fitsL T
  refine T.d_climb.dl sc_climb (by rintro as Ed Q ⟨h, os, es, tp, ls, rfl, _⟩; rfl) (by decide) fun fa cdv A outer s H E hr => ⟨_, qss_cons (qs_setN (i := 3) true sc_climb.nd rfl (by first | exact Or.inr rfl | exact Or.inl rfl) (qf_lc (own := [("node", 4)]) (it := ipStr _) rfl sc_climb.nd (qi_str (qe_p (qp_var (pv 0)))) (blkOk_by (N := N_climb) (sc := defScope s_climb) (by decide +kernel)) (fun _ _ _ _ _ => qg_name (pg_name (i := 4) sc_climb.nd rfl (Or.inl rfl))) (fun _ _ _ _ _ => qpts_nil) (fun _ _ _ _ _ => qp_int)))
 (qss_cons (qs_for (vs := [5]) [4, 5, 6] (passes_of rfl) rfl (qi_range1 (by rfl) T.n_range (qe_p (qp_op op_mulA o_mul (qp_callB o_len c_len (by rfl) T.n_len b_len (qps_cons (qp_var (pv 0)) (qps_nil))) (qp_op op_addA o_add (qp_callB o_len c_len (by rfl) T.n_len b_len (qps_cons (qp_var (pv 2)) (qps_nil))) (qp_int))))) (qg_name (pg_name (i := 5) sc_climb.nd rfl (Or.inl rfl)))
 (qss_cons (qs_setLcL (own := [("node", 4)]) (i := 6) false rfl sc_climb.nd rfl rfl (sw_true rfl rfl rfl (by decide +kernel)) (qi_range1 (by rfl) T.n_range (qe_p (qp_callB o_len c_len (by rfl) T.n_len b_len (qps_cons (qp_var (pv 0)) (qps_nil))))) (blkOk_by (N := N_climb) (sc := defScope s_climb) (by decide +kernel)) (fun _ _ _ _ _ => qg_name (pg_name (i := 4) sc_climb.nd rfl (Or.inl rfl))) (fun _ _ _ _ _ => qts_one (qt_not (qt_truth (qe_cT cx_fits hr (by first | decide | omega) takes0 (by rfl) (qa_cons (qe_var (pv 0)) (qa_cons (qe_var (pv 1)) (qa_cons (qe_var (pv 2)) (qa_cons (qe_var (pv 3)) (qa_cons (qe_var (pv 4)) (qa_nil)))))))))) (fun _ _ _ _ _ => qe_var (pv 4)))
 (qss_cons (qs_if (qt_p (qpt_cmp (op_eqD hr.units) o_eq (qp_callB o_len c_len (by rfl) T.n_len b_len (qps_cons (qp_var (pv 6)) (qps_nil))) (qp_int) (nomark _)))
 (qss_one (qs_break))
 (qss_nil))
 (qss_one (qs_for (vs := [4]) [4] (passes_of rfl) rfl (qi_seq (qe_var (pv 6))) (qg_name (pg_name (i := 4) sc_climb.nd rfl (Or.inl rfl)))
 (qss_one (qs_if (qt_loan (qpt_cmp op_lt o_cmp (qp_ix ix_A o_ix (qp_var (pv 3)) (qp_var (pv 4)) (fun _ _ => rfl)) (qp_callB o_len c_len (by rfl) T.n_len b_len (qps_cons (qp_var (pv 2)) (qps_nil))) (nomark _)))
 (qss_one (qs_put (ps_asg (qe_loan (qp_op op_addA o_add (qp_ix ix_A o_ix (qp_var (pv 3)) (qp_var (pv 4)) (fun _ _ => rfl)) (qp_int))) (pg_sub (pv 3) (qe_p (qp_var (pv 4))) set_list))))
 (qss_one (qs_put (ps_asg (qe_p (qp_non)) (pg_sub (pv 3) (qe_p (qp_var (pv 4))) set_list)))))))))))
 (qss_one (qs_retO (pv 3)))), ?_⟩
  rintro as Ed Qd ⟨h, os, es, tp, ls, rfl, eo, l1, ll, ol, el, q⟩
  have sl := str_len (os := os) (by omega)
  have lle : lenD [seqX tp ls] = some (nat ls.length) := seq_len
  refine ⟨_, zeros_pc (by omega) rfl rfl, ?_⟩
  obtain ⟨N, eN, eN2, hN⟩ : ∃ N : Nat, (os.length : Int) * ((ls.length : Int) + 2) = (N : Int) ∧ N = os.length * (ls.length + 2) ∧ N ≤ 9018 :=
    ⟨os.length * (ls.length + 2), by rw [Int.natCast_mul, Int.natCast_add]; rfl, rfl, Nat.le_trans (Nat.mul_le_mul ol (show ls.length + 2 ≤ 1002 by omega)) (by decide)⟩
  have em : mulD (nat os.length) (.int ((ls.length : Int) + 2)) = some (.int (N : Int)) := by
    show (if (smI (os.length : Int) || smI ((ls.length : Int) + 2)) = true then some (D.int ((os.length : Int) * ((ls.length : Int) + 2))) else none) = _
    rw [if_pos (by rw [show smI (os.length : Int) = true by unfold smI; rw [decide_eq_true (by omega), decide_eq_true (by omega)]; rfl]; rfl), eN]
  refine ⟨.int (N : Int), p2_of (pN1 rfl sl) (p2_of (pN1 rfl lle) rfl rfl) em, ⟨by omega, by omega⟩, fun i e => ∃ φ, PlcOk os.length ls.length φ ∧ (∀ ψ, PlcOk os.length ls.length ψ → (∀ v, v < os.length → fitsB ls os es ψ v = true) → PLe φ ψ) ∧ i ≤ wgt ls.length φ ∧ e = [.d (.str (strO os)), .d (edL es), .d (seqX tp ls), .own (.ls (φ.map optN)), .any, .any, .any], ⟨zeros os, zeros_ok, fun ψ o _ => zeros_le o.len, Nat.zero_le _, rfl⟩, ?_, ?_⟩
  · rintro i x e ex ⟨φ, P, Lo, hw, rfl⟩
    obtain ⟨hi, rfl⟩ := rg_get ex
    obtain ⟨W, eW⟩ : ∃ W, wrongs ls os es φ = W := ⟨_, rfl⟩
    have hW : ∀ j v, W[j]? = some v → v < os.length ∧ fitsB ls os es φ v = false ∧ ∃ s, φ.getD v none = some s := fun j v e => by
      obtain ⟨a, b⟩ := wrong_lt (by rw [eW]; exact List.mem_of_getElem? e)
      exact ⟨a, b, wrong_on b⟩
    have pw : W.Pairwise (· < ·) := by rw [← eW]; exact List.Pairwise.filter _ List.pairwise_lt_range
    refine ⟨rfl, _, pN1 rfl sl, ⟨by omega, by omega⟩, fun i acc => acc = ((List.range i).filter fun v => !fitsB ls os es φ v).map nat, rfl, ?_, ?_⟩
    · rintro i x acc ex rfl
      obtain ⟨hi, rfl⟩ := rg_get ex
      rw [Int.toNat_natCast] at hi
      refine ⟨h, os, es, tp, ls, φ, i, rfl, eo, l1, ll, ol, P, hi, _, rfl, fun c => ?_, fun c => ?_⟩
      · show _ = ((List.range (i + 1)).filter _).map nat
        rw [List.range_succ, List.filter_append, List.map_append]
        simp [c]
      · show _ = ((List.range (i + 1)).filter _).map nat
        rw [List.range_succ, List.filter_append, List.map_append]
        simp [c]
    rintro acc rfl
    rw [rg_len, Int.toNat_natCast, show List.filter (fun v => !fitsB ls os es φ v) (List.range os.length) = W from eW]
    refine ⟨_, rfl, by rw [show W.map nat = (W.map fun n : Nat => (n : Int)).map D.int by rw [List.map_map]; rfl]; exact imds_intsL _, ?_⟩
    refine ⟨decide (W = []), p2_of (pN1 rfl rfl) rfl ?_, fun z => q φ ⟨P, fun v hv => ?_, Lo⟩, fun z => ?_⟩
    · refine some_dec ?_
      rw [List.length_map, ← List.length_eq_zero_iff]
      exact Int.natCast_eq_zero
    · have z := of_decide_eq_true z
      cases c : fitsB ls os es φ v with
      | true => rfl
      | false =>
        have : v ∈ W := by rw [← eW]; exact List.mem_filter.mpr ⟨List.mem_range.mpr hv, by rw [c]; rfl⟩
        rw [z] at this; cases this
    have z := of_decide_eq_false z
    refine ⟨fun j e => ∃ φ', PlcOk os.length ls.length φ' ∧ (∀ ψ, PlcOk os.length ls.length ψ → (∀ v, v < os.length → fitsB ls os es ψ v = true) → PLe φ' ψ) ∧ wgt ls.length φ' = wgt ls.length φ + j ∧ (∀ k v, j ≤ k → W[k]? = some v → φ'.getD v none = φ.getD v none) ∧ e = [.d (.str (strO os)), .d (edL es), .d (seqX tp ls), .own (.ls (φ'.map optN)), .any, .d (nat i), .d (.lst (W.map nat))], ⟨φ, P, Lo, rfl, fun _ _ _ _ => rfl, rfl⟩, ?_, ?_⟩
    · rintro j x e ex ⟨φ', P', Lo', hw', hk, rfl⟩
      obtain ⟨v, ev, rfl⟩ := map_getD ex
      obtain ⟨hv, wr, s, hs⟩ := hW j v ev
      have es' : φ'.getD v none = some s := by rw [hk j v (Nat.le_refl _) ev, hs]
      have vl : v < φ'.length := by rw [P'.len]; exact hv
      have ea := plc_at (φ := φ') vl
      rw [es'] at ea
      have sle := (P'.at_le es').2
      have keep : ∀ o k u, j + 1 ≤ k → W[k]? = some u → (φ'.set v o).getD u none = φ.getD u none := fun o k u jk eu => by
        have ne : u ≠ v := fun e => by
          have h1 := (List.getElem?_eq_some_iff.mp eu)
          have h2 := (List.getElem?_eq_some_iff.mp ev)
          have := List.pairwise_iff_getElem.mp pw j k h2.1 h1.1 (by omega)
          rw [h1.2, h2.2] at this
          omega
        rw [getD_set_ne ne]
        exact hk k u (by omega) eu
      have more : ∀ o, stepV ls.length φ v = o → hgt ls.length o = s + 1 → (∀ t, o = some t → t ≤ ls.length) → ∃ φ2, PlcOk os.length ls.length φ2 ∧ (∀ ψ, PlcOk os.length ls.length ψ → (∀ v, v < os.length → fitsB ls os es ψ v = true) → PLe φ2 ψ) ∧ wgt ls.length φ2 = wgt ls.length φ + (j + 1) ∧ (∀ k v, j + 1 ≤ k → W[k]? = some v → φ2.getD v none = φ.getD v none) ∧
          [Ev.d (.str (strO os)), .d (edL es), .d (seqX tp ls), .own (.ls ((φ'.map optN).set v (optN o))), .any, .d (nat i), .d (.lst (W.map nat))] = [.d (.str (strO os)), .d (edL es), .d (seqX tp ls), .own (.ls (φ2.map optN)), .any, .d (nat i), .d (.lst (W.map nat))] := fun o e1 e2 e3 => by
        refine ⟨φ'.set v o, P'.set e3, fun ψ ok f => (Lo' ψ ok f).set (by rw [← e1]; exact step_below (Lo ψ ok f) wr (f v hv) ok), ?_, keep o, by rw [List.map_set]⟩
        have := wgt_set (top := ls.length) (φ := φ') (v := v) (o := o) vl
        rw [es', e2] at this
        have this : wgt ls.length (φ'.set v o) + s = wgt ls.length φ' + (s + 1) := this
        omega
      have est : stepV ls.length φ v = if s < ls.length then some (s + 1) else none := by unfold stepV; rw [hs]
      refine ⟨decide (s < ls.length), p2_of (p2_of rfl rfl ea) (pN1 rfl lle) (some_dec (by omega)), fun z => ?_, fun z => ?_⟩
      · have z := of_decide_eq_true z
        refine ⟨_, p2_of (p2_of rfl rfl ea) rfl rfl, rfl, _, _, v, rfl, rfl, ixN_of (by rw [List.length_map]; exact vl), ?_⟩
        exact more (some (s + 1)) (by rw [est, if_pos z]) rfl fun t e => by cases e; exact z
      · have z := of_decide_eq_false z
        refine ⟨_, rfl, _, _, v, rfl, rfl, ixN_of (by rw [List.length_map]; exact vl), ?_⟩
        exact more none (by rw [est, if_neg z]) (show ls.length + 1 = s + 1 by omega) fun t e => by cases e
    · rintro e ⟨φ', P', Lo', hw', _, rfl⟩
      have : 0 < W.length := List.length_pos_iff.mpr z
      exact ⟨φ', P', Lo', by rw [List.length_map] at hw'; omega, rfl⟩
  · rintro e ⟨φ, P, Lo, hw, rfl⟩
    refine q φ ⟨P, fun v hv => ?_, Lo⟩
    have := wgt_le P.le
    rw [P.len] at this
    rw [rg_len, Int.toNat_natCast, eN2] at hw
    have : os.length * (ls.length + 2) = os.length * (ls.length + 1) + os.length := by rw [← Nat.mul_succ]
    omega
end
end LR
set_option Elab.async false
set_option maxRecDepth 100000
set_option linter.all false
set_option maxHeartbeats 4000000
namespace LR
open PySem PySem.Spec PyProof.Rows L2
section
variable {P : Program} {w : World} {K : PySem.W.Frag} {mg : Str → Option Value} {base : Heap} {ζ : Cs}
theorem addL_of {a b : List Int} (h : a.length + b.length ≤ 100000) : addD (intL a) (intL b) = some (intL (a ++ b)) := by
  show (if (a.map D.int).length + (b.map D.int).length ≤ 100000 then some (D.lst (a.map D.int ++ b.map D.int)) else none) = _
  rw [if_pos (by rw [List.length_map, List.length_map]; exact h), ← List.map_append]
def fHalv (n : Nat) : Fs := fun as _ Q => ∃ c h : Nat, as = [.d (nat c), .d (nat h)] ∧ 1 ≤ c ∧ c + h ≤ n ∧ c ≤ 1000 ∧ h ≤ 1000 ∧ (hv c h).length ≤ 1000 ∧ Q (.d (intL (hv c h)))
theorem q_halv (T : Txt P K mg ζ) (n : Nat) : CalX P w K mg base (n + 1) "_law_halving" (spF K (fHalv n)) := by
  induction n with
  | zero =>
    refine T.d_halving.calX sc_halving (spF_len (by rintro as E Q ⟨c, h, rfl, _⟩; rfl)) fun fa cdv A outer s H vs Q E hr h => ?_
    obtain ⟨g, as, Ed, Qd, en, ia, ⟨c, h, _, h1, h2, _⟩, _⟩ := h
    omega
  | succ n ih =>
  have cx_halving : CalX P w K mg base (n + 1) "_law_halving" (spF K (fHalv n)) := ih
  refine T.d_halving.dl sc_halving (by rintro as E Q ⟨c, h, rfl, _⟩; rfl) (by decide) fun fa cdv A outer s H E hr => ⟨_, qss_cons (qs_if (qt_p (QPW.qpt (qpw_or (qpt_cmp (op_eqD hr.units) o_eq (qp_var (pv 1)) (qp_int) (nomark _)) (qpw_or1 (qpt_cmp (op_eqD hr.units) o_eq (qp_var (pv 0)) (qp_int) (nomark _))))))
 (qss_one (qs_ret (qe_p (qp_lst (qps_nil)))))
 (qss_nil))
 (qss_cons (qs_setN (i := 2) true sc_halving.nd rfl (Or.inl rfl) (qe_lst (qa_nil)))
 (qss_cut (qs_if (qt_p (qpt_cmp op_gt o_cmp (qp_op op_fdiv o_fdiv (qp_op op_sub o_sub (qp_var (pv 0)) (qp_int)) (qp_int)) (qp_int) (nomark _)))
 (qss_one (qs_own m_append (ps_expr (pe_bm PySem.F.plainAttrs_list PySem.F.slot_list_append PySem.F.type_list_append mt_append (pv 2) (qa_cons (qe_cT cx_halving hr (by first | decide | omega) (takes_of rfl rfl rfl rfl) (by rfl) (qa_cons (qe_p (qp_op op_fdiv o_fdiv (qp_op op_sub o_sub (qp_var (pv 0)) (qp_int)) (qp_int))) (qa_cons (qe_var (pv 1)) (qa_nil)))) (qa_nil))))))
 (qss_nil))
 (qss_cons (qs_own m_append (ps_expr (pe_bm PySem.F.plainAttrs_list PySem.F.slot_list_append PySem.F.type_list_append mt_append (pv 2) (qa_cons (qe_cT cx_halving hr (by first | decide | omega) (takes_of rfl rfl rfl rfl) (by rfl) (qa_cons (qe_var (pv 0)) (qa_cons (qe_p (qp_op op_sub o_sub (qp_var (pv 1)) (qp_int))) (qa_nil)))) (qa_nil)))))
 (qss_cons (qs_if (qt_p (qpt_cmp op_gt o_cmp (qp_op op_fdiv o_fdiv (qp_var (pv 0)) (qp_int)) (qp_int) (nomark _)))
 (qss_one (qs_own m_append (ps_expr (pe_bm PySem.F.plainAttrs_list PySem.F.slot_list_append PySem.F.type_list_append mt_append (pv 2) (qa_cons (qe_cT cx_halving hr (by first | decide | omega) (takes_of rfl rfl rfl rfl) (by rfl) (qa_cons (qe_p (qp_op op_fdiv o_fdiv (qp_var (pv 0)) (qp_int))) (qa_cons (qe_var (pv 1)) (qa_nil)))) (qa_nil))))))
 (qss_nil))
 (qss_fz [2] (qss_cons (qs_setN (i := 3) false sc_halving.nd rfl (Or.inl rfl) (qe_p (qp_callTy o_list call_list_of (by rfl) T.n_list b_list (qps_cons (qp_ix ix_A o_ix (qp_var (pv 2)) (qp_int) (fun _ _ => rfl)) (qps_nil)))))
 (qss_cons (qs_for (vs := [4]) [4] (passes_of rfl) rfl (qi_range2 (by rfl) T.n_range (qe_p (qp_int)) (qe_p (qp_callB o_len c_len (by rfl) T.n_len b_len (qps_cons (qp_var (pv 2)) (qps_nil))))) (qg_name (pg_name (i := 4) sc_halving.nd rfl (Or.inl rfl)))
 (qss_one (qs_setN (i := 3) false sc_halving.nd rfl (Or.inl rfl) (qe_p (qp_op op_addA o_add (qp_op op_addA o_add (qp_var (pv 3)) (qp_lst (qps_cons (qp_var (pv 1)) (qps_nil)))) (qp_ix ix_A o_ix (qp_var (pv 2)) (qp_var (pv 4)) (fun _ _ => rfl)))))))
 (qss_one (qs_ret (qe_var (pv 3))))))))))), ?_⟩
  rintro as Ed Qd ⟨c, h, rfl, hc, hn, hc2, hh2, hl, q⟩
  refine ⟨decide (h = 0) || decide (c = 1), por_of (a := decide (h = 0)) ?_ (fun _ => p2_of rfl rfl ?_) (fun z => ?_), fun z => ?_, fun z => ?_⟩
  · refine p2_of rfl rfl ?_
    show some (D.bl (decide ((h : Int) = 0))) = _
    congr 2; rw [decide_eq_decide]; omega
  · rename_i z
    show some (D.bl (decide ((c : Int) = 1))) = _
    have : decide (h = 0) = false := z
    rw [this, Bool.false_or]
    congr 2; rw [decide_eq_decide]; omega
  · rw [z]; rfl
  · have z : h = 0 ∨ c = 1 := by
      rcases Bool.or_eq_true_iff.mp z with z | z
      · exact .inl (of_decide_eq_true z)
      · exact .inr (of_decide_eq_true z)
    rw [hv_stop hc z] at q
    exact ⟨_, rfl, q⟩
  · have z : ¬ (h = 0 ∨ c = 1) := fun e => by
      rcases e with e | e
      · rw [decide_eq_true e] at z; cases z
      · rw [decide_eq_true e, Bool.or_true] at z; cases z
    have h0 : h ≠ 0 := fun e => z (.inl e)
    have c1 : c ≠ 1 := fun e => z (.inr e)
    rw [← jn_hvP hc z] at q hl
    have m2 : hv c (h - 1) ∈ hvP c h := by unfold hvP; simp
    have m3 : hv (c / 2) h ∈ hvP c h := by unfold hvP; simp
    refine ⟨_, rfl, Nat.zero_le _, fun e => e = [.d (nat c), .d (nat h), .own (.ls ((if 0 < (c - 1) / 2 then [hv ((c - 1) / 2) h] else []).map intL)), .any, .any], ?_, ?_⟩
    · refine ⟨decide (0 < (c - 1) / 2), p2_of (p2_of (p2_of rfl rfl rfl) rfl rfl) rfl ?_, fun y => ?_, fun y => ?_⟩
      · show some (D.bl (decide ((0 : Int) < ((c : Int) - 1) / 2))) = _
        congr 2; rw [decide_eq_decide]; omega
      · have y := of_decide_eq_true y
        rw [if_pos y]
        have m1 : hv ((c - 1) / 2) h ∈ hvP c h := by unfold hvP; rw [if_pos y]; simp
        refine ⟨_, rfl, .int (((c - 1) / 2 : Nat)), p2_of (p2_of rfl rfl rfl) rfl ?_, (c - 1) / 2, h, rfl, y, by omega, by omega, hh2, Nat.le_trans (jn_mem m1) hl, ?_⟩
        · show (if (0 : Int) < 2 ∧ (2 : Int) < 1073741824 then some (D.int (((c : Int) - 1) / 2)) else none) = _
          rw [if_pos ⟨by decide, by decide⟩, show ((c : Int) - 1) / 2 = (((c - 1) / 2 : Nat) : Int) by omega]
        exact ⟨_, _, rfl, rfl, by show 1 ≤ 100000; decide, rfl⟩
      · have y := of_decide_eq_false y
        rw [if_neg y]
        exact rfl
    · rintro e rfl
      refine ⟨_, rfl, .int ((h - 1 : Nat)), p2_of rfl rfl ?_, c, h - 1, rfl, hc, by omega, hc2, by omega, Nat.le_trans (jn_mem m2) hl, ?_⟩
      · show some (D.int ((h : Int) - 1)) = _
        rw [show (h : Int) - 1 = ((h - 1 : Nat) : Int) by omega]
      have pl : ((if 0 < (c - 1) / 2 then [hv ((c - 1) / 2) h] else []).map intL).length ≤ 1 := by
        rw [List.length_map]; split <;> simp
      refine ⟨_, _, rfl, rfl, by rw [List.length_append]; show _ + 1 ≤ 100000; omega, ?_⟩
      refine ⟨true, p2_of (p2_of rfl rfl rfl) rfl ?_, fun _ => ?_, fun z => by cases z⟩
      · show some (D.bl (decide ((0 : Int) < (c : Int) / 2))) = _
        rw [decide_eq_true (by omega)]
      refine ⟨_, rfl, .int ((c / 2 : Nat)), p2_of rfl rfl ?_, c / 2, h, rfl, by omega, by omega, by omega, hh2, Nat.le_trans (jn_mem m3) hl, ?_⟩
      · show (if (0 : Int) < 2 ∧ (2 : Int) < 1073741824 then some (D.int ((c : Int) / 2)) else none) = _
        rw [if_pos ⟨by decide, by decide⟩, show (c : Int) / 2 = ((c / 2 : Nat) : Int) by omega]
      refine ⟨_, _, rfl, rfl, by rw [List.length_append, List.length_append]; show _ + 1 + 1 ≤ 100000; omega, ?_⟩
      have eP : (((if 0 < (c - 1) / 2 then [hv ((c - 1) / 2) h] else []).map intL ++ [intL (hv c (h - 1))]) ++ [intL (hv (c / 2) h)]) = (hvP c h).map intL := by
        unfold hvP; rw [List.map_append, List.map_append]; rfl
      rw [eP]
      generalize hP : hvP c h = P at *
      obtain ⟨p, r, rfl⟩ : ∃ p r, P = p :: r := by
        cases P with
        | nil => cases m2
        | cons p r => exact ⟨p, r, rfl⟩
      refine ⟨intL p, pN1 (p2_of rfl rfl (atI_of (k := 0) rfl)) rfl, ?_⟩
      have hlen : (((p :: r).map intL).length : Int) = ((r.length + 1 : Nat) : Int) := by rw [List.length_map]; rfl
      have hr3 : r.length + 1 ≤ 3 := by
        have := congrArg List.length hP
        unfold hvP at this
        rw [List.length_append, List.length_append] at this
        have : (if 0 < (c - 1) / 2 then [hv ((c - 1) / 2) h] else []).length ≤ 1 := by split <;> simp
        simp at *; omega
      refine ⟨_, rfl, _, rfl, ⟨by omega, by omega, by rw [hlen]; omega, by rw [hlen]; omega, by rw [hlen]; omega⟩, fun i e => e = [.d (nat c), .d (nat h), .d (.lst ((p :: r).map intL)), .d (intL (jn h ((p :: r).take (i + 1)))), .any], ?_, ?_, ?_⟩
      · refine congrArg (fun z => [Ev.d (nat c), .d (nat h), .d (.lst ((p :: r).map intL)), .d (intL z), .any]) ?_
        simp [jn]
      · rintro i x e ex rfl
        obtain ⟨ii, ei, rfl⟩ := map_getD ex
        have hi := (List.getElem?_eq_some_iff.mp ei).1
        rw [List.length_range] at hi
        rw [List.getElem?_range hi] at ei
        cases ei
        have hi2 : i + 1 < (p :: r).length := by rw [hlen] at hi; show i + 1 < r.length + 1; omega
        have eq := List.getElem?_eq_getElem hi2
        have et : jn h ((p :: r).take (i + 1 + 1)) = jn h ((p :: r).take (i + 1)) ++ [(h : Int)] ++ (p :: r)[i + 1] := by
          rw [List.take_succ, eq]
          exact jn_snoc (by simp)
        have b1 := jn_le (h := (h : Int)) (P := p :: r) (i + 1)
        have b2 := jn_mem (h := (h : Int)) (List.getElem_mem hi2)
        refine ⟨intL (jn h ((p :: r).take (i + 1 + 1))), p2_of (x := intL (jn h ((p :: r).take (i + 1)) ++ [(h : Int)])) (y := intL (p :: r)[i + 1]) (p2_of rfl (y := intL [(h : Int)]) rfl (addL_of ?_)) (p2_of rfl rfl ?_) ?_, rfl⟩
        · rw [List.length_singleton]; omega
        · rw [show (1 : Int) + (i : Nat) = ((i + 1 : Nat) : Int) by omega]
          exact atI_of (by rw [List.getElem?_map, eq]; rfl)
        · rw [et]
          exact addL_of (by rw [List.length_append, List.length_singleton]; omega)
      · rintro e rfl
        rw [rg_len, hlen, show (((r.length + 1 : Nat) : Int) - 1).toNat + 1 = (p :: r).length by show _ = r.length + 1; omega, List.take_length]
        exact q
end
end LR
set_option Elab.async false
set_option maxRecDepth 100000
set_option linter.all false
set_option maxHeartbeats 4000000
namespace LR
open PySem PySem.Spec PyProof.Rows L2
section
variable {P : Program} {w : World} {K : PySem.W.Frag} {mg : Str → Option Value} {base : Heap} {ζ : Cs}
theorem seq_edX {k : List D → Prop} {tp es} (h : k (es.map intT)) : asD (seqI k) (.d (edX tp es)) := by cases tp <;> exact h
def pthD (ks : List Int) (ps : List (List (List Int))) : D := .dic ks (ps.map edL)
def fPaths : Fs := fun as _ Q => ∃ (tp : Bool) (es : List (List Int)) (h n a : Int), as = [.d (edX tp es), .d (.int a)] ∧ (∀ e ∈ es, EdgeOk h n e) ∧ n ≤ 9 ∧ (0 ≤ a ∧ a < n) ∧ ∀ ks ps, SrI es a n ks ps ks.length → Q (.d (pthD ks ps))
theorem q_paths (T : Txt P K mg ζ) : CalX P w K mg base 1 "paths_from" (spF K fPaths) := by
  refine T.d_paths_from.dl sc_paths_from (by rintro as E Q ⟨tp, es, h, n, a, rfl, _⟩; rfl) (by decide) fun fa cdv A outer s H E hr => ⟨_, qss_cons (qs_setN (i := 2) true sc_paths_from.nd rfl (Or.inl rfl) (qe_dis1 (qp_var (pv 1)) (qe_p (qp_lst (qps_nil)))))
 (qss_cons (qs_setN (i := 3) true sc_paths_from.nd rfl (Or.inl rfl) (qe_lst (qa_cons (qe_var (pv 1)) (qa_nil))))
 (qss_cons (qs_while [4, 5] (passes_of rfl) (qt_loan (qpt_truth (qp_var (pv 3))))
 (qss_cons (qs_popK (ps_set (i := 4) sc_paths_from.nd rfl (Or.inl rfl) (pe_bm PySem.F.plainAttrs_list PySem.F.slot_list_pop PySem.F.type_list_pop mt_popAt (pv 3) (pa_cons (qe_p (qp_int)) pa_nil))))
 (qss_one (qs_for (vs := [5]) [5] (passes_of rfl) rfl (qi_seq (qe_var (pv 0))) (qg_name (pg_name (i := 5) sc_paths_from.nd rfl (Or.inl rfl)))
 (qss_one (qs_if (qt_loan (QPW.qpt (qpw_and (qpt_cmp (op_eqD hr.units) o_eq (qp_ix ix_A o_ix (qp_var (pv 5)) (qp_int) (fun _ _ => rfl)) (qp_var (pv 4)) (nomark _)) (qpw_and1 (qpt_dnin rfl (Room.dl1 hr) (qp_ix ix_A o_ix (qp_var (pv 5)) (qp_int) (fun _ _ => rfl)) (qp_var (pv 2)))))))
 (qss_cons (qs_dput (ps_dput (Room.dl1 hr) (pv 2) (qp_ix ix_A o_ix (qp_var (pv 5)) (qp_int) (fun _ _ => rfl) _) (qe_op op_addA o_add (qe_dgetO (Room.dl1 hr) (pv 2) (qp_var (pv 4)) (fun _ _ => rfl)) (qe_p (qp_lst (qps_cons (qp_var (pv 5)) (qps_nil))))) (by rfl)))
 (qss_one (qs_own m_append (ps_expr (pe_bm PySem.F.plainAttrs_list PySem.F.slot_list_append PySem.F.type_list_append mt_append (pv 3) (qa_cons (qe_p (qp_ix ix_A o_ix (qp_var (pv 5)) (qp_int) (fun _ _ => rfl))) (qa_nil)))))))
 (qss_nil)))))))
 (qss_fz [2, 3] (qss_one (qs_ret (qe_var (pv 2))))))), ?_⟩
  rintro as Ed Qd ⟨tp, es, h, n, a, rfl, hok, n9, ha, q⟩
  refine ⟨a, rfl, _, rfl, ?_⟩
  refine ⟨_, rfl, by show 1 ≤ 1000; decide, ?_⟩
  refine ⟨fun m e => ∃ ks ps i, m = n.toNat - i ∧ SrI es a n ks ps i ∧ e = [.d (edX tp es), .d (.int a), .own (.dk ks (ps.map edL)), .own (.ls ((ks.drop i).map .int)), .any, .any], ⟨_, [a], [[]], 0, rfl, SrI.start ha, rfl⟩, ?_⟩
  rintro m e ⟨ks, ps, i, rfl, S, rfl⟩
  have kl := int_card S.nd S.bd
  refine ⟨!((ks.drop i).map D.int).isEmpty, rfl, fun z => ?_, fun z => ?_⟩
  · have il : i < ks.length := by
      apply Classical.byContradiction
      intro c
      rw [List.drop_eq_nil_of_le (by omega)] at z; cases z
    obtain ⟨u, hu⟩ : ∃ u, ks[i]? = some u := ⟨_, List.getElem?_eq_getElem il⟩
    have ed : ks.drop i = u :: ks.drop (i + 1) := by
      rw [List.drop_eq_getElem_cons il]
      have := (List.getElem?_eq_some_iff.mp hu).2
      rw [this]
    rw [ed]
    refine ⟨_, 0, 0, .int u, rfl, rfl, ixN_of (k := 0) (by show 0 < _ + 1; omega), rfl, ?_⟩
    refine seq_edX ⟨fun j e => ∃ ks' ps', SrI es a n ks' ps' i ∧ (∃ tl, ks' = ks ++ tl) ∧ (∀ e ∈ es.take j, es0 e = u → es2 e ∈ ks') ∧ e = [.d (edX tp es), .d (.int a), .own (.dk ks' (ps'.map edL)), .own (.ls ((ks'.drop (i + 1)).map .int)), .d (.int u), .any], ⟨ks, ps, S, ⟨[], (List.append_nil _).symm⟩, fun e he => (by rw [List.take_zero] at he; cases he), rfl⟩, ?_, ?_⟩
    · rintro j x e ex ⟨ks', ps', S', ⟨tl, etl⟩, cl, rfl⟩
      obtain ⟨ed', ee, rfl⟩ := map_getD ex
      have ein := List.mem_of_getElem? ee
      obtain ⟨s0, r0, t0, rfl, hs0, hr0, ht0⟩ := hok ed' ein
      have et : es.take (j + 1) = es.take j ++ [[s0, r0, t0]] := by rw [List.take_succ, ee]; rfl
      have u' : ks'[i]? = some u := by rw [etl, List.getElem?_append_left il]; exact hu
      have kl' := int_card S'.nd S'.bd
      have il' : i + 1 ≤ ks'.length := (List.getElem?_eq_some_iff.mp u').1
      have more : ∀ k : List Int, (∀ e ∈ es.take j, es0 e = u → es2 e ∈ k) → (s0 = u → t0 ∈ k) → ∀ e ∈ es.take (j + 1), es0 e = u → es2 e ∈ k := fun k h1 h2 e he h0 => by
        rw [et] at he
        rcases List.mem_append.mp he with z | z
        · exact h1 e z h0
        · cases List.mem_singleton.mp z
          exact h2 h0
      refine ⟨decide (s0 = u ∧ t0 ∉ ks'), pand_of (a := decide (s0 = u)) (p2_of (p2_of rfl rfl (atI_of (k := 0) rfl)) rfl rfl) (fun z => p2_of (p2_of rfl rfl (atI_of (k := 2) rfl)) rfl ?_) (fun z => ?_), fun z => ?_, fun z => ?_⟩
      · have z := of_decide_eq_true z
        show some (D.bl (!decide (t0 ∈ ks'))) = _
        congr 2
        rw [Bool.eq_iff_iff]; simp [z]
      · have z := of_decide_eq_false z
        exact decide_eq_false fun c => z c.1
      · obtain ⟨z1, z2⟩ := of_decide_eq_true z
        obtain ⟨p, hp⟩ : ∃ p, ps'[i]? = some p := ⟨_, List.getElem?_eq_getElem (by rw [← S'.len]; omega)⟩
        have P := S'.pt i u p u' hp
        have pl := P.short S'.nd
        have g1 : dgetD (.dic ks' (ps'.map edL)) (.int u) = some (edL p) := dkGet_at S'.nd u' (by rw [List.getElem?_map, hp]; rfl)
        have g2 : addD (edL p) (.lst [intT [s0, r0, t0]]) = some (edL (p ++ [[s0, r0, t0]])) := by
          show (if (p.map intT).length + [intT [s0, r0, t0]].length ≤ 100000 then some (D.lst (p.map intT ++ [intT [s0, r0, t0]])) else none) = _
          rw [if_pos (by rw [List.length_map, List.length_singleton]; omega)]
          show _ = some (D.lst ((p ++ [[s0, r0, t0]]).map intT))
          rw [List.map_append]; rfl
        have gk : dkGet ks' (ps'.map edL) u = some (edL p) := g1
        refine ⟨ks', ps'.map edL, u, edL p, rfl, rfl, gk, _, rfl, _, g2, ks', ps'.map edL, t0, rfl, p2_of rfl rfl (atI_of (k := 2) rfl), by omega, ?_⟩
        rw [dkPut_new z2]
        have S2 := S'.add u' hp ein z1 z2 ht0
        refine ⟨_, rfl, .int t0, p2_of rfl rfl (atI_of (k := 2) rfl), _, _, rfl, rfl, ?_, ks' ++ [t0], ps' ++ [p ++ [[s0, r0, t0]]], S2, ⟨tl ++ [t0], by rw [etl, List.append_assoc]⟩, more _ (fun e he h0 => List.mem_append_left _ (cl e he h0)) fun _ => by simp, ?_⟩
        · rw [List.length_append, List.length_map, List.length_drop]; show _ + 1 ≤ 100000; omega
        · have d1 : ((ks' ++ [t0]).drop (i + 1)).map D.int = (ks'.drop (i + 1)).map D.int ++ [D.int t0] := by
            rw [List.drop_append_of_le_length il', List.map_append]; rfl
          have d2 : (ps' ++ [p ++ [[s0, r0, t0]]]).map edL = ps'.map edL ++ [edL (p ++ [[s0, r0, t0]])] := by rw [List.map_append]; rfl
          rw [d1, d2]; rfl
      · have z := of_decide_eq_false z
        refine ⟨ks', ps', S', ⟨tl, etl⟩, more _ cl fun h => ?_, rfl⟩
        apply Classical.byContradiction
        intro c; exact z ⟨h, c⟩
    · rintro e ⟨ks', ps', S', ⟨tl, etl⟩, cl, rfl⟩
      rw [List.length_map, List.take_length] at cl
      have u' : ks'[i]? = some u := by rw [etl, List.getElem?_append_left il]; exact hu
      have kl' := int_card S'.nd S'.bd
      exact ⟨n.toNat - (i + 1), by omega, ks', ps', i + 1, rfl, S'.next u' cl, rfl⟩
  · have e : i = ks.length := by
      apply Classical.byContradiction
      intro c
      have := S.il
      rw [List.drop_eq_getElem_cons (by omega)] at z
      cases z
    subst e
    exact q ks ps S
/-- a path, or none if there is none -/
def fBetween : Fs := fun as _ Q => ∃ (tp : Bool) (es : List (List Int)) (h n a b : Int), as = [.d (edX tp es), .d (.int a), .d (.int b)] ∧ (∀ e ∈ es, EdgeOk h n e) ∧ n ≤ 9 ∧ (0 ≤ a ∧ a < n) ∧ (¬ RchI es a b → Q (.d .non)) ∧ ∀ p, Wk es a p b → (p.map es0 ++ [b]).Nodup → p.length ≤ 9 → Q (.d (edL p))
theorem q_between (T : Txt P K mg ζ) : CalX P w K mg base 2 "path_between" (spF K fBetween) := by
  have cx_paths_from : CalX P w K mg base 1 "paths_from" (spF K fPaths) := q_paths T
  refine T.d_path_between.dl sc_path_between (by rintro as E Q ⟨tp, es, h, n, a, b, rfl, _⟩; rfl) (by decide) fun fa cdv A outer s H E hr => ⟨_, qss_one (qs_ret (qe_dget1 (Room.dl1 hr) (qe_cT cx_paths_from hr (by first | decide | omega) (takes_of rfl rfl rfl rfl) (by rfl) (qa_cons (qe_var (pv 0)) (qa_cons (qe_var (pv 1)) (qa_nil)))) (qp_var (pv 2)) ⟨rfl, rfl, rfl, rfl⟩)), ?_⟩
  rintro as Ed Qd ⟨tp, es, h, n, a, b, rfl, hok, n9, ha, q1, q2⟩
  refine ⟨tp, es, h, n, a, rfl, hok, n9, ha, fun ks ps S => ⟨.int b, _, rfl, rfl, ?_⟩⟩
  by_cases c : b ∈ ks
  · obtain ⟨j, hj, e⟩ := List.mem_iff_getElem.mp c
    have e1 := List.getElem?_eq_getElem hj
    rw [e] at e1
    have e2 := List.getElem?_eq_getElem (l := ps) (i := j) (by rw [← S.len]; exact hj)
    have P := S.pt j b _ e1 e2
    have kl := int_card S.nd S.bd
    have := P.short S.nd
    rw [dkGet_at S.nd e1 (by rw [List.getElem?_map, e2]; rfl)]
    exact q2 _ P.wk P.nd (by omega)
  · rw [dkGet_no c]
    exact q1 fun r => c ((S.reach (Nat.le_refl _) b).mpr r)
end
end LR
set_option Elab.async false
set_option maxRecDepth 100000
set_option linter.all false
set_option maxHeartbeats 4000000
namespace LR
open PySem PySem.Spec PyProof.Rows L2
section
variable {P : Program} {w : World} {K : PySem.W.Frag} {mg : Str → Option Value} {base : Heap} {ζ : Cs}
theorem pseq_edX {p : PF} {env : List Ev} {tp es} (h : p env = some (edX tp es)) : (ipSeq p).p env = some (es.map intT) := by
  show pseq p env = _
  unfold pseq
  rw [h]
  cases tp <;> rfl
theorem allD_star : ∀ l : List D, allD (l.map Ar.d ++ []) = some l
  | [] => rfl
  | x :: l => by
    show allD (Ar.d x :: (l.map Ar.d ++ [])) = _
    unfold allD
    rw [allD_star l]
/-- a cycle with this remainder, or none if there is none -/
def fCycP : Fs := fun as _ Q => ∃ (tp : Bool) (es : List (List Int)) (h n par : Int), as = [.d (edX tp es), .d (.int par)] ∧ (∀ e ∈ es, EdgeOk h n e) ∧ es.length ≤ 1000 ∧ n ≤ 9 ∧ (¬ HasPar par es → Q (.d .non)) ∧ ∀ c, CycP par es c → HasPar par es → Q (.fr (.ls (c.map intT)))
theorem q_cycP (T : Txt P K mg ζ) : CalX P w K mg base 3 "cycle_with" (spF K fCycP) := by
  have cx_path_between : CalX P w K mg base 2 "path_between" (spF K fBetween) := q_between T
  refine T.d_cycle_with.dl sc_cycle_with (by rintro as E Q ⟨tp, es, h, n, par, rfl, _⟩; rfl) (by decide) fun fa cdv A outer s H E hr => ⟨_, qss_cons (qs_for (vs := [2]) [2, 3, 4, 5, 6] (passes_of rfl) rfl (qi_seq (qe_var (pv 0))) (qg_name (pg_name (i := 2) sc_cycle_with.nd rfl (Or.inl rfl)))
 (qss_cons (qs_asg (vs := [3, 4, 5]) (qe_var (pv 2)) (qg_tup' rfl (qgs_cons' (qg_name (pg_name (i := 3) sc_cycle_with.nd rfl (Or.inl rfl))) (qgs_cons' (qg_name (pg_name (i := 4) sc_cycle_with.nd rfl (by first | exact Or.inr rfl | exact Or.inl rfl))) (qgs_cons' (qg_name (pg_name (i := 5) sc_cycle_with.nd rfl (Or.inl rfl))) (qgs_nil))))))
 (qss_one (qs_if (qt_p (qpt_cmp (op_eqD hr.units) o_eq (qp_op op_mod o_mod (qp_var (pv 4)) (qp_int)) (qp_var (pv 1)) (nomark _)))
 (qss_cons (qs_setN (i := 6) false sc_cycle_with.nd rfl (Or.inl rfl) (qe_cT cx_path_between hr (by first | decide | omega) (takes_of rfl rfl rfl rfl) (by rfl) (qa_cons (qe_p (qp_lc (own := [("other", 7)]) (it := ipSeq _) rfl sc_cycle_with.nd (fun W => qi_seq (qe_p (qp_var (pv 0)))) (blkOk_by (N := N_cycle_with) (sc := defScope s_cycle_with) (by decide +kernel)) (fun _ _ _ _ _ => qg_name (pg_name (i := 7) sc_cycle_with.nd rfl (Or.inl rfl))) (fun _ _ _ _ _ => qpts_one (qpt_cmp op_le o_cmp (qp_ix ix_A o_ix (qp_var (pv 7)) (qp_int) (fun _ _ => rfl)) (qp_var (pv 4)) (nomark _))) (fun _ _ _ _ _ => qp_var (pv 7)))) (qa_cons (qe_var (pv 5)) (qa_cons (qe_var (pv 3)) (qa_nil))))))
 (qss_one (qs_if (qt_p (qpt_cmp op_notN o_notN (qp_var (pv 6)) (qp_non) (nomark _)))
 (qss_one (qs_ret (qe_lst (qa_cons (qe_var (pv 2)) (qa_star (qe_var (pv 6)) (qa_nil))))))
 (qss_nil))))
 (qss_nil)))))
 (qss_one (qs_ret (qe_p (qp_non)))), ?_⟩
  rintro as Ed Qd ⟨tp, es, h, n, par, rfl, hok, hz, n9, q1, q2⟩
  refine seq_edX ⟨fun i e => e = [.d (edX tp es), .d (.int par), .any, .any, .any, .any, .any, .any] ∧ ∀ e ∈ es.take i, ¬ ParE par es e, ⟨rfl, fun e he => (by rw [List.take_zero] at he; cases he)⟩, ?_, ?_⟩
  · rintro i x e ex ⟨rfl, hn⟩
    obtain ⟨d, ee, rfl⟩ := map_getD ex
    have ein := List.mem_of_getElem? ee
    obtain ⟨s0, r0, t0, rfl, hs0, hr0, ht0⟩ := hok d ein
    have et : es.take (i + 1) = es.take i ++ [[s0, r0, t0]] := by rw [List.take_succ, ee]; rfl
    have more : ¬ ParE par es [s0, r0, t0] → ∀ e ∈ es.take (i + 1), ¬ ParE par es e := fun h e he => by
      rw [et] at he
      rcases List.mem_append.mp he with z | z
      · exact hn e z
      · rw [List.mem_singleton.mp z]; exact h
    refine ⟨decide (r0 % 2 = par), p2_of (p2_of rfl rfl rfl) rfl rfl, fun z => ?_, fun z => ⟨rfl, more fun o => (of_decide_eq_false z) o.1⟩⟩
    have z := of_decide_eq_true z
    let P : List Int → Bool := fun f => decide (es1 f ≤ r0)
    refine ⟨edL (es.filter P), plc_of rfl (pseq_edX rfl) (pcol_map (l := es) (enc := intT) (P := P) (F := intT) fun f hf => ?_), false, es.filter P, h, n, t0, s0, rfl, fun f hf => hok f (List.mem_filter.mp hf).1, n9, ht0, fun nr => ?_, fun p w nd pl => ?_⟩
    · obtain ⟨s1, r1, t1, rfl, _, _, _⟩ := hok f hf
      exact pturn_of rfl (p2_of (p2_of rfl rfl (atI_of (k := 1) rfl)) rfl rfl) fun _ => rfl
    · exact ⟨false, rfl, (fun z => by cases z), fun _ => ⟨rfl, more fun o => nr o.2⟩⟩
    · refine ⟨true, rfl, fun _ => ?_, fun z => by cases z⟩
      have C := cycP_of (e := [s0, r0, t0]) ein z w nd pl
      refine ⟨p.map intT, .inl rfl, [intT [s0, r0, t0]] ++ p.map intT, ?_, ?_, q2 _ C ⟨_, ein, z, ⟨p, w⟩⟩⟩
      · show allD (Ar.d (intT [s0, r0, t0]) :: ((p.map intT).map Ar.d ++ [])) = _
        unfold allD
        rw [allD_star]; rfl
      · rw [List.length_append, List.length_map, List.length_singleton]; omega
  · rintro e ⟨rfl, hn⟩
    rw [List.length_map, List.take_length] at hn
    exact ⟨_, rfl, q1 fun ⟨e, m, o⟩ => hn e m o⟩
end
end LR
set_option Elab.async false
set_option maxRecDepth 100000
set_option linter.all false
set_option maxHeartbeats 4000000
namespace LR
open PySem PySem.Spec PyProof.Rows L2
section
variable {P : Program} {w : World} {K : PySem.W.Frag} {mg : Str → Option Value} {base : Heap} {ζ : Cs}
def upTo (es : List (List Int)) (b : Int) : List (List Int) := es.filter fun f => decide (es1 f ≤ b)
def fReaches : Fs := fun as _ Q => ∃ (es : List (List Int)) (h n b s t : Int), as = [.d (edL es), .d (.int b), .d (.int s), .d (.int t)] ∧ (∀ e ∈ es, EdgeOk h n e) ∧ n ≤ 9 ∧ (0 ≤ s ∧ s < n) ∧ ∀ v : Bool, (v = true ↔ RchI (upTo es b) s t) → Q (.d (.bl v))
theorem q_reaches (T : Txt P K mg ζ) : CalX P w K mg base 1 "_law_reaches" (spF K fReaches) := by
  refine T.d_reaches.dl sc_reaches (by rintro as E Q ⟨es, h, n, b, s, t, rfl, _⟩; rfl) (by decide) fun fa cdv A outer s H E hr => ⟨_, qss_cons (qs_setN (i := 4) true sc_reaches.nd rfl (Or.inl rfl) (qe_lst (qa_cons (qe_var (pv 2)) (qa_nil))))
 (qss_cons (qs_for (vs := [5]) [5, 6] (passes_of rfl) rfl (qi_range1 (by rfl) T.n_range (qe_p (qp_int))) (qg_name (pg_name (i := 5) sc_reaches.nd rfl (Or.inl rfl)))
 (qss_cons (qs_if (qt_loan (qpt_cmp op_ge o_cmp (qp_var (pv 5)) (qp_callB o_len c_len (by rfl) T.n_len b_len (qps_cons (qp_var (pv 4)) (qps_nil))) (nomark _)))
 (qss_one (qs_break))
 (qss_nil))
 (qss_one (qs_for (vs := [6]) [6] (passes_of rfl) rfl (qi_seq (qe_var (pv 0))) (qg_name (pg_name (i := 6) sc_reaches.nd rfl (Or.inl rfl)))
 (qss_one (qs_if (qt_loan (QPW.qpt (qpw_and (qpt_cmp (op_eqD hr.units) o_eq (qp_ix ix_A o_ix (qp_var (pv 6)) (qp_int) (fun _ _ => rfl)) (qp_ix ix_A o_ix (qp_var (pv 4)) (qp_var (pv 5)) (fun _ _ => rfl)) (nomark _)) (qpw_and (qpt_cmp op_le o_cmp (qp_ix ix_A o_ix (qp_var (pv 6)) (qp_int) (fun _ _ => rfl)) (qp_var (pv 1)) (nomark _)) (qpw_and1 (qpt_cmp (op_notInA (Room.u65 hr)) o_nin (qp_ix ix_A o_ix (qp_var (pv 6)) (qp_int) (fun _ _ => rfl)) (qp_var (pv 4)) rfl))))))
 (qss_one (qs_own m_append (ps_expr (pe_bm PySem.F.plainAttrs_list PySem.F.slot_list_append PySem.F.type_list_append mt_append (pv 4) (qa_cons (qe_p (qp_ix ix_A o_ix (qp_var (pv 6)) (qp_int) (fun _ _ => rfl))) (qa_nil))))))
 (qss_nil)))))))
 (qss_fz [4] (qss_one (qs_ret (qe_p (qp_cmp (op_inA (Room.u65 hr)) o_in (qp_var (pv 3)) (qp_var (pv 4)) rfl)))))), ?_⟩
  rintro as Ed Qd ⟨es, h, n, b, s, t, rfl, hok, n9, hs, q⟩
  refine ⟨_, rfl, by show 1 ≤ 1000; decide, ?_⟩
  refine ⟨_, rfl, ⟨by decide, by decide⟩, fun i e => ∃ ks ps, SrI (upTo es b) s n ks ps i ∧ e = [.d (edL es), .d (.int b), .d (.int s), .d (.int t), .own (.ls (ks.map .int)), .any, .any], ⟨[s], [[]], SrI.start hs, rfl⟩, ?_, ?_⟩
  · rintro i x e ex ⟨ks, ps, S, rfl⟩
    obtain ⟨hi, rfl⟩ := rg_get ex
    have kl := int_card S.nd S.bd
    refine ⟨decide (((ks.map D.int).length : Int) ≤ (i : Nat)), p2_of rfl (pN1 rfl rfl) rfl, fun z => ?_, fun z => ?_⟩
    · have z := of_decide_eq_true z
      rw [List.length_map] at z
      exact ⟨_, p2_of rfl rfl (inL_ints _ _), q _ (by rw [decide_eq_true_eq]; exact S.reach (by omega) t)⟩
    · have z := of_decide_eq_false z
      rw [List.length_map] at z
      have il : i < ks.length := by omega
      obtain ⟨u, hu⟩ : ∃ u, ks[i]? = some u := ⟨_, List.getElem?_eq_getElem il⟩
      refine ⟨fun j e => ∃ ks' ps', SrI (upTo es b) s n ks' ps' i ∧ (∃ tl, ks' = ks ++ tl) ∧ (∀ e ∈ es.take j, es1 e ≤ b → es0 e = u → es2 e ∈ ks') ∧ e = [.d (edL es), .d (.int b), .d (.int s), .d (.int t), .own (.ls (ks'.map .int)), .d (nat i), .any], ⟨ks, ps, S, ⟨[], (List.append_nil _).symm⟩, fun e he => (by rw [List.take_zero] at he; cases he), rfl⟩, ?_, ?_⟩
      · rintro j x e ex ⟨ks', ps', S', ⟨tl, etl⟩, cl, rfl⟩
        obtain ⟨d, ee, rfl⟩ := map_getD ex
        have ein := List.mem_of_getElem? ee
        have okd := hok d ein
        have et : es.take (j + 1) = es.take j ++ [d] := by rw [List.take_succ, ee]; rfl
        have u' : ks'[i]? = some u := by rw [etl, List.getElem?_append_left il]; exact hu
        have kl' := int_card S'.nd S'.bd
        have more : ∀ k : List Int, (∀ e ∈ es.take j, es1 e ≤ b → es0 e = u → es2 e ∈ k) → (es1 d ≤ b → es0 d = u → es2 d ∈ k) → ∀ e ∈ es.take (j + 1), es1 e ≤ b → es0 e = u → es2 e ∈ k := fun k h1 h2 e he hb h0 => by
          rw [et] at he
          rcases List.mem_append.mp he with z | z
          · exact h1 e z hb h0
          · cases List.mem_singleton.mp z
            exact h2 hb h0
        have ixu : ixD (.lst (ks'.map .int)) (nat i) = some (.int u) := atI_of (by rw [List.getElem?_map, u']; rfl)
        refine ⟨decide (es0 d = u ∧ es1 d ≤ b ∧ es2 d ∉ ks'), pand_of (a := decide (es0 d = u)) (p2_of (p2_of rfl rfl (ed_at0 okd)) (p2_of rfl rfl ixu) rfl) (fun z => pand_of (a := decide (es1 d ≤ b)) (p2_of (p2_of rfl rfl (ed_at1 okd)) rfl rfl) (fun y => p2_of (p2_of rfl rfl (ed_at2 okd)) rfl ?_) (fun y => ?_)) (fun z => ?_), fun z => ?_, fun z => ?_⟩
        · have z := of_decide_eq_true z
          have y := of_decide_eq_true y
          show notO (inL _ _) = _
          rw [inL_ints]
          show some (D.bl (!decide (es2 d ∈ ks'))) = _
          congr 2
          rw [Bool.eq_iff_iff]; simp [z, y]
        · exact decide_eq_false fun c => (of_decide_eq_false y) c.2.1
        · exact decide_eq_false fun c => (of_decide_eq_false z) c.1
        · obtain ⟨z1, z2, z3⟩ := of_decide_eq_true z
          obtain ⟨p, hp⟩ : ∃ p, ps'[i]? = some p := ⟨_, List.getElem?_eq_getElem (by rw [← S'.len]; exact (List.getElem?_eq_some_iff.mp u').1)⟩
          have hb2 : 0 ≤ es2 d ∧ es2 d < n := by
            obtain ⟨s1, r1, t1, rfl, _, _, h2⟩ := okd
            exact h2
          have S2 := S'.add u' hp (List.mem_filter.mpr ⟨ein, decide_eq_true z2⟩) z1 z3 hb2
          refine ⟨_, rfl, .int (es2 d), p2_of rfl rfl (ed_at2 okd), _, _, rfl, rfl, ?_, ks' ++ [es2 d], _, S2, ⟨tl ++ [es2 d], by rw [etl, List.append_assoc]⟩, more _ (fun e he hb h0 => List.mem_append_left _ (cl e he hb h0)) fun _ _ => by simp, ?_⟩
          · rw [List.length_append, List.length_map]; show _ + 1 ≤ 100000; omega
          · rw [List.map_append]; rfl
        · have z := of_decide_eq_false z
          refine ⟨ks', ps', S', ⟨tl, etl⟩, more _ cl fun hb h0 => ?_, rfl⟩
          apply Classical.byContradiction
          intro c; exact z ⟨h0, hb, c⟩
      · rintro e ⟨ks', ps', S', ⟨tl, etl⟩, cl, rfl⟩
        rw [List.length_map, List.take_length] at cl
        have u' : ks'[i]? = some u := by rw [etl, List.getElem?_append_left il]; exact hu
        exact ⟨ks', ps', S'.next u' fun e he h0 => cl e (List.mem_filter.mp he).1 (of_decide_eq_true (List.mem_filter.mp he).2) h0, rfl⟩
  · rintro e ⟨ks, ps, S, rfl⟩
    have kl := int_card S.nd S.bd
    have il := S.il
    rw [rg_len] at il
    have : (64 : Int).toNat = 64 := rfl
    omega
end
end LR
set_option Elab.async false
set_option maxRecDepth 100000
set_option linter.all false
set_option maxHeartbeats 4000000
namespace LR
open PySem PySem.Spec PyProof.Rows L2
section
variable {P : Program} {w : World} {K : PySem.W.Frag} {mg : Str → Option Value} {base : Heap} {ζ : Cs}
def fHasP : Fs := fun as _ Q => ∃ (es : List (List Int)) (h n par : Int), as = [.d (edL es), .d (.int par)] ∧ (∀ e ∈ es, EdgeOk h n e) ∧ n ≤ 9 ∧ ∀ v : Bool, (v = true ↔ HasPar par es) → Q (.d (.bl v))
theorem q_hasP (T : Txt P K mg ζ) : CalX P w K mg base 2 "_law_has_cycle" (spF K fHasP) := by
  have cx_reaches : CalX P w K mg base 1 "_law_reaches" (spF K fReaches) := q_reaches T
  refine T.d_has_cycle.dl sc_has_cycle (by rintro as E Q ⟨es, h, n, par, rfl, _⟩; rfl) (by decide) fun fa cdv A outer s H E hr => ⟨_, qss_cons (qs_for (vs := [2]) [2] (passes_of rfl) rfl (qi_seq (qe_var (pv 0))) (qg_name (pg_name (i := 2) sc_has_cycle.nd rfl (Or.inl rfl)))
 (qss_one (qs_if (QW.qt (qw_and (qt_p (qpt_cmp (op_eqD hr.units) o_eq (qp_op op_mod o_mod (qp_callTy o_int call_int1 (by rfl) T.n_int b_int (qps_cons (qp_ix ix_A o_ix (qp_var (pv 2)) (qp_int) (fun _ _ => rfl)) (qps_nil))) (qp_int)) (qp_var (pv 1)) (nomark _))) (qw_and1 (qt_truth (qe_cT cx_reaches hr (by first | decide | omega) (takes_of rfl rfl rfl rfl) (by rfl) (qa_cons (qe_var (pv 0)) (qa_cons (qe_p (qp_ix ix_A o_ix (qp_var (pv 2)) (qp_int) (fun _ _ => rfl))) (qa_cons (qe_p (qp_ix ix_A o_ix (qp_var (pv 2)) (qp_int) (fun _ _ => rfl))) (qa_cons (qe_p (qp_ix ix_A o_ix (qp_var (pv 2)) (qp_int) (fun _ _ => rfl))) (qa_nil))))))))))
 (qss_one (qs_ret (qe_p (qp_bl))))
 (qss_nil))))
 (qss_one (qs_ret (qe_p (qp_bl)))), ?_⟩
  rintro as Ed Qd ⟨es, h, n, par, rfl, hok, n9, q⟩
  refine ⟨fun i e => e = [.d (edL es), .d (.int par), .any] ∧ ∀ e ∈ es.take i, ¬ ParE par es e, ⟨rfl, fun e he => (by rw [List.take_zero] at he; cases he)⟩, ?_, ?_⟩
  · rintro i x e ex ⟨rfl, hn⟩
    obtain ⟨d, ee, rfl⟩ := map_getD ex
    have ein := List.mem_of_getElem? ee
    have okd := hok d ein
    have et : es.take (i + 1) = es.take i ++ [d] := by rw [List.take_succ, ee]; rfl
    have more : ¬ ParE par es d → ∀ e ∈ es.take (i + 1), ¬ ParE par es e := fun h e he => by
      rw [et] at he
      rcases List.mem_append.mp he with z | z
      · exact hn e z
      · rw [List.mem_singleton.mp z]; exact h
    refine ⟨decide (es1 d % 2 = par), p2_of (p2_of (pN1 (p2_of rfl rfl (ed_at1 okd)) rfl) rfl rfl) rfl rfl, fun z => ?_, fun z => ?_⟩
    · have z := of_decide_eq_true z
      have h2 : 0 ≤ es2 d ∧ es2 d < n := by
        obtain ⟨s1, r1, t1, rfl, _, _, h2⟩ := okd
        exact h2
      refine ⟨.int (es1 d), p2_of rfl rfl (ed_at1 okd), .int (es2 d), p2_of rfl rfl (ed_at2 okd), .int (es0 d), p2_of rfl rfl (ed_at0 okd), es, h, n, es1 d, es2 d, es0 d, rfl, hok, n9, h2, fun v hv => ⟨v, rfl, fun y => ?_, fun y => ⟨rfl, more fun o => by rw [hv.mpr o.2] at y; cases y⟩⟩⟩
      exact ⟨_, rfl, q true ⟨fun _ => ⟨d, ein, z, hv.mp y⟩, fun _ => rfl⟩⟩
    · exact ⟨(fun y => by cases y), fun _ => ⟨rfl, more fun o => (of_decide_eq_false z) o.1⟩⟩
  · rintro e ⟨rfl, hn⟩
    rw [List.length_map, List.take_length] at hn
    exact ⟨_, rfl, q false ⟨fun z => (by cases z), fun ⟨e, m, o⟩ => absurd o (hn e m)⟩⟩
end
end LR
set_option Elab.async false
set_option maxRecDepth 100000
set_option linter.all false
set_option maxHeartbeats 4000000
namespace LR
open PySem PySem.Spec PyProof.Rows L2
section
variable {P : Program} {w : World} {K : PySem.W.Frag} {mg : Str → Option Value} {base : Heap} {ζ : Cs}
theorem insE {B : Hp} {v : V} {C : Addr} {ks : List Str} {ds : List D} (h : Is K B v (.ins C ks ds)) : ∃ p, v = .ref p := by cases h; exact ⟨_, rfl⟩
def fOut (C : Addr) : Fs := fun as _ Q => ∃ (h : Int) (os : List Bool) (ss : List (List Int)) (v : Nat), as = [.d (gameD C h os ss), .d (nat v)] ∧ v < os.length ∧ (∀ e ∈ ss, EdgeOk h os.length e) ∧ ss.length ≤ 63 ∧ Q (.d (edT (outs ss v)))
theorem q_out (T : Txt P K mg ζ) : MetX P w K mg base 3 ζ.Game "out" (spF K (fOut ζ.Game)) := (ok_gout T).toX.imp fun vs H Q E h => by
  obtain ⟨g, as, Ed, Qd, en, ia, ⟨h, os, ss, v, rfl, hv, hok, hl, q⟩, kv, _⟩ := h
  obtain ⟨v1, r, rfl, i1, ia⟩ := ia.d1
  obtain ⟨v2, r, rfl, i2, ia⟩ := ia.d1
  cases ia.n0
  obtain ⟨x, rfl⟩ := insE i1
  have G := (gameD_at i1).same en.ok.sb
  refine ⟨x, h, os.length, v, ss, by rw [i2.intE], G.edges, hok, hl, ⟨by omega, by omega⟩, fun H' b us s hb rows => ?_⟩
  have e1 : (ss.filter fun e => decide (e.head? = some (v : Int))) = outs ss v := by
    unfold outs
    refine List.filter_congr fun e he => ?_
    obtain ⟨s0, r0, t0, rfl, _⟩ := hok e he
    rw [decide_eq_decide]
    show some s0 = some (v : Int) ↔ s0 = (v : Int)
    exact ⟨fun h => Option.some.inj h, fun h => by rw [h]⟩
  rw [e1] at rows
  have w1 := en.ok.same s
  have b1 := w1.im _ _ hb trivial
  have b3 : RowsH (g.grow H H').B us (outs ss v) := ⟨rows.1, fun k t e a b => w1.im _ _ (rows.2 k t e a b) trivial⟩
  have ol : (outs ss v).length ≤ 63 := Nat.le_trans (List.length_filter_le _ _) hl
  refine kv _ (.d (edT (outs ss v))) H' _ (grow_le en.ok) w1 (.tup b1 (rows_iss b3 (ed3 fun e he => hok e (mem_outs.mp he).1)) ?_) q
  rw [List.length_map, rows.1]; omega
theorem q_nodeX (T : Txt P K mg ζ) : CalX P w K mg base 3 "check_node" (spF K fun as Ed Q => ∃ (n : Nat) (v : Int), as = [.d (nat n), .d (.int v)] ∧ v.natAbs < 2 ^ 1900 ∧ (¬ (0 ≤ v ∧ v < n) → Ed ⟨ζ.NoSuchNode, some [("node", .int v)]⟩) ∧ ((0 ≤ v ∧ v < n) → Q (.d .non))) := by
  have e_NoSuchNode := err_NoSuchNode (P := P) (w := w) (base := base) T
  refine T.d_check_node.dl sc_check_node (by rintro as E Q ⟨n, v, rfl, _⟩; rfl) (by decide) fun fa cdv A outer s H E hr => ⟨_, qss_one (qs_if (qt_p (qpt_not (qpt_chain op_le op_lt o_cmp o_cmp (qp_int) (qp_var (pv 1)) (qp_var (pv 0)))))
 (qss_one (qs_raiseE rfl (takes_of rfl rfl rfl rfl) e_NoSuchNode hr (by first | decide | omega) (qe_var (pv 1)) rfl))
 (qss_nil)), ?_⟩
  rintro as Ed Qd ⟨n, v, rfl, vb, q1, q2⟩
  refine ⟨!(decide (0 ≤ v) && decide (v < (n : Int))), rfl, fun z => ?_, fun z => q2 ?_⟩
  · refine ⟨_, rfl, vb, q1 fun c => ?_⟩
    rw [decide_eq_true c.1, decide_eq_true c.2] at z; cases z
  · simp at z
    omega
end
end LR
set_option Elab.async false
set_option maxRecDepth 100000
set_option linter.all false
set_option maxHeartbeats 4000000
namespace LR
open PySem PySem.Spec PyProof.Rows L2
section
variable {P : Program} {w : World} {K : PySem.W.Frag} {mg : Str → Option Value} {base : Heap} {ζ : Cs}
abbrev entD : Option (List Int) → D := wnE
def planD (pl : List (Option (List Int))) : D := .lst (pl.map entD)
end
end LR
set_option Elab.async false
set_option maxRecDepth 100000
set_option linter.all false
set_option maxHeartbeats 4000000
namespace LR
open PySem PySem.Spec PyProof.Rows L2
section
variable {P : Program} {w : World} {K : PySem.W.Frag} {mg : Str → Option Value} {base : Heap} {ζ : Cs}
def plS (b : Bool) : Str := if b = true then Str.ofString "A" else Str.ofString "B"
theorem eq_plS (o b : Bool) : eqD (.str ⟨#[ltr o]⟩) (.str (plS b)) = some (.bl (o == b)) := by
  show (if PyData.strOk ⟨#[ltr o]⟩ = true ∧ PyData.strOk (plS b) = true then some (D.bl (decide ((⟨#[ltr o]⟩ : Str) = plS b))) else none) = _
  cases o <;> cases b <;> (rw [if_pos ⟨by decide +kernel, by decide +kernel⟩]; first | (rw [decide_eq_false (by decide +kernel)]; rfl) | (rw [decide_eq_true (by decide +kernel)]; rfl))
theorem owner_at {os : List Bool} {v : Nat} (hl : os.length ≤ 1000) (hv : v < os.length) : ixD (.str (strO os)) (.int (v : Int)) = some (.str ⟨#[ltr (os.getD v false)]⟩) := by
  rw [getD_get hv]; exact strO_ix hl (List.getElem?_eq_getElem hv)
def plf (pl : List (Option (List Int))) (x : Int) : Option (List Int) := pl.getD x.toNat none
theorem plan_at {pl : List (Option (List Int))} {v : Nat} (h : v < pl.length) : ixD (planD pl) (.int (v : Int)) = some (entD (plf pl (v : Int))) := by
  refine atI_of ?_
  unfold plf
  rw [List.getElem?_map, List.getElem?_eq_getElem h, Int.toNat_natCast, getD_get h]; rfl
theorem okn_ent (o : Option (List Int)) (n : Nat) : okn (n + 1) (entD o) = true := by
  cases o with
  | none => rfl
  | some e => exact okn_tupI n e
theorem nbn_ent (o : Option (List Int)) : nbn 1 (entD o) = true := by
  cases o with
  | none => rfl
  | some e => exact nbn_tupI e
theorem ent_inj {o : Option (List Int)} {e : List Int} : entD o = intT e ↔ o = some e := by
  cases o with
  | none => exact ⟨fun h => (by cases h), fun h => (by cases h)⟩
  | some x =>
    constructor
    · intro h
      have h : D.tup (x.map .int) = .tup (e.map .int) := h
      injection h with h
      have : x = e := by
        have := congrArg (List.map (fun d => match d with | D.int i => i | _ => 0)) h
        simpa [List.map_map, Function.comp_def] using this
      rw [this]
    · intro h; cases h; rfl
theorem ent_eq (o : Option (List Int)) (e : List Int) : eqD (entD o) (intT e) = some (.bl (decide (o = some e))) :=
  eqD_nb 1 (okn_ent o 29) (okn_tupI 29 e) (nbn_ent o) (nbn_tupI e) (by rw [decide_eq_true_eq]; exact ent_inj.symm)
theorem q_nodes (T : Txt P K mg ζ) : CalX P w K mg base 4 "check_nodes" (spF K fun as _ Q => ∃ (n : Nat) (ns : List Int), as = [.d (nat n), .d (intL ns)] ∧ n ≤ 9 ∧ (∀ v ∈ ns, 0 ≤ v ∧ v < n) ∧ Q (.d .non)) := by
  have cx_check_node := q_nodeX (P := P) (w := w) (base := base) T
  refine T.d_check_nodes.dl sc_check_nodes (by rintro as E Q ⟨n, ns, rfl, _⟩; rfl) (by decide) fun fa cdv A outer s H E hr => ⟨_, qss_one (qs_for (vs := [2]) [2] (passes_of rfl) rfl (qi_seq (qe_var (pv 1))) (qg_name (pg_name (i := 2) sc_check_nodes.nd rfl (Or.inl rfl)))
 (qss_one (qs_expr (qe_cT cx_check_node hr (by first | decide | omega) (takes_of rfl rfl rfl rfl) (by rfl) (qa_cons (qe_var (pv 0)) (qa_cons (qe_var (pv 2)) (qa_nil))))))), ?_⟩
  rintro as Ed Qd ⟨n, ns, rfl, n9, hb, q⟩
  refine ⟨fun i e => e = [.d (nat n), .d (intL ns), .any], rfl, ?_, ?_⟩
  · rintro i x e ex rfl
    obtain ⟨v, ev, rfl⟩ := map_getD ex
    have hv := hb v (List.mem_of_getElem? ev)
    exact ⟨n, v, rfl, Nat.lt_of_le_of_lt (show v.natAbs ≤ 1000 by omega) (by decide), fun c => absurd hv c, fun _ => rfl⟩
  · rintro e rfl
    exact q
def fEdgesOf (G : Addr) : Fs := fun as _ Q => ∃ (h : Int) (os : List Bool) (ss : List (List Int)) (who : Bool) (ns : List Int) (pl : List (Option (List Int))), as = [.d (gameD G h os ss), .d (.str (plS who)), .d (intL ns), .d (planD pl)] ∧ os.length ≤ 9 ∧ pl.length = os.length ∧ (∀ e ∈ ss, EdgeOk h os.length e) ∧ Q (.d (edL (ss.filter fun e => inNet os (plf pl) who ns e)))
theorem q_edgesOf (T : Txt P K mg ζ) : CalX P w K mg base 1 "edges_of_plan" (spF K (fEdgesOf ζ.Game)) := by
  refine T.d_edges_of_plan.dl sc_edges_of_plan (by rintro as E Q ⟨h, os, ss, who, ns, pl, rfl, _⟩; rfl) (by decide) fun fa cdv A outer s H E hr => ⟨_, qss_one (qs_ret (qe_p (qp_lc (own := [("edge", 4)]) (it := ipSeq _) rfl sc_edges_of_plan.nd (fun W => qi_seq (qe_p (qp_fld (qp_var (pv 0)) rfl))) (blkOk_by (N := N_edges_of_plan) (sc := defScope s_edges_of_plan) (by decide +kernel)) (fun _ _ _ _ _ => qg_name (pg_name (i := 4) sc_edges_of_plan.nd rfl (Or.inl rfl))) (fun _ _ _ _ _ => qpts_one (QPW.qpt (qpw_and (qpt_cmp (op_inA (Room.u65 hr)) o_in (qp_ix ix_A o_ix (qp_var (pv 4)) (qp_int) (fun _ _ => rfl)) (qp_var (pv 2)) rfl) (qpw_and1 (QPW.qpt (qpw_or (qpt_cmp (op_neD hr.units) o_ne (qp_ix ix_A o_ix (qp_fld (qp_var (pv 0)) rfl) (qp_ix ix_A o_ix (qp_var (pv 4)) (qp_int) (fun _ _ => rfl)) (fun _ _ => rfl)) (qp_var (pv 1)) (nomark _)) (qpw_or1 (qpt_cmp (op_eqD hr.units) o_eq (qp_ix ix_A o_ix (qp_var (pv 3)) (qp_ix ix_A o_ix (qp_var (pv 4)) (qp_int) (fun _ _ => rfl)) (fun _ _ => rfl)) (qp_var (pv 4)) (nomark _))))))))) (fun _ _ _ _ _ => qp_var (pv 4))))), ?_⟩
  rintro as Ed Qd ⟨h, os, ss, who, ns, pl, rfl, n9, pll, hok, q⟩
  refine ⟨_, plc_of rfl (pseq_edX (tp := true) (p1_of rfl rfl)) (pcol_map (l := ss) (enc := intT) (P := fun e => inNet os (plf pl) who ns e) (F := intT) fun e he => ?_), q⟩
  have oe := hok e he
  refine pturn_of rfl ?_ fun _ => rfl
  · obtain ⟨s0, r0, t0, rfl, hs, hr, ht⟩ := oe
    obtain ⟨v, rfl⟩ : ∃ v : Nat, s0 = (v : Int) := ⟨s0.toNat, by omega⟩
    show _ = some (D.bl (decide ((v : Int) ∈ ns) && (!(os.getD (v : Int).toNat false == who) || decide (plf pl (v : Int) = some [(v : Int), r0, t0]))))
    refine pand_of (a := decide ((v : Int) ∈ ns)) (p2_of (p2_of rfl rfl (atI_of (k := 0) rfl)) rfl (inL_ints _ _)) (fun z => ?_) (fun z => by rw [z]; rfl)
    rw [z, Bool.true_and]
    have e0 : ∀ env, p2 ixD (pvar 4) (pc (.int 0)) env = p2 ixD (pvar 4) (pc (.int 0)) env := fun _ => rfl
    refine por_of (a := !(os.getD (v : Int).toNat false == who)) ?_ (fun y => ?_) (fun y => by rw [y]; rfl)
    · refine p2_of (p2_of (p1_of rfl rfl) (p2_of rfl rfl (atI_of (k := 0) rfl)) (owner_at (by omega) (show v < os.length by omega))) rfl ?_
      show notO (eqD _ _) = _
      rw [eq_plS]; rfl
    · rw [y, Bool.false_or]
      exact p2_of (p2_of rfl (p2_of rfl rfl (atI_of (k := 0) rfl)) (plan_at (by omega))) rfl (ent_eq _ _)
/-- what a plan comes to: its nodes there, its entries edges of their nodes -/
def fJudge (G : Addr) : Fs := fun as _ Q => ∃ (h : Int) (os : List Bool) (ss : List (List Int)) (who : Bool) (ns : List Int) (pl : List (Option (List Int))), as = [.d (gameD G h os ss), .d (.str (plS who)), .d (intL ns), .d (planD pl)] ∧ os.length ≤ 9 ∧ pl.length = os.length ∧ (∀ e ∈ ss, EdgeOk h os.length e) ∧ ss.length ≤ 63 ∧ (∀ v ∈ ns, 0 ≤ v ∧ v < os.length) ∧
  (∀ v ∈ ns, os.getD v.toNat false = who → ∀ e, plf pl v = some e → e ∈ ss ∧ es0 e = v) ∧
  (∀ v ∈ ns, os.getD v.toNat false = who → plf pl v = none → Q (.d (.tup [.str (Str.ofString "missing"), .int v]))) ∧
  (∀ e ∈ ss, inNet os (plf pl) who ns e = true → es2 e ∉ ns → Q (.d (.tup [.str (Str.ofString "leak"), intT e]))) ∧
  (∀ c, HasPar (if who = true then 1 else 0) (ss.filter fun e => inNet os (plf pl) who ns e) → Q (.d (.tup [.str (Str.ofString "cycle"), edL c]))) ∧
  ((∀ v ∈ ns, os.getD v.toNat false = who → plf pl v ≠ none) → (∀ e ∈ ss, inNet os (plf pl) who ns e = true → es2 e ∈ ns) → ¬ HasPar (if who = true then 1 else 0) (ss.filter fun e => inNet os (plf pl) who ns e) → Q (.d .non))
theorem q_judge (T : Txt P K mg ζ) : CalX P w K mg base 5 "judge" (spF K (fJudge ζ.Game)) := by
  have cx_check_nodes := q_nodes (P := P) (w := w) (base := base) T
  have cx_G_out : MetX P w K mg base 3 ζ.Game "out" (spF K (fOut ζ.Game)) := q_out T
  have cx_edges_of_plan : CalX P w K mg base 1 "edges_of_plan" (spF K (fEdgesOf ζ.Game)) := q_edgesOf T
  have cx_cycle_with : CalX P w K mg base 3 "cycle_with" (spF K fCycP) := q_cycP T
  refine T.d_judge.dl sc_judge (by rintro as E Q ⟨h, os, ss, who, ns, pl, rfl, _⟩; rfl) (by decide) fun fa cdv A outer s H E hr => ⟨_, qss_cons (qs_expr (qe_cT cx_check_nodes hr (by first | decide | omega) (takes_of rfl rfl rfl rfl) (by rfl) (qa_cons (qe_p (qp_fld (qp_var (pv 0)) rfl)) (qa_cons (qe_var (pv 2)) (qa_nil)))))
 (qss_cons (qs_setLcP (own := [("node", 5)]) (it := ipSeq _) (i := 4) false rfl sc_judge.nd rfl rfl (sw_true rfl rfl rfl (by decide +kernel)) (qi_seq (qe_p (qp_callB o_sortI cr_sortedI (by rfl) T.n_sorted b_sorted (qps_cons (qp_var (pv 2)) (qps_nil))))) (blkOk_by (N := N_judge) (sc := defScope s_judge) (by decide +kernel)) (fun _ _ _ _ _ => qg_name (pg_name (i := 5) sc_judge.nd rfl (Or.inl rfl))) (fun _ _ _ _ _ => qpts_one (qpt_cmp (op_eqD hr.units) o_eq (qp_ix ix_A o_ix (qp_fld (qp_var (pv 0)) rfl) (qp_var (pv 5)) (fun _ _ => rfl)) (qp_var (pv 1)) (nomark _))) (fun _ _ _ _ _ => qp_var (pv 5)))
 (qss_cons (qs_for (vs := [5]) [5] (passes_of rfl) rfl (qi_seq (qe_var (pv 4))) (qg_name (pg_name (i := 5) sc_judge.nd rfl (Or.inl rfl)))
 (qss_one (qs_if (QW.qt (qw_and (qt_p (qpt_cmp op_notN o_notN (qp_ix ix_A o_ix (qp_var (pv 3)) (qp_var (pv 5)) (fun _ _ => rfl)) (qp_non) (nomark _))) (qw_and1 (qt_cmp (op_notInA (Room.u65 hr)) o_nin (qe_p (qp_ix ix_A o_ix (qp_var (pv 3)) (qp_var (pv 5)) (fun _ _ => rfl))) (qe_mtT cx_G_out hr (by first | decide | omega) (takes_of rfl rfl rfl rfl) (qe_var (pv 0)) (qa_cons (qe_var (pv 5)) (qa_nil))) rfl))))
 (qss_one (qs_never))
 (qss_nil))))
 (qss_cons (qs_for (vs := [5]) [5] (passes_of rfl) rfl (qi_seq (qe_var (pv 4))) (qg_name (pg_name (i := 5) sc_judge.nd rfl (Or.inl rfl)))
 (qss_one (qs_if (qt_p (qpt_cmp op_isN o_isN (qp_ix ix_A o_ix (qp_var (pv 3)) (qp_var (pv 5)) (fun _ _ => rfl)) (qp_non) (nomark _)))
 (qss_one (qs_ret (qe_p (qp_tup (qps_cons (qp_str) (qps_cons (qp_var (pv 5)) (qps_nil)))))))
 (qss_nil))))
 (qss_cons (qs_setN (i := 6) false sc_judge.nd rfl (Or.inl rfl) (qe_cT cx_edges_of_plan hr (by first | decide | omega) (takes_of rfl rfl rfl rfl) (by rfl) (qa_cons (qe_var (pv 0)) (qa_cons (qe_var (pv 1)) (qa_cons (qe_var (pv 2)) (qa_cons (qe_var (pv 3)) (qa_nil)))))))
 (qss_cons (qs_for (vs := [7]) [7] (passes_of rfl) rfl (qi_seq (qe_var (pv 6))) (qg_name (pg_name (i := 7) sc_judge.nd rfl (Or.inl rfl)))
 (qss_one (qs_if (qt_p (qpt_cmp (op_notInA (Room.u65 hr)) o_nin (qp_ix ix_A o_ix (qp_var (pv 7)) (qp_int) (fun _ _ => rfl)) (qp_var (pv 2)) rfl))
 (qss_one (qs_ret (qe_p (qp_tup (qps_cons (qp_str) (qps_cons (qp_var (pv 7)) (qps_nil)))))))
 (qss_nil))))
 (qss_cons (qs_setN (i := 8) false sc_judge.nd rfl (Or.inl rfl) (qe_cT cx_cycle_with hr (by first | decide | omega) (takes_of rfl rfl rfl rfl) (by rfl) (qa_cons (qe_var (pv 6)) (qa_cons (qe_p (qp_if (qpt_cmp (op_eqD hr.units) o_eq (qp_var (pv 1)) (qp_str) (nomark _)) (qp_int) (qp_int))) (qa_nil)))))
 (qss_cons (qs_if (qt_p (qpt_cmp op_notN o_notN (qp_var (pv 8)) (qp_non) (nomark _)))
 (qss_one (qs_ret (qe_p (qp_tup (qps_cons (qp_str) (qps_cons (qp_var (pv 8)) (qps_nil)))))))
 (qss_nil))
 (qss_one (qs_ret (qe_p (qp_non))))))))))), ?_⟩
  rintro as Ed Qd ⟨h, os, ss, who, ns, pl, rfl, n9, pll, hok, hl, hns, hen, q1, q2, q3, q4⟩
  refine ⟨_, p1_of rfl rfl, os.length, ns, rfl, n9, hns, ?_⟩
  let U : List Int := (sortI ns).filter fun v => os.getD v.toNat false == who
  have hU : ∀ v, v ∈ U ↔ v ∈ ns ∧ os.getD v.toNat false = who := fun v => by
    rw [List.mem_filter, (sortI_perm ns).mem_iff, beq_iff_eq]
  have nat_of : ∀ v ∈ ns, ∃ u : Nat, v = (u : Int) ∧ u < os.length := fun v hv => by
    have := hns v hv
    exact ⟨v.toNat, by omega, by omega⟩
  refine ⟨U.map D.int, plc_of rfl (pseq_of (pN1 rfl (by show (ins (ns.map D.int)).map _ = _; rw [ins_map]; rfl))) (pcol_map (l := sortI ns) (enc := D.int) (P := fun v => os.getD v.toNat false == who) (F := D.int) fun v hv => ?_), ?_⟩
  · obtain ⟨u, rfl, hu⟩ := nat_of v ((sortI_perm ns).mem_iff.mp hv)
    exact pturn_of rfl (p2_of (p2_of (p1_of rfl rfl) rfl (owner_at (by omega) hu)) rfl (by rw [Int.toNat_natCast]; exact eq_plS _ _)) fun _ => rfl
  refine ⟨fun i e => e = [.d (gameD ζ.Game h os ss), .d (.str (plS who)), .d (intL ns), .d (planD pl), .d (intL U), .any, .any, .any, .any], rfl, ?_, ?_⟩
  · rintro i x e ex rfl
    obtain ⟨v, ev, rfl⟩ := map_getD ex
    have mv := (hU v).mp (List.mem_of_getElem? ev)
    obtain ⟨u, rfl, hu⟩ := nat_of v mv.1
    have ep := plan_at (pl := pl) (v := u) (by omega)
    cases c : plf pl (u : Int) with
    | none =>
      rw [c] at ep
      exact ⟨false, p2_of (p2_of rfl rfl ep) rfl rfl, fun z => (by cases z), fun _ => ⟨fun z => (by cases z), fun _ => rfl⟩⟩
    | some ed =>
      rw [c] at ep
      obtain ⟨m, e0⟩ := hen _ mv.1 mv.2 ed c
      refine ⟨true, p2_of (p2_of rfl rfl ep) rfl rfl, fun _ => ?_, fun z => by cases z⟩
      obtain ⟨b, eb, hb⟩ := nin_eds ed (outs ss u)
      have b0 : b = false := by
        cases b with
        | false => rfl
        | true => exact absurd (mem_outs.mpr ⟨m, e0⟩) (hb.mp rfl)
      subst b0
      exact ⟨_, p2_of rfl rfl ep, _, _, rfl, rfl, h, os, ss, u, rfl, hu, hok, hl, _, eb, _, rfl, (fun z => by cases z), fun _ => rfl⟩
  rintro e rfl
  refine ⟨fun i e => e = [.d (gameD ζ.Game h os ss), .d (.str (plS who)), .d (intL ns), .d (planD pl), .d (intL U), .any, .any, .any, .any] ∧ ∀ v ∈ U.take i, plf pl v ≠ none, ⟨rfl, fun v hv => (by rw [List.take_zero] at hv; cases hv)⟩, ?_, ?_⟩
  · rintro i x e ex ⟨rfl, hp⟩
    obtain ⟨v, ev, rfl⟩ := map_getD ex
    have mv := (hU v).mp (List.mem_of_getElem? ev)
    obtain ⟨u, rfl, hu⟩ := nat_of v mv.1
    have ep := plan_at (pl := pl) (v := u) (by omega)
    cases c : plf pl (u : Int) with
    | none =>
      rw [c] at ep
      exact ⟨true, p2_of (p2_of rfl rfl ep) rfl rfl, fun z => ⟨_, rfl, q1 _ mv.1 mv.2 c⟩, fun z => by cases z⟩
    | some ed =>
      rw [c] at ep
      refine ⟨false, p2_of (p2_of rfl rfl ep) rfl rfl, (fun z => by cases z), fun _ => ⟨rfl, fun v hv => ?_⟩⟩
      rw [List.take_succ, ev] at hv
      rcases List.mem_append.mp hv with z | z
      · exact hp v z
      · have : v = (u : Int) := List.mem_singleton.mp z
        rw [this, c]; intro y; cases y
  rintro e ⟨rfl, hp⟩
  rw [List.length_map, List.take_length] at hp
  refine ⟨h, os, ss, who, ns, pl, rfl, n9, pll, hok, ?_⟩
  let W : List (List Int) := ss.filter fun e => inNet os (plf pl) who ns e
  have hW : ∀ e ∈ W, e ∈ ss ∧ inNet os (plf pl) who ns e = true := fun e he => List.mem_filter.mp he
  refine ⟨fun i e => e = [.d (gameD ζ.Game h os ss), .d (.str (plS who)), .d (intL ns), .d (planD pl), .d (intL U), .any, .d (edL W), .any, .any] ∧ ∀ e ∈ W.take i, es2 e ∈ ns, ⟨rfl, fun v hv => (by rw [List.take_zero] at hv; cases hv)⟩, ?_, ?_⟩
  · rintro i x e ex ⟨rfl, hq⟩
    obtain ⟨ed, ee, rfl⟩ := map_getD ex
    have em := hW ed (List.mem_of_getElem? ee)
    refine ⟨!decide (es2 ed ∈ ns), p2_of (p2_of rfl rfl (ed_at2 (hok ed em.1))) rfl (by show notO (inL _ _) = _; rw [inL_ints]; rfl), fun z => ⟨_, rfl, q2 ed em.1 em.2 (by simpa using z)⟩, fun z => ⟨rfl, fun e he => ?_⟩⟩
    rw [List.take_succ, ee] at he
    rcases List.mem_append.mp he with y | y
    · exact hq e y
    · rw [List.mem_singleton.mp y]; simpa using z
  rintro e ⟨rfl, hq⟩
  rw [List.length_map, List.take_length] at hq
  have ew : pif (p2 eqD (pvar 1) (pc (D.str (Str.ofString "A")))) (pc (D.int 1)) (pc (D.int 0)) [.d (gameD ζ.Game h os ss), .d (.str (plS who)), .d (intL ns), .d (planD pl), .d (intL U), .any, .d (edL W), .any, .any] = some (.int (if who = true then 1 else 0)) := by
    cases who
    · exact pif_of (b := false) (p2_of rfl rfl (by show (if PyData.strOk (Str.ofString "B") = true ∧ PyData.strOk (Str.ofString "A") = true then some (D.bl (decide (Str.ofString "B" = Str.ofString "A"))) else none) = _; rw [if_pos ⟨by decide +kernel, by decide +kernel⟩, decide_eq_false (by decide +kernel)])) (fun z => by cases z) fun _ => rfl
    · exact pif_of (b := true) (p2_of rfl rfl (by show (if PyData.strOk (Str.ofString "A") = true ∧ PyData.strOk (Str.ofString "A") = true then some (D.bl (decide (Str.ofString "A" = Str.ofString "A"))) else none) = _; rw [if_pos ⟨by decide +kernel, by decide +kernel⟩, decide_eq_true rfl])) (fun _ => rfl) (fun z => by cases z)
  refine ⟨_, ew, false, W, h, os.length, _, rfl, fun e he => hok e (hW e he).1, Nat.le_trans (List.length_filter_le _ _) (by omega), by omega, fun no => ?_, fun c _ hp => ?_⟩
  · refine ⟨false, rfl, (fun z => by cases z), fun _ => ⟨_, rfl, q4 (fun v hv ho => hp v ((hU v).mpr ⟨hv, ho⟩)) (fun e he hn => hq e (List.mem_filter.mpr ⟨he, hn⟩)) no⟩⟩
  · exact ⟨true, rfl, fun _ => ⟨_, rfl, q3 c hp⟩, fun z => by cases z⟩
end
end LR
set_option Elab.async false
set_option maxRecDepth 100000
set_option linter.all false
set_option maxHeartbeats 4000000
namespace LR
open PySem PySem.Spec PyProof.Rows L2
section
variable {P : Program} {w : World} {K : PySem.W.Frag} {mg : Str → Option Value} {base : Heap} {ζ : Cs}
def fOppo : Fs := fun as _ Q => ∃ p : Bool, as = [.d (whoD p)] ∧ Q (.d (whoD (!p)))
theorem q_oppo (T : Txt P K mg ζ) : CalX P w K mg base 1 "opponent" (spF K fOppo) := by
  refine T.d_opponent.dl sc_opponent (by rintro as E Q ⟨p, rfl, _⟩; rfl) (by decide) fun fa cdv A outer s H E hr => ⟨_, qss_one (qs_ret (qe_p (qp_if (qpt_cmp (op_eqD hr.units) o_eq (qp_var (pv 0)) (qp_str) (nomark _)) (qp_str) (qp_str)))), ?_⟩
  rintro as Ed Qd ⟨p, rfl, q⟩
  refine ⟨_, pif_of (b := p) (p2_of rfl rfl (ltr_A p)) (fun z => ?_) (fun z => ?_), q⟩
  · subst z; rfl
  · subst z; rfl
def fWant : Fs := fun as _ Q => ∃ r : Int, as = [.d (.int r)] ∧ 0 ≤ r ∧ r ≤ 2000 ∧ Q (.d (whoD (decide (r % 2 = 0))))
theorem q_want (T : Txt P K mg ζ) : CalX P w K mg base 1 "wanting" (spF K fWant) := by
  refine T.d_wanting.dl sc_wanting (by rintro as E Q ⟨p, rfl, _⟩; rfl) (by decide) fun fa cdv A outer s H E hr => ⟨_, qss_one (qs_ret (qe_p (qp_if (qpt_cmp (op_eqD hr.units) o_eq (qp_op op_mod o_mod (qp_var (pv 0)) (qp_int)) (qp_int) (nomark _)) (qp_str) (qp_str)))), ?_⟩
  rintro as Ed Qd ⟨r, rfl, h0, h1, q⟩
  refine ⟨_, pif_of (b := decide (r % 2 = 0)) (p2_of (p2_of rfl rfl rfl) rfl rfl) (fun z => ?_) (fun z => ?_), q⟩
  · rw [z]; rfl
  · rw [z]; rfl
def fBetw : Fs := fun as _ Q => ∃ (tp : Bool) (ns : List Int) (es : List (List Int)) (n : Int), as = [.d (intL ns), .d (edX tp es)] ∧ (∀ e ∈ es, EdgeOk 1000 n e) ∧ Q (.d (edL (btw ns es)))
theorem q_betw (T : Txt P K mg ζ) : CalX P w K mg base 1 "_between" (spF K fBetw) := by
  refine T.d__between.dl sc__between (by rintro as E Q ⟨tp, ns, es, n, rfl, _⟩; rfl) (by decide) fun fa cdv A outer s H E hr => ⟨_, qss_one (qs_ret (qe_p (qp_lc (own := [("edge", 2)]) (it := ipSeq _) rfl sc__between.nd (fun W => qi_seq (qe_p (qp_var (pv 1)))) (blkOk_by (N := N__between) (sc := defScope s__between) (by decide +kernel)) (fun _ _ _ _ _ => qg_name (pg_name (i := 2) sc__between.nd rfl (Or.inl rfl))) (fun _ _ _ _ _ => qpts_one (QPW.qpt (qpw_and (qpt_cmp (op_inA (Room.u65 hr)) o_in (qp_ix ix_A o_ix (qp_var (pv 2)) (qp_int) (fun _ _ => rfl)) (qp_var (pv 0)) rfl) (qpw_and1 (qpt_cmp (op_inA (Room.u65 hr)) o_in (qp_ix ix_A o_ix (qp_var (pv 2)) (qp_int) (fun _ _ => rfl)) (qp_var (pv 0)) rfl))))) (fun _ _ _ _ _ => qp_var (pv 2))))), ?_⟩
  rintro as Ed Qd ⟨tp, ns, es, n, rfl, hok, q⟩
  refine ⟨_, plc_of rfl (pseq_edX rfl) (pcol_map (l := es) (enc := intT) (P := fun e => decide (es0 e ∈ ns) && decide (es2 e ∈ ns)) (F := intT) fun e he => ?_), q⟩
  have ok := hok e he
  refine pturn_of rfl (pand_of (a := decide (es0 e ∈ ns)) (p2_of (p2_of rfl rfl (ed_at0 ok)) rfl (inL_ints _ _)) (fun z => ?_) (fun z => by rw [z]; rfl)) fun _ => rfl
  rw [z, Bool.true_and]
  exact p2_of (p2_of rfl rfl (ed_at2 ok)) rfl (inL_ints _ _)
end
end LR
set_option Elab.async false
set_option maxRecDepth 100000
set_option linter.all false
set_option maxHeartbeats 4000000
namespace LR
open PySem PySem.Spec PyProof.Rows L2
section
variable {P : Program} {w : World} {K : PySem.W.Frag} {mg : Str → Option Value} {base : Heap} {ζ : Cs}
def PullOk (os : List Bool) (ns : List Int) (es : List (List Int)) : Prop := (∀ v ∈ ns, 0 ≤ v ∧ v < os.length) ∧ ns.Nodup ∧ os.length ≤ 9 ∧ (∀ e ∈ es, EdgeOk 1000 os.length e) ∧ es.length ≤ 63
def fPull : Fs := fun as _ Q => ∃ (tp : Bool) (os : List Bool) (ns : List Int) (es : List (List Int)) (p : Bool) (won : Tab) (d : Option Int), as = [.d (.str (strO os)), .d (intL ns), .d (edX tp es), .d (whoD p), .d (tabD won), .d (rkD d)] ∧ PullOk os ns es ∧ (keysT won).Nodup ∧ (∀ v ∈ keysT won, v ∈ ns) ∧ ∀ w, Pul os es p d won w → (∀ v ∈ keysT w, v ∈ ns) → Stop os ns es p d w → Q (.d (tabD w))
theorem imds_intTs : ∀ l : List (List Int), imds (l.map intT) = true
  | [] => rfl
  | x :: l => by
    show (imd (intT x) && imds (l.map intT)) = true
    rw [imds_intTs l, Bool.and_true]; exact imds_intsL x
theorem q_pull (T : Txt P K mg ζ) : CalX P w K mg base 1 "_pull" (spF K fPull) := by
  refine T.d__pull.dl sc__pull (by rintro as E Q ⟨tp, os, ns, es, p, won, d, rfl, _⟩; rfl) (by decide) fun fa cdv A outer s H E hr => ⟨_, qss_cons (qs_setN (i := 6) true sc__pull.nd rfl (by first | exact Or.inr rfl | exact Or.inl rfl) (qe_dcopy (i := 4) (own := ("node", 7)) rfl sc__pull.nd (pv 4) (blkOk_by (N := N__pull) (sc := defScope s__pull) (by decide +kernel)) rfl (fun _ _ _ _ _ => pg_name (i := 7) sc__pull.nd rfl (Or.inl rfl)) (fun _ _ _ _ _ => pv 7) (fun _ _ _ _ _ => pe_dget (Room.dl1 hr) (pv 4) (pv 7) (fun _ _ => rfl))))
 (qss_cons (qs_setN (i := 8) false sc__pull.nd rfl (Or.inl rfl) (qe_p (qp_neg (qp_int))))
 (qss_cons (qs_while [7, 9, 11] (passes_of rfl) (qt_loan (qpt_cmp op_lt o_cmp (qp_var (pv 8)) (qp_callB o_lenDic call_lenD (by rfl) T.n_len b_len (qps_cons (qp_var (pv 6)) (qps_nil))) (nomark _)))
 (qss_cons (qs_setN (i := 8) false sc__pull.nd rfl (Or.inl rfl) (qe_loan (qp_callB o_lenDic call_lenD (by rfl) T.n_len b_len (qps_cons (qp_var (pv 6)) (qps_nil)))))
 (qss_one (qs_for (vs := [7]) [7, 9, 11] (passes_of rfl) rfl (qi_seq (qe_var (pv 1))) (qg_name (pg_name (i := 7) sc__pull.nd rfl (by first | exact Or.inr rfl | exact Or.inl rfl)))
 (qss_one (qs_if (qt_loan (qpt_dnin rfl (Room.dl1 hr) (qp_var (pv 7)) (qp_var (pv 6))))
 (qss_cons (qs_setLcP (own := [("edge", 10)]) (it := ipSeq _) (i := 9) false rfl sc__pull.nd rfl rfl (sw_true rfl rfl rfl (by decide +kernel)) (qi_seq (qe_p (qp_var (pv 2)))) (blkOk_by (N := N__pull) (sc := defScope s__pull) (by decide +kernel)) (fun _ _ _ _ _ => qg_name (pg_name (i := 10) sc__pull.nd rfl (Or.inl rfl))) (fun _ _ _ _ _ => qpts_one (qpt_cmp (op_eqD hr.units) o_eq (qp_ix ix_A o_ix (qp_var (pv 10)) (qp_int) (fun _ _ => rfl)) (qp_var (pv 7)) (nomark _))) (fun _ _ _ _ _ => qp_var (pv 10)))
 (qss_cons (qs_setLcPL (own := [("edge", 10)]) (it := ipSeq _) (i := 11) false rfl sc__pull.nd rfl rfl (sw_true rfl rfl rfl (by decide +kernel)) (qi_seq (qe_p (qp_var (pv 9)))) (blkOk_by (N := N__pull) (sc := defScope s__pull) (by decide +kernel)) (fun _ _ _ _ _ => qg_name (pg_name (i := 10) sc__pull.nd rfl (Or.inl rfl))) (fun _ _ _ _ _ => qpts_one (QPW.qpt (qpw_or (qpt_cmp (op_eqD hr.units) o_eq (qp_ix ix_A o_ix (qp_var (pv 10)) (qp_int) (fun _ _ => rfl)) (qp_var (pv 5)) (nomark _)) (qpw_or1 (qpt_din rfl (Room.dl1 hr) (qp_ix ix_A o_ix (qp_var (pv 10)) (qp_int) (fun _ _ => rfl)) (qp_var (pv 6))))))) (fun _ _ _ _ _ => qp_var (pv 10)))
 (qss_one (qs_if (qt_p (QPW.qpt (qpw_and (qpt_cmp (op_eqD hr.units) o_eq (qp_ix ix_A o_ix (qp_var (pv 0)) (qp_var (pv 7)) (fun _ _ => rfl)) (qp_var (pv 3)) (nomark _)) (qpw_and1 (qpt_truth (qp_var (pv 11)))))))
 (qss_one (qs_dput (ps_dput (Room.dl1 hr) (pv 6) (qp_var (pv 7) _) (qe_p (qp_tup (qps_cons (qp_var (pv 3)) (qps_cons (qp_ix ix_A o_ix (qp_var (pv 11)) (qp_int) (fun _ _ => rfl)) (qps_nil))))) (by rfl))))
 (qss_one (qs_if (qt_p (QPW.qpt (qpw_and (qpt_cmp (op_neD hr.units) o_ne (qp_ix ix_A o_ix (qp_var (pv 0)) (qp_var (pv 7)) (fun _ _ => rfl)) (qp_var (pv 3)) (nomark _)) (qpw_and1 (qpt_cmp (op_eqD hr.units) o_eq (qp_callB o_len c_len (by rfl) T.n_len b_len (qps_cons (qp_var (pv 11)) (qps_nil))) (qp_callB o_len c_len (by rfl) T.n_len b_len (qps_cons (qp_var (pv 9)) (qps_nil))) (nomark _))))))
 (qss_one (qs_dput (ps_dput (Room.dl1 hr) (pv 6) (qp_var (pv 7) _) (qe_p (qp_tup (qps_cons (qp_var (pv 3)) (qps_cons (qp_non) (qps_nil))))) (by rfl))))
 (qss_nil)))))))
 (qss_nil)))))))
 (qss_fz [6] (qss_one (qs_ret (qe_var (pv 6))))))), ?_⟩
  rintro as Ed Qd ⟨tp, os, ns, es, p, won, d, rfl, ⟨hb, hn, h9, hok, hz⟩, wn, ws, q⟩
  have n9 : ns.length ≤ 9 := by have := int_card hn hb; omega
  refine ⟨by decide, by show 7 < 12; decide, _, _, rfl, wn, ?_⟩
  refine ⟨_, rfl, ?_⟩
  refine ⟨fun m e => ∃ (w : Tab) (b : Int), m = ns.length + 1 - (b + 1).toNat ∧ -1 ≤ b ∧ b ≤ (keysT w).length ∧ (b = (keysT w).length → Stop os ns es p d w) ∧ Pul os es p d won w ∧ (∀ v ∈ keysT w, v ∈ ns) ∧ e = [.d (.str (strO os)), .d (intL ns), .d (edX tp es), .d (whoD p), .d (tabD won), .d (rkD d), .own (tabO w), .any, .d (.int b), .any, .any, .any], ⟨_, won, -1, rfl, (by decide), (by omega), (fun h => by omega), .seed, ws, rfl⟩, ?_⟩
  rintro m e ⟨w, b, rfl, b1, b2, st, pu, wns, rfl⟩
  have nd := pu.nd wn
  have kl : (keysT w).length ≤ ns.length := nodup_sub_len nd wns
  refine ⟨decide (b < (keysT w).length), p2_of rfl (pN1 rfl rfl) rfl, fun z => ?_, fun z => ?_⟩
  · have z := of_decide_eq_true z
    refine ⟨_, pN1 rfl rfl, rfl, ?_⟩
    refine ⟨fun i e => ∃ w', Pul os es p d won w' ∧ (∀ v ∈ keysT w', v ∈ ns) ∧ (∃ t, w' = w ++ t) ∧ (w' = w → ∀ v ∈ ns.take i, v ∉ keysT w → (ownr os v = p → ∀ e ∈ es, es0 e = v → ¬ Gd d w e) ∧ (ownr os v ≠ p → ∃ e ∈ es, es0 e = v ∧ ¬ Gd d w e)) ∧ e = [.d (.str (strO os)), .d (intL ns), .d (edX tp es), .d (whoD p), .d (tabD won), .d (rkD d), .own (tabO w'), .any, .d (.int (keysT w).length), .any, .any, .any], ⟨w, pu, wns, ⟨[], (List.append_nil _).symm⟩, fun _ v hv => (by rw [List.take_zero] at hv; cases hv), rfl⟩, ?_, ?_⟩
    · rintro i x e ex ⟨w', pu', wns', ⟨t, et⟩, sa, rfl⟩
      obtain ⟨v, ev, rfl⟩ := map_getD ex
      have vin := List.mem_of_getElem? ev
      obtain ⟨v0, v1⟩ := hb v vin
      have tk : ns.take (i + 1) = ns.take i ++ [v] := by rw [List.take_succ, ev]; rfl
      have kl' : (keysT w').length ≤ ns.length := nodup_sub_len (pu'.nd wn) wns'
      have more : (w' = w → v ∉ keysT w → (ownr os v = p → ∀ e ∈ es, es0 e = v → ¬ Gd d w e) ∧ (ownr os v ≠ p → ∃ e ∈ es, es0 e = v ∧ ¬ Gd d w e)) → (w' = w → ∀ u ∈ ns.take (i + 1), u ∉ keysT w → (ownr os u = p → ∀ e ∈ es, es0 e = u → ¬ Gd d w e) ∧ (ownr os u ≠ p → ∃ e ∈ es, es0 e = u ∧ ¬ Gd d w e)) := fun h e u hu => by
        rw [tk] at hu
        rcases List.mem_append.mp hu with y | y
        · exact sa e u y
        · rw [List.mem_singleton.mp y]; exact h e
      refine ⟨!decide (v ∈ keysT w'), p2_of rfl rfl rfl, fun y => ?_, fun y => ?_⟩
      rotate_left
      · have y : v ∈ keysT w' := by simpa using y
        exact ⟨w', pu', wns', ⟨t, et⟩, more fun e n => absurd (e ▸ y) n, rfl⟩
      have nv : v ∉ keysT w' := by simpa using y
      refine ⟨_, plc_of rfl (pseq_edX rfl) (pcol_map (l := es) (enc := intT) (P := fun e => decide (es0 e = v)) (F := intT) fun e he => pturn_of rfl (p2_of (p2_of rfl rfl (ed_at0 (hok e he))) rfl rfl) fun _ => rfl), ?_⟩
      let wy := es.filter fun e => decide (es0 e = v)
      let gd : List Int → Bool := fun e => decide (d = some (es1 e)) || decide (es2 e ∈ keysT w')
      have okw : ∀ e ∈ wy, EdgeOk 1000 os.length e := fun e he => hok e (List.mem_filter.mp he).1
      refine ⟨((wy.filter gd).map intT), plc_of rfl (pseq_of rfl) (pcol_map (l := wy) (enc := intT) (P := gd) (F := intT) fun e he => ?_), _, rfl, ?_, ?_⟩
      · have ok := okw e he
        refine pturn_of rfl (por_of (a := decide (d = some (es1 e))) (p2_of (p2_of rfl rfl (ed_at1 ok)) rfl (eq_rk _ _)) (fun y => ?_) (fun y => ?_)) fun _ => rfl
        · show p2 dinD _ _ _ = some (D.bl (decide (d = some (es1 e)) || decide (es2 e ∈ keysT w')))
          rw [y, Bool.false_or]
          exact p2_of (p2_of rfl rfl (ed_at2 ok)) rfl rfl
        · show (decide (d = some (es1 e)) || decide (es2 e ∈ keysT w')) = true
          rw [y]; rfl
      · exact imds_intTs _
      have mg : ∀ {e}, e ∈ wy.filter gd ↔ (e ∈ es ∧ es0 e = v) ∧ Gd d w' e := fun {e} => by
        show e ∈ (es.filter fun e => decide (es0 e = v)).filter (fun e => decide (d = some (es1 e)) || decide (es2 e ∈ keysT w')) ↔ _
        rw [List.mem_filter, List.mem_filter, Bool.or_eq_true, decide_eq_true_eq, decide_eq_true_eq, decide_eq_true_eq]
        exact .rfl
      have ap : ∀ a : Ans, Pul os es p d won (w' ++ [(v, a)]) → Pul os es p d won (w' ++ [(v, a)]) ∧ (∀ u ∈ keysT (w' ++ [(v, a)]), u ∈ ns) ∧ (∃ t, w' ++ [(v, a)] = w ++ t) ∧ (w' ++ [(v, a)] = w → ∀ u ∈ ns.take (i + 1), u ∉ keysT w → (ownr os u = p → ∀ e ∈ es, es0 e = u → ¬ Gd d w e) ∧ (ownr os u ≠ p → ∃ e ∈ es, es0 e = u ∧ ¬ Gd d w e)) := fun a h => by
        refine ⟨h, fun u hu => ?_, ⟨t ++ [(v, a)], by rw [et, List.append_assoc]⟩, fun e => ?_⟩
        · rw [keys_app] at hu
          rcases List.mem_append.mp hu with y | y
          · exact wns' u y
          · have : u = v := by simpa [keysT] using y
            rw [this]; exact vin
        · have := congrArg List.length e
          rw [et, List.append_assoc, List.length_append, List.length_append, List.length_singleton] at this
          omega
      refine ⟨decide (ownr os v = p) && !(wy.filter gd).isEmpty, pand_of (a := decide (ownr os v = p)) (p2_of (p2_of rfl rfl (own_at v0 v1 h9)) rfl (eqD_pl _ _)) (fun y => ?_) (fun y => by rw [y]; rfl), fun y => ?_, fun y => ?_⟩
      · rw [y, Bool.true_and]
        refine p1_of rfl ?_
        show some (D.bl (!((wy.filter gd).map intT).isEmpty)) = _
        rw [List.isEmpty_map]
      · obtain ⟨y1, y2⟩ := (Bool.and_eq_true _ _).mp y
        have y1 := of_decide_eq_true y1
        obtain ⟨e, r, er⟩ : ∃ e r, wy.filter gd = e :: r := by
          cases c : wy.filter gd with
          | nil => rw [c] at y2; cases y2
          | cons e r => exact ⟨e, r, rfl⟩
        have em := mg.mp (er ▸ List.mem_cons_self : e ∈ wy.filter gd)
        refine ⟨wnD (p, some e), ?_, _, _, v, rfl, rfl, by omega, ?_⟩
        · exact ptupW rfl (p2_of rfl rfl (atI_of (k := 0) (by rw [er]; rfl)))
        · rw [dk_put_new nv]
          obtain ⟨h1, h2, h3, h4⟩ := ap (p, some e) (.own pu' nv y1 em.1.1 em.1.2 em.2)
          exact ⟨_, h1, h2, h3, h4, rfl⟩
      · have ln : wy.filter gd = [] → ∀ e ∈ es, es0 e = v → ¬ Gd d w' e := fun h e he h0 g => by
          have := mg.mpr ⟨⟨he, h0⟩, g⟩
          rw [h] at this; cases this
        refine ⟨!decide (ownr os v = p) && decide ((wy.filter gd).length = wy.length), pand_of (a := !decide (ownr os v = p)) (p2_of (p2_of rfl rfl (own_at v0 v1 h9)) rfl (neD_pl _ _)) (fun y2 => ?_) (fun y2 => by rw [y2]; rfl), fun y2 => ?_, fun y2 => ?_⟩
        · rw [y2, Bool.true_and]
          refine p2_of (pN1 rfl rfl) (pN1 rfl rfl) ?_
          show some (D.bl (decide ((((wy.filter gd).map intT).length : Int) = ((wy.map intT).length : Nat)))) = _
          rw [List.length_map, List.length_map]
          congr 2; rw [decide_eq_decide]; omega
        · obtain ⟨y3, y4⟩ := (Bool.and_eq_true _ _).mp y2
          have y3 : ownr os v ≠ p := by simpa using y3
          have y4 := List.length_filter_eq_length_iff.mp (of_decide_eq_true y4)
          refine ⟨wnD (p, none), ptupW rfl rfl, _, _, v, rfl, rfl, by omega, ?_⟩
          rw [dk_put_new nv]
          obtain ⟨h1, h2, h3, h4⟩ := ap (p, none) (.opp pu' nv y3 fun e he h0 => (mg.mp (List.mem_filter.mpr ⟨List.mem_filter.mpr ⟨he, decide_eq_true h0⟩, y4 e (List.mem_filter.mpr ⟨he, decide_eq_true h0⟩)⟩)).2)
          exact ⟨_, h1, h2, h3, h4, rfl⟩
        · refine ⟨w', pu', wns', ⟨t, et⟩, more fun e nv' => ⟨fun o => ?_, fun o => ?_⟩, rfl⟩
          · rw [← e]
            refine ln ?_
            rw [decide_eq_true o, Bool.true_and] at y
            simpa using y
          · rw [decide_eq_false o] at y2
            have y2 : ¬ (wy.filter gd).length = wy.length := by simpa using y2
            have : ∃ f ∈ wy, gd f = false := by
              refine Classical.byContradiction fun c => y2 (List.length_filter_eq_length_iff.mpr fun f hf => ?_)
              cases h : gd f with
              | true => rfl
              | false => exact absurd ⟨f, hf, h⟩ c
            obtain ⟨f, hf, hg⟩ := this
            obtain ⟨f1, f2⟩ := List.mem_filter.mp hf
            refine ⟨f, f1, of_decide_eq_true f2, fun g => ?_⟩
            rw [← e] at g
            have := (List.mem_filter.mp (mg.mpr ⟨⟨f1, of_decide_eq_true f2⟩, g⟩)).2
            rw [hg] at this; cases this
    · rintro e ⟨w', pu', wns', ⟨t, et⟩, sa, rfl⟩
      have kl' : (keysT w').length ≤ ns.length := nodup_sub_len (pu'.nd wn) wns'
      have lt : (keysT w).length ≤ (keysT w').length := by rw [et, keys_app, List.length_append]; omega
      rw [List.length_map, List.take_length] at sa
      refine ⟨ns.length + 1 - (((keysT w).length : Int) + 1).toNat, by omega, w', (keysT w).length, rfl, by omega, by omega, fun e => ?_, pu', wns', rfl⟩
      have : w' = w := by
        have e2 : (keysT w').length = (keysT w).length := by omega
        rw [et, keys_app, List.length_append, keys_len (w := t)] at e2
        have : t = [] := List.length_eq_zero_iff.mp (by omega)
        rw [et, this, List.append_nil]
      rw [this]
      exact fun v hv nk => sa this v hv nk
  · have z := of_decide_eq_false z
    exact q w pu wns (st (by omega))
end
end LR
set_option Elab.async false
set_option maxRecDepth 100000
set_option linter.all false
set_option maxHeartbeats 4000000
namespace LR
open PySem PySem.Spec PyProof.Rows L2
section
variable {P : Program} {w : World} {K : PySem.W.Frag} {mg : Str → Option Value} {base : Heap} {ζ : Cs}
def fPart (k : Nat) : Fs := fun as _ Q => ∃ (tp : Bool) (os : List Bool) (ns : List Int) (es : List (List Int)) (M : Nat), as = [.d (.str (strO os)), .d (intL ns), .d (edX tp es)] ∧ Part os ns es ∧ (∀ e ∈ es, es1 e < M) ∧ ns.length + M < k ∧ ∀ w, Sol os ns es w → Q (.d (tabD w))
theorem q_part (T : Txt P K mg ζ) (n : Nat) : CalX P w K mg base (n + 2) "_solve_part" (spF K (fPart n)) := by
  induction n with
  | zero =>
    refine T.d__solve_part.calX sc__solve_part (spF_len (by rintro as E Q ⟨tp, os, ns, es, M, rfl, _⟩; rfl)) fun fa cdv A outer s H vs Q E hr h => ?_
    obtain ⟨g, as, Ed, Qd, en, ia, ⟨tp, os, ns, es, M, _, _, _, z, _⟩, _⟩ := h
    omega
  | succ n ih =>
  have cx__solve_part : CalX P w K mg base (n + 2) "_solve_part" (spF K (fPart n)) := ih
  have cx__pull : CalX P w K mg base 1 "_pull" (spF K fPull) := q_pull T
  have cx__between : CalX P w K mg base 1 "_between" (spF K fBetw) := q_betw T
  have cx_wanting : CalX P w K mg base 1 "wanting" (spF K fWant) := q_want T
  have cx_opponent : CalX P w K mg base 1 "opponent" (spF K fOppo) := q_oppo T
  refine T.d__solve_part.dl sc__solve_part (by rintro as E Q ⟨tp, os, ns, es, M, rfl, _⟩; rfl) (by decide) fun fa cdv A outer s H E hr => ⟨_, qss_cons (qs_if (qt_p (qpt_not (qpt_truth (qp_var (pv 1)))))
 (qss_one (qs_ret (qe_asD (qe_dnew))))
 (qss_nil))
 (qss_cons (qs_setN (i := 3) false sc__solve_part.nd rfl (by first | exact Or.inr rfl | exact Or.inl rfl) (qe_p (qp_callB o_maxL (cr_max rfl) (by rfl) T.n_max b_max (qps_cons (qp_lc (own := [("edge", 4)]) (it := ipSeq _) rfl sc__solve_part.nd (fun W => qi_seq (qe_p (qp_var (pv 2)))) (blkOk_by (N := N__solve_part) (sc := defScope s__solve_part) (by decide +kernel)) (fun _ _ _ _ _ => qg_name (pg_name (i := 4) sc__solve_part.nd rfl (Or.inl rfl))) (fun _ _ _ _ _ => qpts_nil) (fun _ _ _ _ _ => qp_ix ix_A o_ix (qp_var (pv 4)) (qp_int) (fun _ _ => rfl))) (qps_nil)))))
 (qss_cons (qs_setN (i := 5) false sc__solve_part.nd rfl (Or.inl rfl) (qe_cT cx_wanting hr (by first | decide | omega) (takes_of rfl rfl rfl rfl) (by rfl) (qa_cons (qe_var (pv 3)) (qa_nil))))
 (qss_cons (qs_setN (i := 6) false sc__solve_part.nd rfl (by first | exact Or.inr rfl | exact Or.inl rfl) (qe_cT cx_opponent hr (by first | decide | omega) (takes_of rfl rfl rfl rfl) (by rfl) (qa_cons (qe_var (pv 5)) (qa_nil))))
 (qss_cons (qs_setN (i := 7) false sc__solve_part.nd rfl (by first | exact Or.inr rfl | exact Or.inl rfl) (qe_cT cx__pull hr (by first | decide | omega) (takes_of rfl rfl rfl rfl) (by rfl) (qa_cons (qe_var (pv 0)) (qa_cons (qe_var (pv 1)) (qa_cons (qe_var (pv 2)) (qa_cons (qe_var (pv 5)) (qa_cons (qe_dnew) (qa_cons (qe_var (pv 3)) (qa_nil)))))))))
 (qss_cons (qs_setLcP (own := [("node", 9)]) (it := ipSeq _) (i := 8) false rfl sc__solve_part.nd rfl rfl (sw_true rfl rfl rfl (by decide +kernel)) (qi_seq (qe_p (qp_var (pv 1)))) (blkOk_by (N := N__solve_part) (sc := defScope s__solve_part) (by decide +kernel)) (fun _ _ _ _ _ => qg_name (pg_name (i := 9) sc__solve_part.nd rfl (Or.inl rfl))) (fun _ _ _ _ _ => qpts_one (qpt_dnin rfl (Room.dl1 hr) (qp_var (pv 9)) (qp_var (pv 7)))) (fun _ _ _ _ _ => qp_var (pv 9)))
 (qss_cons (qs_setLcP (own := [("edge", 4)]) (it := ipSeq _) (i := 10) false rfl sc__solve_part.nd rfl rfl (sw_true rfl rfl rfl (by decide +kernel)) (qi_seq (qe_p (qp_var (pv 2)))) (blkOk_by (N := N__solve_part) (sc := defScope s__solve_part) (by decide +kernel)) (fun _ _ _ _ _ => qg_name (pg_name (i := 4) sc__solve_part.nd rfl (Or.inl rfl))) (fun _ _ _ _ _ => qpts_one (qpt_cmp op_lt o_cmp (qp_ix ix_A o_ix (qp_var (pv 4)) (qp_int) (fun _ _ => rfl)) (qp_var (pv 3)) (nomark _))) (fun _ _ _ _ _ => qp_var (pv 4)))
 (qss_cons (qs_setN (i := 11) false sc__solve_part.nd rfl (by first | exact Or.inr rfl | exact Or.inl rfl) (qe_cT cx__solve_part hr (by first | decide | omega) (takes_of rfl rfl rfl rfl) (by rfl) (qa_cons (qe_var (pv 0)) (qa_cons (qe_var (pv 8)) (qa_cons (qe_cT cx__between hr (by first | decide | omega) (takes_of rfl rfl rfl rfl) (by rfl) (qa_cons (qe_var (pv 8)) (qa_cons (qe_var (pv 10)) (qa_nil)))) (qa_nil))))))
 (qss_cons (qs_setN (i := 12) false sc__solve_part.nd rfl (by first | exact Or.inr rfl | exact Or.inl rfl) (qe_dc (own := [("node", 9)]) rfl sc__solve_part.nd (qi_seq (qe_var (pv 8))) (blkOk_by (N := N__solve_part) (sc := defScope s__solve_part) (by decide +kernel)) (fun _ _ _ _ _ => qg_name (pg_name (i := 9) sc__solve_part.nd rfl (Or.inl rfl))) (fun _ _ _ _ _ => qts_one (qt_p (qpt_cmp (op_eqD hr.units) o_eq (qp_ix ix_A o_ix (qp_dget (Room.dl1 hr) (qp_var (pv 11)) (qp_var (pv 9)) (fun _ _ => rfl)) (qp_int) (fun _ _ => rfl)) (qp_var (pv 6)) (nomark _)))) (fun _ _ _ _ _ => qp_var (pv 9)) (fun _ _ _ _ _ => qe_p (qp_dget (Room.dl1 hr) (qp_var (pv 11)) (qp_var (pv 9)) (fun _ _ => rfl)))))
 (qss_cons (qs_if (qt_p (qpt_not (qpt_truth (qp_var (pv 12)))))
 (qss_one (qs_ret (qe_asD (qe_dmerge (qe_var (pv 7)) (qe_var (pv 11))))))
 (qss_nil))
 (qss_cons (qs_setN (i := 12) false sc__solve_part.nd rfl (by first | exact Or.inr rfl | exact Or.inl rfl) (qe_cT cx__pull hr (by first | decide | omega) (takes_of rfl rfl rfl rfl) (by rfl) (qa_cons (qe_var (pv 0)) (qa_cons (qe_var (pv 1)) (qa_cons (qe_var (pv 2)) (qa_cons (qe_var (pv 6)) (qa_cons (qe_var (pv 12)) (qa_cons (qe_p (qp_non)) (qa_nil)))))))))
 (qss_cons (qs_setLcP (own := [("node", 9)]) (it := ipSeq _) (i := 8) false rfl sc__solve_part.nd rfl rfl (sw_true rfl rfl rfl (by decide +kernel)) (qi_seq (qe_p (qp_var (pv 1)))) (blkOk_by (N := N__solve_part) (sc := defScope s__solve_part) (by decide +kernel)) (fun _ _ _ _ _ => qg_name (pg_name (i := 9) sc__solve_part.nd rfl (Or.inl rfl))) (fun _ _ _ _ _ => qpts_one (qpt_dnin rfl (Room.dl1 hr) (qp_var (pv 9)) (qp_var (pv 12)))) (fun _ _ _ _ _ => qp_var (pv 9)))
 (qss_one (qs_ret (qe_asD (qe_dmerge (qe_var (pv 12)) (qe_cT cx__solve_part hr (by first | decide | omega) (takes_of rfl rfl rfl rfl) (by rfl) (qa_cons (qe_var (pv 0)) (qa_cons (qe_var (pv 8)) (qa_cons (qe_cT cx__between hr (by first | decide | omega) (takes_of rfl rfl rfl rfl) (by rfl) (qa_cons (qe_var (pv 8)) (qa_cons (qe_var (pv 2)) (qa_nil)))) (qa_nil)))))))))))))))))))), ?_⟩
  rintro as Ed Qd ⟨tp, os, ns, es, M, rfl, pt, hM, hk, q⟩
  have hns := pt.tot.nd
  have n9 := pt.len
  refine ⟨ns.isEmpty, p1_of (p1_of rfl rfl) (by show some (D.bl (!(!(ns.map D.int).isEmpty))) = _; rw [Bool.not_not, List.isEmpty_map]), fun z => ?_, fun z => ?_⟩
  · have e0 : ns = [] := List.isEmpty_iff.mp z
    subst e0
    have e1 : es = [] := by
      cases es with
      | nil => rfl
      | cons e r => exact absurd (pt.tot.inn e List.mem_cons_self).1 (by simp)
    subst e1
    exact q [] sol_nil
  have ne : es.map es1 ≠ [] := fun e => by
    obtain ⟨v, r, er⟩ : ∃ v r, ns = v :: r := by
      cases ns with
      | nil => cases z
      | cons v r => exact ⟨v, r, rfl⟩
    obtain ⟨f, hf, _⟩ := pt.tot.out v (by rw [er]; exact List.mem_cons_self)
    rw [List.map_eq_nil_iff.mp e] at hf; cases hf
  obtain ⟨m, mm, mx, em⟩ := max_ints ne
  obtain ⟨f0, hf0, ef0⟩ := List.mem_map.mp mm
  have mx : ∀ e ∈ es, es1 e ≤ m := fun e he => mx _ (List.mem_map.mpr ⟨e, he, rfl⟩)
  have m0 : 0 ≤ m ∧ m ≤ 2000 := by
    obtain ⟨s0, r0, t0, rfl, _, hr0, _⟩ := pt.ok f0 hf0
    have : m = r0 := ef0.symm
    omega
  have mM : m < M := by rw [← ef0]; exact hM f0 hf0
  refine ⟨.int m, pN1 (plc_of rfl (pseq_edX rfl) ((pcol_all (l := es) (enc := intT) (F := fun e => .int (es1 e)) fun e he => pturn_of (c := true) rfl rfl fun _ => p2_of rfl rfl (ed_at1 (pt.ok e he))).trans (by show some (es.map fun e => D.int (es1 e)) = some ((es.map es1).map D.int); rw [List.map_map]; rfl))) em, ?_⟩
  refine ⟨m, rfl, m0.1, m0.2, ?_⟩
  refine ⟨decide (m % 2 = 0), rfl, ?_⟩
  generalize hp : decide (m % 2 = 0) = p
  have hmp : m % 2 ≠ bad p := by
    subst hp
    unfold bad
    by_cases c : m % 2 = 0
    · rw [decide_eq_true c, if_pos rfl]; omega
    · rw [decide_eq_false c, if_neg (by decide)]; exact c
  have PO : PullOk os ns es := ⟨pt.bd, hns, pt.n9, pt.ok, pt.sz⟩
  refine ⟨tp, os, ns, es, p, [], some m, rfl, PO, List.nodup_nil, (fun v hv => by cases hv), fun U pu uns stU => ?_⟩
  let rest := ns.filter fun v => !decide (v ∈ keysT U)
  have hr : ∀ v, v ∈ rest ↔ v ∈ ns ∧ v ∉ keysT U := fun v => by
    show v ∈ ns.filter _ ↔ _
    rw [List.mem_filter, Bool.not_eq_true', decide_eq_false_iff_not]
  have nr : rest.Nodup := hns.sublist List.filter_sublist
  have rl : rest.length ≤ ns.length := List.length_filter_le _ _
  let small := es.filter fun e => decide (es1 e < m)
  have sl : small.length ≤ es.length := List.length_filter_le _ _
  have hes : ∀ e, e ∈ btw rest small ↔ e ∈ es ∧ es1 e < m ∧ es0 e ∈ rest ∧ es2 e ∈ rest := fun e => by
    rw [mem_btw]
    show e ∈ es.filter _ ∧ _ ↔ _
    rw [List.mem_filter, decide_eq_true_eq, and_assoc]
  have T1 : Tot rest (btw rest small) := tot_low pt.tot mx stU hr nr hes
  have P1 : Part os rest (btw rest small) := part_sub pt T1 (fun v h => ((hr v).mp h).1) (fun e h => ((hes e).mp h).1) (Nat.le_trans (List.length_filter_le _ _) sl)
  refine ⟨rest.map .int, plc_of rfl (pseq_of rfl) (pcol_map (l := ns) (enc := D.int) (P := fun v => !decide (v ∈ keysT U)) (F := D.int) fun v hv => pturn_of rfl (p2_of rfl rfl rfl) fun _ => rfl), ?_⟩
  refine ⟨small.map intT, plc_of rfl (pseq_edX rfl) (pcol_map (l := es) (enc := intT) (P := fun e => decide (es1 e < m)) (F := intT) fun e he => pturn_of rfl (p2_of (p2_of rfl rfl (ed_at1 (pt.ok e he))) rfl rfl) fun _ => rfl), ?_⟩
  refine ⟨false, rest, small, os.length, rfl, (fun e he => pt.ok e (List.mem_filter.mp he).1), ?_⟩
  refine ⟨false, os, rest, btw rest small, m.toNat, rfl, P1, (fun e he => by have := ((hes e).mp he).2.1; omega), by omega, fun w' S => ?_⟩
  refine ⟨rfl, fun i ks ds => ks = keysT (wonT (!p) w' (rest.take i)) ∧ ds = wnL (wonT (!p) w' (rest.take i)), ⟨by rw [List.take_zero]; rfl, by rw [List.take_zero]; rfl⟩, ?_, ?_⟩
  · rintro i x ks ds ex ⟨rfl, rfl⟩
    obtain ⟨v, ev, rfl⟩ := map_getD ex
    have vin := List.mem_of_getElem? ev
    have tk : rest.take (i + 1) = rest.take i ++ [v] := by rw [List.take_succ, ev]; rfl
    obtain ⟨a, ha⟩ := look_some ((S.keys v).mpr vin)
    have g1 : dgetD (tabD w') (.int v) = some (wnD a) := by
      show dkGet (keysT w') (wnL w') v = _
      rw [dk_look, ha]; rfl
    have nv : v ∉ keysT (wonT (!p) w' (rest.take i)) := fun h => by
      have h := won_sub.subset h
      have nd := nr
      rw [← List.take_append_drop i rest] at nd
      have dv : v ∈ rest.drop i := by
        refine List.mem_of_getElem? (i := 0) ?_
        rw [List.getElem?_drop, Nat.add_zero]; exact ev
      exact (List.nodup_append.mp nd).2.2 v h v dv rfl
    have pk : wonT (!p) w' (rest.take (i + 1)) = wonT (!p) w' (rest.take i) ++ if a.1 = (!p) then [(v, a)] else [] := by rw [tk, wonT_snoc]; unfold pick; rw [ha]
    refine ⟨decide (a.1 = (!p)), p2_of (p2_of (p2_of rfl rfl g1) rfl (atI_of (k := 0) rfl)) rfl (eqD_pl _ _), fun c => ⟨v, rfl, wnD a, p2_of rfl rfl g1, ?_⟩, fun c => ?_⟩
    · rw [if_pos (of_decide_eq_true c)] at pk
      show (dkPut (keysT (wonT (!p) w' (rest.take i))) (wnL (wonT (!p) w' (rest.take i))) v (wnD a)).1 = keysT (wonT (!p) w' (rest.take (i + 1))) ∧ (dkPut (keysT (wonT (!p) w' (rest.take i))) (wnL (wonT (!p) w' (rest.take i))) v (wnD a)).2 = wnL (wonT (!p) w' (rest.take (i + 1)))
      rw [dk_put_new nv]
      exact ⟨(congrArg keysT pk).symm, (congrArg wnL pk).symm⟩
    · rw [if_neg (of_decide_eq_false c), List.append_nil] at pk
      exact ⟨(congrArg keysT pk).symm, (congrArg wnL pk).symm⟩
  · rintro ks ds ⟨rfl, rfl⟩
    rw [List.length_map, List.take_length]
    generalize hwn : wonT (!p) w' rest = won
    have hw : ∀ v a, look won v = some a ↔ look w' v = some a ∧ a.1 = (!p) := fun v a => by
      rw [← hwn, look_won]
      exact ⟨fun z => z.2, fun z => ⟨(S.keys v).mp (look_key z.1), z⟩⟩
    have nw : (keysT won).Nodup := by rw [← hwn]; exact nr.sublist won_sub
    have sw : ∀ v ∈ keysT won, v ∈ rest := by rw [← hwn]; exact fun v h => won_sub.subset h
    have swn : ∀ v ∈ keysT won, v ∈ ns := fun v h => ((hr v).mp (sw v h)).1
    have ul : (keysT U).length ≤ 900 := Nat.le_trans (nodup_sub_len (pu.nd List.nodup_nil) uns) (by omega)
    have wl : (keysT w').length ≤ 900 := Nat.le_trans (nodup_sub_len S.nd fun v h => ((hr v).mp ((S.keys v).mp h)).1) (by omega)
    refine ⟨(keysT won).isEmpty, p1_of (p1_of rfl rfl) (by show some (D.bl (!(!(keysT won).isEmpty))) = _; rw [Bool.not_not]), fun y => ?_, fun y => ?_⟩
    · have al : ∀ v c pl, look w' v = some (c, pl) → c = p := fun v c pl h => by
        refine Classical.byContradiction fun k => ?_
        have e : c = (!p) := by revert k; cases c <;> cases p <;> decide
        have := look_key ((hw v (c, pl)).mpr ⟨h, e⟩)
        rw [List.isEmpty_iff.mp y] at this; cases this
      have R := sol_last pt.tot mx hmp pu uns hr hes S al
      refine ⟨keysT U, wnL U, rfl, ul, pu.nd List.nodup_nil, keysT w', wnL w', rfl, wl, (by rw [← keys_app]; exact R.nd), ?_⟩
      show Qd (.d (LR.D.dic (keysT U ++ keysT w') (wnL U ++ wnL w')))
      rw [tabD_app]
      exact q _ R
    · obtain ⟨u0, u0m⟩ : ∃ u, u ∈ keysT won := by
        cases c : keysT won with
        | nil => rw [c] at y; cases y
        | cons u r => exact ⟨u, List.mem_cons_self⟩
      refine ⟨.non, rfl, tp, os, ns, es, !p, won, none, rfl, PO, nw, swn, fun V pv vns stV => ?_⟩
      let rest2 := ns.filter fun v => !decide (v ∈ keysT V)
      have hr2 : ∀ v, v ∈ rest2 ↔ v ∈ ns ∧ v ∉ keysT V := fun v => by
        show v ∈ ns.filter _ ↔ _
        rw [List.mem_filter, Bool.not_eq_true', decide_eq_false_iff_not]
      have nr2 : rest2.Nodup := hns.sublist List.filter_sublist
      have lt : rest2.length < ns.length := by
        have h := nodup_sub_len (l := u0 :: rest2) (m := ns) (List.nodup_cons.mpr ⟨fun h => ((hr2 u0).mp h).2 (pv.seed_mem u0m).1, nr2⟩) fun v h => by
          rcases List.mem_cons.mp h with e | e
          · rw [e]; exact swn _ u0m
          · exact ((hr2 v).mp e).1
        rw [List.length_cons] at h; omega
      have he2 : ∀ e, e ∈ btw rest2 es ↔ e ∈ es ∧ es0 e ∈ rest2 ∧ es2 e ∈ rest2 := fun e => mem_btw
      have T2 : Tot rest2 (btw rest2 es) := tot_rest pt.tot stV hr2 nr2 he2
      have P2 : Part os rest2 (btw rest2 es) := part_sub pt T2 (fun v h => ((hr2 v).mp h).1) (fun e h => ((he2 e).mp h).1) (List.length_filter_le _ _)
      have vl : (keysT V).length ≤ 900 := Nat.le_trans (nodup_sub_len (pv.nd nw) vns) (by omega)
      refine ⟨rest2.map .int, plc_of rfl (pseq_of rfl) (pcol_map (l := ns) (enc := D.int) (P := fun v => !decide (v ∈ keysT V)) (F := D.int) fun v hv => pturn_of rfl (p2_of rfl rfl rfl) fun _ => rfl), ?_⟩
      refine ⟨keysT V, wnL V, rfl, vl, pv.nd nw, ?_⟩
      refine ⟨tp, rest2, es, os.length, rfl, pt.ok, ?_⟩
      refine ⟨false, os, rest2, btw rest2 es, M, rfl, P2, (fun e he => hM e ((he2 e).mp he).1), by omega, fun w2 S2 => ?_⟩
      have R := sol_step pt.tot mx stU hr hes S hw nw pv vns stV hr2 he2 S2
      have w2l : (keysT w2).length ≤ 900 := Nat.le_trans (nodup_sub_len S2.nd fun v h => ((hr2 v).mp ((S2.keys v).mp h)).1) (by omega)
      refine ⟨keysT w2, wnL w2, rfl, w2l, (by rw [← keys_app]; exact R.nd), ?_⟩
      show Qd (.d (LR.D.dic (keysT V ++ keysT w2) (wnL V ++ wnL w2)))
      rw [tabD_app]
      exact q _ R
end
end LR
set_option Elab.async false
set_option maxRecDepth 100000
set_option linter.all false
set_option maxHeartbeats 4000000
namespace LR
open PySem PySem.Spec PyProof.Rows L2
section
variable {P : Program} {w : World} {K : PySem.W.Frag} {mg : Str → Option Value} {base : Heap} {ζ : Cs}
def ndI (n : Nat) : List Int := (List.range n).map fun v : Nat => (v : Int)
def winL (w : Tab) (n : Nat) : List Bool := (List.range n).map fun v : Nat => ((look w v).getD (true, none)).1
def plL (w : Tab) (n : Nat) : List (Option (List Int)) := (List.range n).map fun v : Nat => ((look w v).getD (true, none)).2
def ansS (w : Tab) (n : Nat) : Ow := .tu [.da (.str (strO (winL w n))), .ls ((plL w n).map wnE)]
def fSolve (G : Addr) : Fs := fun as _ Q => ∃ (h : Int) (os : List Bool) (ss : List (List Int)), as = [.d (gameD G h os ss)] ∧ (0 ≤ h ∧ h ≤ 3) ∧ os.length ≤ 9 ∧ (∀ e ∈ ss, EdgeOk h os.length e) ∧ ss.length ≤ 63 ∧ (∀ v : Nat, v < os.length → ∃ e ∈ ss, es0 e = (v : Int)) ∧ ∀ w, Sol os (ndI os.length) ss w → Q (.fr (ansS w os.length))
theorem plistRgW {p : PF} {env : List Ev} {n : Nat} (h : p env = some (nat n)) (hn : n ≤ 100000) : plistRg p env = some (.lst ((List.range n).map nat)) := by
  unfold plistRg
  rw [h]
  show (if 0 ≤ (n : Int) ∧ (n : Int) ≤ 100000 then some (D.lst (rgD 0 (n : Int).toNat)) else none) = _
  rw [if_pos ⟨by omega, by omega⟩, Int.toNat_natCast]
  congr 2
  unfold rgD
  refine List.map_congr_left fun i _ => ?_
  show D.int _ = D.int _
  congr 1; omega
theorem q_solve (T : Txt P K mg ζ) {G : Addr} : CalX P w K mg base 20 "solve" (spF K (fSolve G)) := by
  have cx__solve_part : CalX P w K mg base 19 "_solve_part" (spF K (fPart 17)) := q_part T 17
  refine T.d_solve.dl sc_solve (by rintro as E Q ⟨h, os, ss, rfl, _⟩; rfl) (by decide) fun fa cdv A outer s H E hr => ⟨_, qss_cons (qs_setN (i := 1) false sc_solve.nd rfl (by first | exact Or.inr rfl | exact Or.inl rfl) (qe_cT cx__solve_part hr (by first | decide | omega) (takes_of rfl rfl rfl rfl) (by rfl) (qa_cons (qe_p (qp_fld (qp_var (pv 0)) rfl)) (qa_cons (qe_p (qp_listRg rfl (by rfl) T.n_list (by rfl) T.n_range (qp_fld (qp_var (pv 0)) rfl))) (qa_cons (qe_p (qp_fld (qp_var (pv 0)) rfl)) (qa_nil))))))
 (qss_cons (qs_setN (i := 2) false sc_solve.nd rfl (Or.inl rfl) (qe_p (qp_join (qp_str) (qp_lc (own := [("node", 3)]) (it := ipRng1 _) rfl sc_solve.nd (fun W => qi_range1 (by rfl) T.n_range (qe_p (qp_fld (qp_var (pv 0)) rfl))) (blkOk_by (N := N_solve) (sc := defScope s_solve) (by decide +kernel)) (fun _ _ _ _ _ => qg_name (pg_name (i := 3) sc_solve.nd rfl (Or.inl rfl))) (fun _ _ _ _ _ => qpts_nil) (fun _ _ _ _ _ => qp_ix ix_A o_ix (qp_dget (Room.dl1 hr) (qp_var (pv 1)) (qp_var (pv 3)) (fun _ _ => rfl)) (qp_int) (fun _ _ => rfl))))))
 (qss_one (qs_retTup (qo_cons (qe_var (pv 2)) (qo_cons (qf_lc (own := [("node", 3)]) (it := ipRng1 _) rfl sc_solve.nd (qi_range1 (by rfl) T.n_range (qe_p (qp_fld (qp_var (pv 0)) rfl))) (blkOk_by (N := N_solve) (sc := defScope s_solve) (by decide +kernel)) (fun _ _ _ _ _ => qg_name (pg_name (i := 3) sc_solve.nd rfl (Or.inl rfl))) (fun _ _ _ _ _ => qpts_nil) (fun _ _ _ _ _ => qp_ix ix_A o_ix (qp_dget (Room.dl1 hr) (qp_var (pv 1)) (qp_var (pv 3)) (fun _ _ => rfl)) (qp_int) (fun _ _ => rfl))) (qo_nil)))))), ?_⟩
  rintro as Ed Qd ⟨h, os, ss, rfl, hh, h9, hok, hz, hall, q⟩
  have nd : (ndI os.length).map D.int = (List.range os.length).map nat := by unfold ndI; rw [List.map_map]; rfl
  have mn : ∀ v : Int, v ∈ ndI os.length ↔ 0 ≤ v ∧ v < os.length := fun v => by
    unfold ndI
    rw [List.mem_map]
    constructor
    · rintro ⟨k, hk, rfl⟩
      have := List.mem_range.mp hk
      omega
    · rintro ⟨h0, h1⟩
      exact ⟨v.toNat, List.mem_range.mpr (by omega), by omega⟩
  have nn : (ndI os.length).Nodup := by
    unfold ndI
    rw [List.nodup_iff_pairwise_ne, List.pairwise_map]
    exact List.pairwise_lt_range.imp fun {a b} h e => by omega
  have T1 : Tot (ndI os.length) ss := ⟨nn, fun v hv => by
    obtain ⟨h0, h1⟩ := (mn v).mp hv
    obtain ⟨e, he, e0⟩ := hall v.toNat (by omega)
    exact ⟨e, he, by rw [e0]; omega⟩, fun e he => by
    obtain ⟨s0, r0, t0, rfl, a, _, b⟩ := hok e he
    exact ⟨(mn _).mpr a, (mn _).mpr b⟩⟩
  have P : Part os (ndI os.length) ss := ⟨T1, fun v hv => (mn v).mp hv, h9, fun e he => by
    obtain ⟨s0, r0, t0, rfl, a, b, c⟩ := hok e he
    exact ⟨s0, r0, t0, rfl, a, ⟨b.1, by omega⟩, c⟩, hz⟩
  have nl : (ndI os.length).length = os.length := by unfold ndI; rw [List.length_map, List.length_range]
  refine ⟨.str (strO os), p1_of rfl rfl, .lst ((List.range os.length).map nat), ?_, edT ss, p1_of rfl rfl, true, os, ndI os.length, ss, 7, ?_, P, ?_, by omega, fun w S => ?_⟩
  · exact plistRgW (p1_of rfl rfl) (by omega)
  · show [Ar.d (D.str (strO os)), Ar.d (D.lst (List.map nat (List.range os.length))), Ar.d (edT ss)] = [Ar.d (D.str (strO os)), Ar.d (.lst ((ndI os.length).map D.int)), Ar.d (edX true ss)]
    rw [nd]; rfl
  · intro e he
    obtain ⟨s0, r0, t0, rfl, _, hr0, _⟩ := hok e he
    show r0 < 7
    omega
  have gv : ∀ v : Nat, v < os.length → ∃ a, look w (v : Int) = some a ∧ dgetD (tabD w) (nat v) = some (wnD a) := fun v hv => by
    obtain ⟨a, ha⟩ := look_some ((S.keys v).mpr ((mn v).mpr ⟨by omega, by omega⟩))
    refine ⟨a, ha, ?_⟩
    show dkGet (keysT w) (wnL w) (v : Int) = _
    rw [dk_look, ha]; rfl
  refine ⟨.str (strO (winL w os.length)), p2_of rfl (plc_of rfl (prng1_nat (p1_of rfl rfl) (by omega)) ((pcol_all (l := List.range os.length) (enc := nat) (F := fun v : Nat => whoD ((look w (v : Int)).getD (true, none)).1) fun v hv => ?_).trans (by unfold winL; rw [List.map_map]; rfl))) (joinD_ltrs (l := winL w os.length) (by unfold winL; rw [List.length_map, List.length_range]; omega)), ?_⟩
  · obtain ⟨a, ha, g⟩ := gv v (List.mem_range.mp hv)
    refine pturn_of (c := true) rfl rfl fun _ => ?_
    rw [ha]
    exact p2_of (p2_of rfl rfl g) rfl (atI_of (k := 0) rfl)
  · refine ⟨(plL w os.length).map wnE, (plc_of rfl (prng1_nat (p1_of rfl rfl) (by omega)) ((pcol_all (l := List.range os.length) (enc := nat) (F := fun v : Nat => wnE ((look w (v : Int)).getD (true, none)).2) fun v hv => ?_).trans (by show _ = some ((plL w os.length).map wnE); unfold plL; rw [List.map_map]; rfl))), _, _, rfl, by show 2 ≤ 1000; decide, q w S⟩
    obtain ⟨a, ha, g⟩ := gv v (List.mem_range.mp hv)
    refine pturn_of (c := true) rfl rfl fun _ => ?_
    rw [ha]
    exact p2_of (p2_of rfl rfl g) rfl (atI_of (k := 1) rfl)
end
end LR
set_option Elab.async false
set_option maxRecDepth 100000
set_option linter.all false
set_option maxHeartbeats 4000000
namespace LR
open PySem PySem.Spec PyProof.Rows L2
section
variable {P : Program} {w : World} {K : PySem.W.Frag} {mg : Str → Option Value} {base : Heap} {ζ : Cs}
theorem hv_small {c h : Nat} (hc : 1 ≤ c ∧ c ≤ 4) (hh : h ≤ 3) : (hv c h).length ≤ 1000 := by
  obtain ⟨a, b⟩ := hc
  have : c = 1 ∨ c = 2 ∨ c = 3 ∨ c = 4 := by omega
  have : h = 0 ∨ h = 1 ∨ h = 2 ∨ h = 3 := by omega
  rcases ‹c = 1 ∨ _› with rfl | rfl | rfl | rfl <;> rcases ‹h = 0 ∨ _› with rfl | rfl | rfl | rfl <;> decide
def fWins : Fs := fun as _ Q => ∃ (os : List Bool) (es : List (List Int)) (h : Nat), as = [.d (.str (strO os)), .d (edL es), .d (nat h)] ∧ (∀ e ∈ es, EdgeOk h os.length e) ∧ 1 ≤ os.length ∧ os.length ≤ 4 ∧ h ≤ 3 ∧ es.length ≤ 63 ∧ ∀ ψ, LeastFit (hv os.length h) os es ψ → Q (.d (.lst (ψ.map fun o => .bl o.isSome)))
theorem q_wins (T : Txt P K mg ζ) : CalX P w K mg base 12 "_law_wins" (spF K fWins) := by
  have cx_climb : CalX P w K mg base 4 "_law_climb" (spF K fLwClimb) := q_lwclimb T
  have cx_halving : CalX P w K mg base 9 "_law_halving" (spF K (fHalv 8)) := q_halv T 8
  refine T.d_wins.dl sc_wins (by rintro as E Q ⟨os, es, h, rfl, _⟩; rfl) (by decide) fun fa cdv A outer s H E hr => ⟨_, qss_cons (qs_setN (i := 3) false sc_wins.nd rfl (Or.inl rfl) (qe_cT cx_climb hr (by first | decide | omega) (takes_of rfl rfl rfl rfl) (by rfl) (qa_cons (qe_var (pv 0)) (qa_cons (qe_var (pv 1)) (qa_cons (qe_cT cx_halving hr (by first | decide | omega) (takes_of rfl rfl rfl rfl) (by rfl) (qa_cons (qe_p (qp_callB o_len c_len (by rfl) T.n_len b_len (qps_cons (qp_var (pv 0)) (qps_nil)))) (qa_cons (qe_var (pv 2)) (qa_nil)))) (qa_nil))))))
 (qss_one (qs_ret (qe_p (qp_lc (own := [("place", 4)]) (it := ipSeq _) rfl sc_wins.nd (fun W => qi_seq (qe_p (qp_var (pv 3)))) (blkOk_by (N := N_wins) (sc := defScope s_wins) (by decide +kernel)) (fun _ _ _ _ _ => qg_name (pg_name (i := 4) sc_wins.nd rfl (Or.inl rfl))) (fun _ _ _ _ _ => qpts_nil) (fun _ _ _ _ _ => qp_cmp op_notN o_notN (qp_var (pv 4)) (qp_non) (nomark _)))))), ?_⟩
  rintro as Ed Qd ⟨os, es, h, rfl, hok, h1, h4, h3, hz, q⟩
  refine ⟨.int os.length, pN1 rfl (str_len (by omega)), os.length, h, rfl, h1, by omega, by omega, by omega, hv_small ⟨h1, h4⟩ h3, ?_⟩
  refine ⟨h, os, es, false, hv os.length h, rfl, hok, (fun l hl => (hv_lev _ _ h (Nat.le_refl _) h1 l hl).1), hv_small ⟨h1, h4⟩ h3, by omega, by omega, fun φ F => ?_⟩
  refine ⟨_, plc_of rfl (pseq_of rfl) (pcol_all (l := φ) (enc := optN) (F := fun o => .bl o.isSome) fun o ho => pturn_of (c := true) rfl rfl fun _ => p2_of rfl rfl ?_), q φ F⟩
  cases o <;> rfl
def fSideWon : Fs := fun as _ Q => ∃ (os wn : List Bool) (es : List (List Int)) (pl : List (Option (List Int))) (who : Bool) (h : Int), as = [.d (.str (strO os)), .d (edL es), .d (.str (strO wn)), .d (planD pl), .d (whoD who)] ∧ wn.length = os.length ∧ pl.length = os.length ∧ os.length ≤ 9 ∧ es.length ≤ 63 ∧ (∀ e ∈ es, EdgeOk h os.length e) ∧
  (∀ e ∈ es, ownr wn (es0 e) = who → (ownr os (es0 e) ≠ who ∨ plf pl (es0 e) = some e) → ownr wn (es2 e) = who) ∧ ¬ HasPar (bad who) (es.filter fun e => decide (ownr wn (es0 e) = who) && (decide (ownr os (es0 e) ≠ who) || decide (plf pl (es0 e) = some e))) ∧ Q (.d (.bl true))
theorem q_sidewon (T : Txt P K mg ζ) : CalX P w K mg base 3 "_law_side_is_won" (spF K fSideWon) := by
  have cx_has_cycle : CalX P w K mg base 2 "_law_has_cycle" (spF K fHasP) := q_hasP T
  refine T.d_side_is_won.dl sc_side_is_won (by rintro as E Q ⟨os, wn, es, pl, who, h, rfl, _⟩; rfl) (by decide) fun fa cdv A outer s H E hr => ⟨_, qss_cons (qs_setN (i := 5) false sc_side_is_won.nd rfl (by first | exact Or.inr rfl | exact Or.inl rfl) (qe_p (qp_lc (own := [("node", 6)]) (it := ipRng1 _) rfl sc_side_is_won.nd (fun W => qi_range1 (by rfl) T.n_range (qe_p (qp_callB o_len c_len (by rfl) T.n_len b_len (qps_cons (qp_var (pv 0)) (qps_nil))))) (blkOk_by (N := N_side_is_won) (sc := defScope s_side_is_won) (by decide +kernel)) (fun _ _ _ _ _ => qg_name (pg_name (i := 6) sc_side_is_won.nd rfl (Or.inl rfl))) (fun _ _ _ _ _ => qpts_one (qpt_cmp (op_eqD hr.units) o_eq (qp_ix ix_A o_ix (qp_var (pv 2)) (qp_var (pv 6)) (fun _ _ => rfl)) (qp_var (pv 4)) (nomark _))) (fun _ _ _ _ _ => qp_var (pv 6)))))
 (qss_cons (qs_setLcP (own := [("edge", 8)]) (it := ipSeq _) (i := 7) false rfl sc_side_is_won.nd rfl rfl (sw_true rfl rfl rfl (by decide +kernel)) (qi_seq (qe_p (qp_var (pv 1)))) (blkOk_by (N := N_side_is_won) (sc := defScope s_side_is_won) (by decide +kernel)) (fun _ _ _ _ _ => qg_name (pg_name (i := 8) sc_side_is_won.nd rfl (Or.inl rfl))) (fun _ _ _ _ _ => qpts_one (QPW.qpt (qpw_and (qpt_cmp (op_inA (Room.u65 hr)) o_in (qp_ix ix_A o_ix (qp_var (pv 8)) (qp_int) (fun _ _ => rfl)) (qp_var (pv 5)) rfl) (qpw_and1 (QPW.qpt (qpw_or (qpt_cmp (op_neD hr.units) o_ne (qp_ix ix_A o_ix (qp_var (pv 0)) (qp_ix ix_A o_ix (qp_var (pv 8)) (qp_int) (fun _ _ => rfl)) (fun _ _ => rfl)) (qp_var (pv 4)) (nomark _)) (qpw_or1 (qpt_cmp (op_eqD hr.units) o_eq (qp_ix ix_A o_ix (qp_var (pv 3)) (qp_ix ix_A o_ix (qp_var (pv 8)) (qp_int) (fun _ _ => rfl)) (fun _ _ => rfl)) (qp_var (pv 8)) (nomark _))))))))) (fun _ _ _ _ _ => qp_var (pv 8)))
 (qss_cons (qs_for (vs := [8]) [8] (passes_of rfl) rfl (qi_seq (qe_var (pv 7))) (qg_name (pg_name (i := 8) sc_side_is_won.nd rfl (Or.inl rfl)))
 (qss_one (qs_if (qt_p (qpt_cmp (op_notInA (Room.u65 hr)) o_nin (qp_ix ix_A o_ix (qp_var (pv 8)) (qp_int) (fun _ _ => rfl)) (qp_var (pv 5)) rfl))
 (qss_one (qs_ret (qe_p (qp_bl))))
 (qss_nil))))
 (qss_one (qs_ret (qe_not (qe_cT cx_has_cycle hr (by first | decide | omega) (takes_of rfl rfl rfl rfl) (by rfl) (qa_cons (qe_var (pv 7)) (qa_cons (qe_p (qp_callTy o_int call_int1 (by rfl) T.n_int b_int (qps_cons (qp_cmp (op_eqD hr.units) o_eq (qp_var (pv 4)) (qp_str) (nomark _)) (qps_nil)))) (qa_nil))))))))), ?_⟩
  rintro as Ed Qd ⟨os, wn, es, pl, who, h, rfl, wl, pll, h9, hz, hok, st, no, q⟩
  let nd : List Nat := (List.range os.length).filter fun v => decide (ownr wn (v : Int) = who)
  let ni : List Int := nd.map fun v : Nat => (v : Int)
  have eni : nd.map nat = ni.map D.int := by show _ = (nd.map _).map _; rw [List.map_map]; rfl
  have mni : ∀ x : Int, 0 ≤ x → x < os.length → (x ∈ ni ↔ ownr wn x = who) := fun x h0 h1 => by
    show x ∈ nd.map _ ↔ _
    rw [List.mem_map]
    constructor
    · rintro ⟨v, hv, rfl⟩
      exact of_decide_eq_true (List.mem_filter.mp hv).2
    · intro z
      exact ⟨x.toNat, List.mem_filter.mpr ⟨List.mem_range.mpr (by omega), decide_eq_true (by rw [show ((x.toNat : Nat) : Int) = x by omega]; exact z)⟩, by omega⟩
  have bd : ∀ e ∈ es, (0 ≤ es0 e ∧ es0 e < os.length) ∧ 0 ≤ es2 e ∧ es2 e < os.length := fun e he => by
    obtain ⟨s0, r0, t0, rfl, a, _, b⟩ := hok e he
    exact ⟨a, b⟩
  let P : List Int → Bool := fun e => decide (ownr wn (es0 e) = who) && (decide (ownr os (es0 e) ≠ who) || decide (plf pl (es0 e) = some e))
  refine ⟨.lst (ni.map D.int), (plc_of rfl (prng1_nat (pN1 rfl (str_len (by omega))) (by omega)) (pcol_map (l := List.range os.length) (enc := nat) (P := fun v : Nat => decide (ownr wn (v : Int) = who)) (F := nat) fun v hv => ?_)).trans (by show some (D.lst (nd.map nat)) = _; rw [eni]), ?_⟩
  · have hv := List.mem_range.mp hv
    exact pturn_of rfl (p2_of (p2_of rfl rfl (own_at (v := (v : Int)) (by omega) (by omega) (by omega))) rfl (eqD_pl _ _)) fun _ => rfl
  refine ⟨(es.filter P).map intT, plc_of rfl (pseq_of rfl) (pcol_map (l := es) (enc := intT) (P := P) (F := intT) fun e he => ?_), ?_⟩
  · obtain ⟨b0, _⟩ := bd e he
    have ok := hok e he
    refine pturn_of rfl (pand_of (a := decide (ownr wn (es0 e) = who)) (p2_of (p2_of rfl rfl (ed_at0 ok)) rfl ?_) (fun z => ?_) (fun z => ?_)) fun _ => rfl
    · show inL _ _ = _
      rw [inL_ints]
      congr 2
      rw [decide_eq_decide]
      exact mni _ b0.1 b0.2
    · show por _ _ _ = some (D.bl (decide (ownr wn (es0 e) = who) && (decide (ownr os (es0 e) ≠ who) || decide (plf pl (es0 e) = some e))))
      rw [z, Bool.true_and]
      have n1 : decide (ownr os (es0 e) ≠ who) = !decide (ownr os (es0 e) = who) := by simp
      refine por_of (a := decide (ownr os (es0 e) ≠ who)) (p2_of (p2_of rfl (p2_of rfl rfl (ed_at0 ok)) (own_at b0.1 b0.2 h9)) rfl ((neD_pl _ _).trans (by rw [n1]))) (fun y => ?_) (fun y => by rw [y]; rfl)
      rw [y, Bool.false_or]
      have pa := plan_at (pl := pl) (v := (es0 e).toNat) (by omega)
      rw [show (((es0 e).toNat : Nat) : Int) = es0 e by omega] at pa
      exact p2_of (p2_of rfl (p2_of rfl rfl (ed_at0 ok)) pa) rfl (ent_eq _ _)
    · show (decide (ownr wn (es0 e) = who) && _) = false
      rw [z]; rfl
  refine ⟨fun i e => e = [.d (.str (strO os)), .d (edL es), .d (.str (strO wn)), .d (planD pl), .d (whoD who), .d (.lst (ni.map D.int)), .any, .d (edL (es.filter P)), .any], rfl, ?_, ?_⟩
  · rintro i x e ex rfl
    obtain ⟨d, ee, rfl⟩ := map_getD ex
    obtain ⟨din, dP⟩ := List.mem_filter.mp (List.mem_of_getElem? ee)
    obtain ⟨_, b2⟩ := bd d din
    obtain ⟨p1, p2⟩ := (Bool.and_eq_true _ _).mp dP
    have s2 := st d din (of_decide_eq_true p1) ((Bool.or_eq_true _ _).mp p2 |>.imp (fun z => of_decide_eq_true z) fun z => of_decide_eq_true z)
    refine ⟨false, p2_of (p2_of rfl rfl (ed_at2 (hok d din))) rfl ?_, (fun z => by cases z), fun _ => rfl⟩
    show notO (inL _ _) = _
    rw [inL_ints, decide_eq_true ((mni _ b2.1 b2.2).mpr s2)]
    rfl
  · rintro e rfl
    refine ⟨.int (bad who), pN1 (p2_of rfl rfl (ltr_A who)) (by cases who <;> rfl), es.filter P, h, os.length, bad who, rfl, (fun e he => hok e (List.mem_filter.mp he).1), by omega, fun v hv => ?_⟩
    cases v with
    | true => exact absurd (hv.mp rfl) no
    | false => exact ⟨_, rfl, q⟩
end
end LR
set_option Elab.async false
set_option maxRecDepth 100000
set_option linter.all false
set_option maxHeartbeats 4000000
namespace LR
open PySem PySem.Spec PyProof.Rows L2
section
variable {P : Program} {w : World} {K : PySem.W.Frag} {mg : Str → Option Value} {base : Heap} {ζ : Cs}
def fIsEdge : Fs := fun as _ Q => ∃ a b c : Int, as = [.d (intT [a, b, c])] ∧ Q (.d (.bl true))
theorem q_isedge (T : Txt P K mg ζ) : CalX P w K mg base 2 "_law_is_edge" (spF K fIsEdge) := by
  have cx_number : CalX P w K mg base 1 "_law_number" (spF K fNum) := q_num T
  refine T.d_is_edge.dl sc_is_edge (by rintro as E Q ⟨a, b, c, rfl, _⟩; rfl) (by decide) fun fa cdv A outer s H E hr => ⟨_, qss_cons (qs_if (qt_p (QPW.qpt (qpw_or (qpt_not (qpt_truth (qp_callB (o_isi (T := "tuple") kitU) call_isi (by rfl) T.n_isinstance b_isinstance (qps_cons (qp_var (pv 0)) (qps_cons (qp_ty (pe_bltn (v := .ty "tuple") (by rfl) T.n_tuple b_tuple rfl)) (qps_nil)))))) (qpw_or1 (qpt_cmp (op_neD hr.units) o_ne (qp_callB o_len c_len (by rfl) T.n_len b_len (qps_cons (qp_var (pv 0)) (qps_nil))) (qp_int) (nomark _))))))
 (qss_one (qs_ret (qe_p (qp_bl))))
 (qss_nil))
 (qss_one (qs_ret (qe_and (qe_cT cx_number hr (by first | decide | omega) (takes_of rfl rfl rfl rfl) (by rfl) (qa_cons (qe_p (qp_ix ix_A o_ix (qp_var (pv 0)) (qp_int) (fun _ _ => rfl))) (qa_nil))) (qe_and (qe_cT cx_number hr (by first | decide | omega) (takes_of rfl rfl rfl rfl) (by rfl) (qa_cons (qe_p (qp_ix ix_A o_ix (qp_var (pv 0)) (qp_int) (fun _ _ => rfl))) (qa_nil))) (qe_one (qe_cT cx_number hr (by first | decide | omega) (takes_of rfl rfl rfl rfl) (by rfl) (qa_cons (qe_p (qp_ix ix_A o_ix (qp_var (pv 0)) (qp_int) (fun _ _ => rfl))) (qa_nil)))))))), ?_⟩
  rintro as Ed Qd ⟨a, b, c, rfl, q⟩
  refine ⟨false, rfl, (fun z => by cases z), fun _ => ?_⟩
  refine ⟨.int a, p2_of rfl rfl (atI_of (k := 0) rfl), a, rfl, true, rfl, fun _ => ?_, fun z => by cases z⟩
  refine ⟨.int b, p2_of rfl rfl (atI_of (k := 1) rfl), b, rfl, true, rfl, fun _ => ?_, fun z => by cases z⟩
  exact ⟨.int c, p2_of rfl rfl (atI_of (k := 2) rfl), c, rfl, q⟩
end
end LR
set_option Elab.async false
set_option maxRecDepth 100000
set_option linter.all false
set_option maxHeartbeats 4000000
namespace LR
open PySem PySem.Spec PyProof.Rows L2
section
variable {P : Program} {w : World} {K : PySem.W.Frag} {mg : Str → Option Value} {base : Heap} {ζ : Cs}
def fAnyE : Fs := fun as _ Q => ∃ (h : Int) (n : Nat), as = [.pool, .d (.int h), .d (nat n)] ∧ (1 ≤ h ∧ h ≤ 3) ∧ (1 ≤ n ∧ n ≤ 9) ∧ ∀ fs, Eds h n fs → fs.length ≤ 63 → (∀ v : Nat, v < n → ∃ e ∈ fs, es0 e = (v : Int)) → Q (.d (edL fs))
theorem q_anye (T : Txt P K mg ζ) : CalX P w K mg base 2 "_law_any_edges" (spF K fAnyE) := by
  have cx_draw : CalX P w K mg base 1 "_law_draw" (spF K fDraw) := q_draw T
  refine T.d_any_edges.dl sc_any_edges (by rintro as E Q ⟨h, n, rfl, _⟩; rfl) (by decide) fun fa cdv A outer s H E hr => ⟨_, qss_cons (qs_setLc (own := [("node", 4)]) (i := 3) true rfl sc_any_edges.nd rfl rfl (sw_true rfl rfl rfl (by decide +kernel)) (qi_range1 (by rfl) T.n_range (qe_var (pv 2))) (blkOk_by (N := N_any_edges) (sc := defScope s_any_edges) (by decide +kernel)) (fun _ _ _ _ _ => qg_name (pg_name (i := 4) sc_any_edges.nd rfl (Or.inl rfl))) (fun _ _ _ _ _ => qts_nil) (fun _ _ _ _ _ => qe_tup (qa_cons (qe_var (pv 4)) (qa_cons (qe_cT cx_draw hr (by first | decide | omega) takes0 (by rfl) (qa_cons (qe_var (pv 0)) (qa_cons (qe_p (qp_op op_addA o_add (qp_op op_mulA o_mul (qp_int) (qp_var (pv 1))) (qp_int))) (qa_nil)))) (qa_cons (qe_cT cx_draw hr (by first | decide | omega) takes0 (by rfl) (qa_cons (qe_var (pv 0)) (qa_cons (qe_var (pv 2)) (qa_nil)))) (qa_nil))))))
 (qss_cons (qs_for (vs := [5]) [5, 6] (passes_of rfl) rfl (qi_range1 (by rfl) T.n_range (qe_cT cx_draw hr (by first | decide | omega) (takes_of rfl rfl rfl rfl) (by rfl) (qa_cons (qe_var (pv 0)) (qa_cons (qe_p (qp_op op_sub o_sub (qp_int) (qp_var (pv 2)))) (qa_nil))))) (qg_name (pg_name (i := 5) sc_any_edges.nd rfl (Or.inl rfl)))
 (qss_cons (qs_setN (i := 6) false sc_any_edges.nd rfl (Or.inl rfl) (qe_tup (qa_cons (qe_cT cx_draw hr (by first | decide | omega) (takes_of rfl rfl rfl rfl) (by rfl) (qa_cons (qe_var (pv 0)) (qa_cons (qe_var (pv 2)) (qa_nil)))) (qa_cons (qe_cT cx_draw hr (by first | decide | omega) (takes_of rfl rfl rfl rfl) (by rfl) (qa_cons (qe_var (pv 0)) (qa_cons (qe_p (qp_op op_addA o_add (qp_op op_mulA o_mul (qp_int) (qp_var (pv 1))) (qp_int))) (qa_nil)))) (qa_cons (qe_cT cx_draw hr (by first | decide | omega) (takes_of rfl rfl rfl rfl) (by rfl) (qa_cons (qe_var (pv 0)) (qa_cons (qe_var (pv 2)) (qa_nil)))) (qa_nil))))))
 (qss_one (qs_if (qt_loan (qpt_cmp (op_notInA (Room.u65 hr)) o_nin (qp_var (pv 6)) (qp_var (pv 3)) rfl))
 (qss_one (qs_own m_append (ps_expr (pe_bm PySem.F.plainAttrs_list PySem.F.slot_list_append PySem.F.type_list_append mt_append (pv 3) (qa_cons (qe_var (pv 6)) (qa_nil))))))
 (qss_nil)))))
 (qss_fz [3] (qss_one (qs_ret (qe_var (pv 3)))))), ?_⟩
  rintro as Ed Qd ⟨h, n, rfl, ⟨h1, h3⟩, ⟨n1, n9⟩, q⟩
  refine ⟨rfl, ⟨by omega, by omega⟩, fun i (acc : List D) => ∃ fs : List (List Int), acc = fs.map intT ∧ Eds h n fs ∧ fs.length = i ∧ (∀ v : Nat, v < i → ∃ e ∈ fs, es0 e = (v : Int)) ∧ ∀ e ∈ fs, es0 e < (i : Nat), ⟨[], rfl, ⟨fun _ h => (by cases h), .nil⟩, rfl, (fun v hv => by omega), fun e h => by cases h⟩, ?_, ?_⟩
  · rintro i x acc ex ⟨fs, rfl, O, hl, hv, hm⟩
    obtain ⟨hi, rfl⟩ := rg_get ex
    rw [Int.toNat_natCast] at hi
    refine ⟨fun _ => ?_, fun z => by cases z⟩
    refine ⟨_, p2_of (p2_of rfl rfl rfl) rfl rfl, 2 * h + 1, rfl, by omega, by omega, fun r r0 r1 => ⟨n, rfl, by omega, by omega, fun t t0 t1 => ?_⟩⟩
    have okE : EdgeOk h n [((i : Nat) : Int), r, t] := ⟨_, r, t, rfl, ⟨by omega, by omega⟩, ⟨r0, by omega⟩, ⟨t0, t1⟩⟩
    have nm : [((i : Nat) : Int), r, t] ∉ fs := fun m => by have := hm _ m; exact absurd this (by show ¬ (i : Int) < i; omega)
    refine ⟨_, rfl, by show 3 ≤ 1000; decide, fs ++ [[((i : Nat) : Int), r, t]], by rw [List.map_append]; rfl, O.snoc okE nm, by rw [List.length_append, hl]; rfl, fun v hv2 => ?_, fun e he => ?_⟩
    · by_cases c : v < i
      · obtain ⟨e, he, h0⟩ := hv v c
        exact ⟨e, List.mem_append_left _ he, h0⟩
      · have : v = i := by omega
        subst this
        exact ⟨_, List.mem_append_right _ (List.mem_singleton.mpr rfl), rfl⟩
    · rcases List.mem_append.mp he with z | z
      · have := hm e z; omega
      · rw [List.mem_singleton.mp z]
        show (i : Int) < (i + 1 : Nat)
        omega
  · rintro acc ⟨fs, rfl, O, hl, hv, hm⟩
    rw [rg_len, Int.toNat_natCast] at hl hv
    refine ⟨.int (64 - n), p2_of rfl rfl rfl, 64 - n, rfl, by omega, by omega, fun m m0 m1 => ?_⟩
    refine ⟨⟨by omega, by omega⟩, fun j e => ∃ gs, Eds h n gs ∧ gs.length ≤ n + j ∧ (∀ v : Nat, v < n → ∃ e ∈ gs, es0 e = (v : Int)) ∧ e = [.pool, .d (.int h), .d (nat n), .own (.ls (gs.map intT)), .any, .any, .any], ⟨fs, O, by omega, hv, rfl⟩, ?_, ?_⟩
    · rintro j x e ex ⟨gs, O, hl, hv, rfl⟩
      obtain ⟨hj, rfl⟩ := rg_get ex
      refine ⟨n, rfl, by omega, by omega, fun s s0 s1 => ⟨_, p2_of (p2_of rfl rfl rfl) rfl rfl, 2 * h + 1, rfl, by omega, by omega, fun r r0 r1 => ⟨n, rfl, by omega, by omega, fun t t0 t1 => ?_⟩⟩⟩
      refine ⟨_, rfl, by show 3 ≤ 1000; decide, ?_⟩
      have okE : EdgeOk h n [s, r, t] := ⟨_, r, t, rfl, ⟨s0, s1⟩, ⟨r0, by omega⟩, ⟨t0, t1⟩⟩
      obtain ⟨b, eb, hb⟩ := nin_eds [s, r, t] gs
      refine ⟨b, p2_of rfl rfl eb, fun z => ?_, fun z => ⟨gs, O, by omega, hv, rfl⟩⟩
      have nm := hb.mp z
      refine ⟨_, rfl, _, _, rfl, rfl, ?_, _, O.snoc okE nm, ?_, fun v hv2 => ?_, ?_⟩
      · rw [List.length_append, List.length_map, List.length_singleton]; omega
      · rw [List.length_append, List.length_singleton]; omega
      · obtain ⟨e, he, h0⟩ := hv v hv2
        exact ⟨e, List.mem_append_left _ he, h0⟩
      · rw [List.map_append]; rfl
    · rintro e ⟨gs, O, hl, hv, rfl⟩
      rw [rg_len] at hl
      exact q gs O (by omega) hv
def fAnyG : Fs := fun as _ Q => ∃ h : Int, as = [.pool, .d (.int h)] ∧ (1 ≤ h ∧ h ≤ 3) ∧ ∀ os es, GameIn h os es → Q (.fr (lesD os es))
theorem q_anyg (T : Txt P K mg ζ) : CalX P w K mg base 4 "_law_any_game" (spF K fAnyG) := by
  have cx_draw : CalX P w K mg base 1 "_law_draw" (spF K fDraw) := q_draw T
  have cx_owners : CalX P w K mg base 2 "_law_owners" (spF K fOwners) := q_owners T
  have cx_edges : CalX P w K mg base 2 "_law_edges" (spF K fEdges) := q_edges T
  have cx_game : CalX P w K mg base 3 "_law_game" (spF K fGameL) := q_gameL T
  have cx_any_edges : CalX P w K mg base 2 "_law_any_edges" (spF K fAnyE) := q_anye T
  refine T.d_any_game.dl sc_any_game (by rintro as E Q ⟨h, rfl, _⟩; rfl) (by decide) fun fa cdv A outer s H E hr => ⟨_, qss_cons (qs_setN (i := 2) false sc_any_game.nd rfl (Or.inl rfl) (qe_cT cx_draw hr (by first | decide | omega) (takes_of rfl rfl rfl rfl) (by rfl) (qa_cons (qe_var (pv 0)) (qa_cons (qe_p (qp_int)) (qa_nil)))))
 (qss_cons (qs_if (qt_p (qpt_cmp op_lt o_cmp (qp_var (pv 2)) (qp_int) (nomark _)))
 (qss_one (qs_ret (qe_cT cx_game hr (by first | decide | omega) (takes_of rfl rfl rfl rfl) (by rfl) (qa_cons (qe_var (pv 0)) (qa_cons (qe_var (pv 1)) (qa_cons (qe_p (qp_int)) (qa_nil)))))))
 (qss_nil))
 (qss_cons (qs_if (qt_p (qpt_cmp op_lt o_cmp (qp_var (pv 2)) (qp_int) (nomark _)))
 (qss_cons (qs_setN (i := 3) false sc_any_game.nd rfl (Or.inl rfl) (qe_op op_addA o_add (qe_p (qp_int)) (qe_cT cx_draw hr (by first | decide | omega) (takes_of rfl rfl rfl rfl) (by rfl) (qa_cons (qe_var (pv 0)) (qa_cons (qe_p (qp_int)) (qa_nil))))))
 (qss_cons (qs_setN (i := 4) false sc_any_game.nd rfl (Or.inl rfl) (qe_cT cx_owners hr (by first | decide | omega) (takes_of rfl rfl rfl rfl) (by rfl) (qa_cons (qe_var (pv 0)) (qa_cons (qe_var (pv 3)) (qa_nil)))))
 (qss_one (qs_ret (qe_lst (qa_cons (qe_var (pv 4)) (qa_cons (qe_cT cx_edges hr (by first | decide | omega) (takes_of rfl rfl rfl rfl) (by rfl) (qa_cons (qe_var (pv 0)) (qa_cons (qe_var (pv 1)) (qa_cons (qe_var (pv 3)) (qa_cons (qe_p (qp_int)) (qa_nil)))))) (qa_nil))))))))
 (qss_nil))
 (qss_cons (qs_setN (i := 3) false sc_any_game.nd rfl (Or.inl rfl) (qe_op op_addA o_add (qe_p (qp_int)) (qe_cT cx_draw hr (by first | decide | omega) (takes_of rfl rfl rfl rfl) (by rfl) (qa_cons (qe_var (pv 0)) (qa_cons (qe_p (qp_int)) (qa_nil))))))
 (qss_cons (qs_setN (i := 4) false sc_any_game.nd rfl (Or.inl rfl) (qe_cT cx_owners hr (by first | decide | omega) (takes_of rfl rfl rfl rfl) (by rfl) (qa_cons (qe_var (pv 0)) (qa_cons (qe_var (pv 3)) (qa_nil)))))
 (qss_one (qs_ret (qe_lst (qa_cons (qe_var (pv 4)) (qa_cons (qe_cT cx_any_edges hr (by first | decide | omega) (takes_of rfl rfl rfl rfl) (by rfl) (qa_cons (qe_var (pv 0)) (qa_cons (qe_var (pv 1)) (qa_cons (qe_var (pv 3)) (qa_nil))))) (qa_nil)))))))))), ?_⟩
  rintro as Ed Qd ⟨h, rfl, hh, q⟩
  refine ⟨_, rfl, 16, rfl, by decide, by decide, fun v v0 v1 => ?_⟩
  refine ⟨_, p2_of rfl rfl rfl, fun z => ?_, fun z => ?_⟩
  · refine ⟨_, rfl, h, 5, rfl, hh, by decide, fun os es G _ _ => ?_⟩
    exact q os es G
  refine ⟨_, p2_of rfl rfl rfl, fun y => ?_, fun y => ?_⟩
  · refine ⟨_, rfl, _, rfl, 4, rfl, by decide, by decide, fun u u0 u1 => ⟨_, rfl, ?_⟩⟩
    obtain ⟨n, en⟩ : ∃ n : Nat, 4 + u = (n : Int) := ⟨(4 + u).toNat, by omega⟩
    rw [en]
    refine ⟨n, rfl, by omega, fun os ol => ?_⟩
    refine ⟨_, rfl, h, n, 2, rfl, hh, by omega, by decide, fun fs O fl fv => ?_⟩
    exact ⟨_, rfl, by show 2 ≤ 1000; decide, q os fs ⟨by omega, by rw [ol]; exact O, by omega, by rw [ol]; exact fv⟩⟩
  · refine ⟨_, rfl, _, rfl, 9, rfl, by decide, by decide, fun u u0 u1 => ⟨_, rfl, ?_⟩⟩
    obtain ⟨n, en⟩ : ∃ n : Nat, 1 + u = (n : Int) := ⟨(1 + u).toNat, by omega⟩
    rw [en]
    refine ⟨n, rfl, by omega, fun os ol => ?_⟩
    refine ⟨h, n, rfl, hh, by omega, fun fs O fl fv => ?_⟩
    exact ⟨_, rfl, by show 2 ≤ 1000; decide, q os fs ⟨by omega, by rw [ol]; exact O, by omega, by rw [ol]; exact fv⟩⟩
def fSolved : Fs := fun as _ Q => ∃ (os wn : List Bool) (es : List (List Int)) (pl : List (Option (List Int))) (h : Int), as = [.d (.tup [.str (strO wn), planD pl]), .d (.str (strO os)), .d (edL es)] ∧ wn.length = os.length ∧ pl.length = os.length ∧ os.length ≤ 9 ∧ es.length ≤ 63 ∧ (∀ e ∈ es, EdgeOk h os.length e) ∧
  (∀ v : Nat, v < os.length → (ownr os v = ownr wn v → ∃ e ∈ es, plf pl v = some e ∧ es0 e = v) ∧ (ownr os v ≠ ownr wn v → plf pl v = none)) ∧
  (∀ who, (∀ e ∈ es, ownr wn (es0 e) = who → (ownr os (es0 e) ≠ who ∨ plf pl (es0 e) = some e) → ownr wn (es2 e) = who) ∧ ¬ HasPar (bad who) (es.filter fun e => decide (ownr wn (es0 e) = who) && (decide (ownr os (es0 e) ≠ who) || decide (plf pl (es0 e) = some e)))) ∧ Q (.d (.bl true))
theorem q_solved (T : Txt P K mg ζ) : CalX P w K mg base 4 "_law_solved" (spF K fSolved) := by
  have cx_side_is_won : CalX P w K mg base 3 "_law_side_is_won" (spF K fSideWon) := q_sidewon T
  have cx_is_edge := q_isedge (P := P) (w := w) (base := base) T
  refine T.d_solved.dl sc_solved (by rintro as E Q ⟨os, wn, es, pl, h, rfl, _⟩; rfl) (by decide) fun fa cdv A outer s H E hr => ⟨_, qss_cons (qs_if (qt_p (QPW.qpt (qpw_or (qpt_not (qpt_truth (qp_callB (o_isi (T := "tuple") kitU) call_isi (by rfl) T.n_isinstance b_isinstance (qps_cons (qp_var (pv 0)) (qps_cons (qp_ty (pe_bltn (v := .ty "tuple") (by rfl) T.n_tuple b_tuple rfl)) (qps_nil)))))) (qpw_or1 (qpt_cmp (op_neD hr.units) o_ne (qp_callB o_len c_len (by rfl) T.n_len b_len (qps_cons (qp_var (pv 0)) (qps_nil))) (qp_int) (nomark _))))))
 (qss_one (qs_ret (qe_p (qp_bl))))
 (qss_nil))
 (qss_cons (qs_if (qt_p (QPW.qpt (qpw_or (qpt_not (qpt_truth (qp_callB (o_isi (T := "str") kitS) call_isi (by rfl) T.n_isinstance b_isinstance (qps_cons (qp_ix ix_A o_ix (qp_var (pv 0)) (qp_int) (fun _ _ => rfl)) (qps_cons (qp_ty (pe_bltn (v := .ty "str") (by rfl) T.n_str b_str rfl)) (qps_nil)))))) (qpw_or1 (qpt_not (qpt_truth (qp_callB (o_isi (T := "list") kitL) call_isi (by rfl) T.n_isinstance b_isinstance (qps_cons (qp_ix ix_A o_ix (qp_var (pv 0)) (qp_int) (fun _ _ => rfl)) (qps_cons (qp_ty (pe_bltn (v := .ty "list") (by rfl) T.n_list b_list rfl)) (qps_nil))))))))))
 (qss_one (qs_ret (qe_p (qp_bl))))
 (qss_nil))
 (qss_cons (qs_if (qt_p (QPW.qpt (qpw_or (qpt_cmp (op_neD hr.units) o_ne (qp_callB o_len c_len (by rfl) T.n_len b_len (qps_cons (qp_ix ix_A o_ix (qp_var (pv 0)) (qp_int) (fun _ _ => rfl)) (qps_nil))) (qp_callB o_len c_len (by rfl) T.n_len b_len (qps_cons (qp_var (pv 1)) (qps_nil))) (nomark _)) (qpw_or1 (qpt_cmp (op_neD hr.units) o_ne (qp_callB o_len c_len (by rfl) T.n_len b_len (qps_cons (qp_ix ix_A o_ix (qp_var (pv 0)) (qp_int) (fun _ _ => rfl)) (qps_nil))) (qp_callB o_len c_len (by rfl) T.n_len b_len (qps_cons (qp_var (pv 1)) (qps_nil))) (nomark _))))))
 (qss_one (qs_ret (qe_p (qp_bl))))
 (qss_nil))
 (qss_cons (qs_for (vs := [3]) [3, 4] (passes_of rfl) rfl (qi_range1 (by rfl) T.n_range (qe_p (qp_callB o_len c_len (by rfl) T.n_len b_len (qps_cons (qp_var (pv 1)) (qps_nil))))) (qg_name (pg_name (i := 3) sc_solved.nd rfl (Or.inl rfl)))
 (qss_cons (qs_setN (i := 4) false sc_solved.nd rfl (Or.inl rfl) (qe_p (qp_ix ix_A o_ix (qp_ix ix_A o_ix (qp_var (pv 0)) (qp_int) (fun _ _ => rfl)) (qp_var (pv 3)) (fun _ _ => rfl))))
 (qss_cons (qs_if (qt_p (qpt_cmp op_notIn_str o_ninStr (qp_ix ix_A o_ix (qp_ix ix_A o_ix (qp_var (pv 0)) (qp_int) (fun _ _ => rfl)) (qp_var (pv 3)) (fun _ _ => rfl)) (qp_str) rfl))
 (qss_one (qs_ret (qe_p (qp_bl))))
 (qss_nil))
 (qss_one (qs_if (qt_p (qpt_cmp (op_neD hr.units) o_ne (qp_ix ix_A o_ix (qp_ix ix_A o_ix (qp_var (pv 0)) (qp_int) (fun _ _ => rfl)) (qp_var (pv 3)) (fun _ _ => rfl)) (qp_ix ix_A o_ix (qp_var (pv 1)) (qp_var (pv 3)) (fun _ _ => rfl)) (nomark _)))
 (qss_one (qs_if (qt_p (qpt_cmp op_notN o_notN (qp_var (pv 4)) (qp_non) (nomark _)))
 (qss_one (qs_ret (qe_p (qp_bl))))
 (qss_nil)))
 (qss_one (qs_if (QW.qt (qw_or (qt_not (qt_truth (qe_cT cx_is_edge hr (by first | decide | omega) (takes_of rfl rfl rfl rfl) (by rfl) (qa_cons (qe_var (pv 4)) (qa_nil))))) (qw_or (qt_p (qpt_cmp (op_notInA (Room.u65 hr)) o_nin (qp_var (pv 4)) (qp_var (pv 2)) rfl)) (qw_or1 (qt_p (qpt_cmp (op_neD hr.units) o_ne (qp_ix ix_A o_ix (qp_var (pv 4)) (qp_int) (fun _ _ => rfl)) (qp_var (pv 3)) (nomark _)))))))
 (qss_one (qs_ret (qe_p (qp_bl))))
 (qss_nil))))))))
 (qss_cons (qs_for (vs := [5]) [5] (passes_of rfl) rfl (qi_seq (qe_p (qp_lst (qps_cons (qp_str) (qps_cons (qp_str) (qps_nil)))))) (qg_name (pg_name (i := 5) sc_solved.nd rfl (Or.inl rfl)))
 (qss_one (qs_if (qt_not (qt_truth (qe_cT cx_side_is_won hr (by first | decide | omega) (takes_of rfl rfl rfl rfl) (by rfl) (qa_cons (qe_var (pv 1)) (qa_cons (qe_var (pv 2)) (qa_cons (qe_p (qp_ix ix_A o_ix (qp_var (pv 0)) (qp_int) (fun _ _ => rfl))) (qa_cons (qe_p (qp_ix ix_A o_ix (qp_var (pv 0)) (qp_int) (fun _ _ => rfl))) (qa_cons (qe_var (pv 5)) (qa_nil)))))))))
 (qss_one (qs_ret (qe_p (qp_bl))))
 (qss_nil))))
 (qss_one (qs_ret (qe_p (qp_bl)))))))), ?_⟩
  rintro as Ed Qd ⟨os, wn, es, pl, h, rfl, wl, pll, h9, hz, hok, hp, hw, q⟩
  have wa : ∀ i : Nat, i < os.length → ixD (.str (strO wn)) (nat i) = some (whoD (ownr wn (i : Int))) := fun i hi => own_at (by omega) (by omega) (by omega)
  have oa : ∀ i : Nat, i < os.length → ixD (.str (strO os)) (nat i) = some (whoD (ownr os (i : Int))) := fun i hi => own_at (by omega) (by omega) h9
  have e0 : ∀ x y : D, ixD (.tup [x, y]) (.int 0) = some x := fun x y => atI_of (k := 0) rfl
  have e1 : ∀ x y : D, ixD (.tup [x, y]) (.int 1) = some y := fun x y => atI_of (k := 1) rfl
  refine ⟨false, rfl, (fun z => by cases z), fun _ => ?_⟩
  refine ⟨false, rfl, (fun z => by cases z), fun _ => ?_⟩
  refine ⟨false, ?_, (fun z => by cases z), fun _ => ?_⟩
  · have nn : ∀ a b : Nat, a = b → neD (nat a) (nat b) = some (.bl false) := fun a b e => by
      subst e
      show notO (some (D.bl (decide ((a : Int) = a)))) = _
      rw [decide_eq_true rfl]; rfl
    have pl2 : lenD [planD pl] = some (nat pl.length) := by
      show some (D.int ((pl.map entD).length : Nat)) = _
      rw [List.length_map]
    exact por_of (a := false) (p2_of (pN1 (p2_of rfl rfl (e0 _ _)) (str_len (by omega))) (pN1 rfl (str_len (by omega))) (nn _ _ wl)) (fun _ => p2_of (pN1 (p2_of rfl rfl (e1 _ _)) pl2) (pN1 rfl (str_len (by omega))) (nn _ _ pll)) (fun z => by cases z)
  refine ⟨_, pN1 rfl (str_len (by omega)), ⟨by omega, by omega⟩, fun i e => e = [.d (.tup [.str (strO wn), planD pl]), .d (.str (strO os)), .d (edL es), .any, .any, .any], rfl, ?_, ?_⟩
  · rintro i x e ex rfl
    obtain ⟨hi, rfl⟩ := rg_get ex
    rw [Int.toNat_natCast] at hi
    obtain ⟨hp1, hp2⟩ := hp i hi
    refine ⟨entD (plf pl i), p2_of (p2_of rfl rfl (e1 _ _)) rfl (plan_at (by omega)), ?_⟩
    refine ⟨false, p2_of (p2_of (p2_of rfl rfl (e0 _ _)) rfl (wa i hi)) rfl (nin_AB _), (fun z => by cases z), fun _ => ?_⟩
    refine ⟨_, p2_of (p2_of (p2_of rfl rfl (e0 _ _)) rfl (wa i hi)) (p2_of rfl rfl (oa i hi)) (neD_pl _ _), fun z => ?_, fun z => ?_⟩
    · have z : ownr wn i ≠ ownr os i := by simpa using z
      rw [hp2 fun c => z c.symm]
      exact ⟨false, p2_of rfl rfl rfl, (fun z => by cases z), fun _ => rfl⟩
    · have z : ownr wn i = ownr os i := by simpa using z
      obtain ⟨e, he, ep, h0⟩ := hp1 z.symm
      rw [ep]
      obtain ⟨a, r, t, rfl, _⟩ := hok e he
      have ni : ninD (intT [a, r, t]) (edL es) = some (.bl false) := by
        obtain ⟨b, eb, hb⟩ := nin_eds [a, r, t] es
        rw [eb]
        cases b with
        | false => rfl
        | true => exact absurd he (hb.mp rfl)
      have ni0 : neD (.int a) (nat i) = some (.bl false) := by
        have h0 : a = (i : Int) := h0
        show notO (some (D.bl (decide (a = (i : Int))))) = _
        rw [decide_eq_true h0]; rfl
      refine ⟨a, r, t, rfl, true, rfl, (fun z => by cases z), fun _ => ⟨false, p2_of rfl rfl ni, (fun z => by cases z), fun _ => ⟨false, p2_of (p2_of rfl rfl (atI_of (k := 0) rfl)) rfl ni0, (fun z => by cases z), fun _ => rfl⟩⟩⟩
  · rintro e rfl
    refine ⟨_, rfl, fun i e => e = [.d (.tup [.str (strO wn), planD pl]), .d (.str (strO os)), .d (edL es), .any, .any, .any], rfl, ?_, ?_⟩
    · rintro i x e ex rfl
      have : ∃ who, x = whoD who := by
        match i, ex with
        | 0, ex => cases ex; exact ⟨true, rfl⟩
        | 1, ex => cases ex; exact ⟨false, rfl⟩
        | _ + 2, ex => cases ex
      obtain ⟨who, rfl⟩ := this
      exact ⟨_, p2_of rfl rfl (e0 _ _), _, p2_of rfl rfl (e1 _ _), os, wn, es, pl, who, h, rfl, wl, pll, h9, hz, hok, (hw who).1, (hw who).2, true, rfl, (fun z => by cases z), fun _ => rfl⟩
    · rintro e rfl
      exact ⟨_, rfl, q⟩
end
end LR
set_option Elab.async false
set_option maxRecDepth 100000
set_option linter.all false
set_option maxHeartbeats 4000000
namespace LR
open PySem PySem.Spec PyProof.Rows L2
section
variable {P : Program} {w : World} {K : PySem.W.Frag} {mg : Str → Option Value} {base : Heap} {ζ : Cs}
theorem getD_map_range {α : Type} {n : Nat} {f : Nat → α} {v : Nat} {d : α} (hv : v < n) : ((List.range n).map f).getD v d = f v := by
  rw [List.getD_eq_getElem?_getD, List.getElem?_map, List.getElem?_range hv]; rfl
theorem winL_len {w : Tab} {n : Nat} : (winL w n).length = n := by unfold winL; rw [List.length_map, List.length_range]
theorem plL_len {w : Tab} {n : Nat} : (plL w n).length = n := by unfold plL; rw [List.length_map, List.length_range]
theorem mem_ndI {n : Nat} {v : Int} : v ∈ ndI n ↔ 0 ≤ v ∧ v < n := by
  unfold ndI
  rw [List.mem_map]
  constructor
  · rintro ⟨k, hk, rfl⟩
    have := List.mem_range.mp hk
    omega
  · rintro ⟨h0, h1⟩
    exact ⟨v.toNat, List.mem_range.mpr (by omega), by omega⟩
theorem nd_ndI {n : Nat} : (ndI n).Nodup := by
  unfold ndI
  rw [List.nodup_iff_pairwise_ne, List.pairwise_map]
  exact List.pairwise_lt_range.imp fun {a b} h e => by omega
theorem sol_look {os ss w} {n : Nat} (S : Sol os (ndI n) ss w) {v : Int} (h0 : 0 ≤ v) (h1 : v < n) : look w v = some (ownr (winL w n) v, plf (plL w n) v) := by
  obtain ⟨p, pl, hl⟩ := S.win (mem_ndI.mpr ⟨h0, h1⟩)
  have hv : v.toNat < n := by omega
  have hc : ((v.toNat : Nat) : Int) = v := by omega
  have e1 : ownr (winL w n) v = p := by
    unfold ownr winL
    rw [getD_map_range hv, hc, hl]; try rfl
  have e2 : plf (plL w n) v = pl := by
    unfold plf plL
    rw [getD_map_range hv, hc, hl]; try rfl
  rw [hl, e1, e2]
theorem sol_win {os ss w} {n : Nat} (S : Sol os (ndI n) ss w) {v : Int} (h0 : 0 ≤ v) (h1 : v < n) : win w v = some (ownr (winL w n) v) := by
  unfold LR.win; rw [sol_look S h0 h1]; rfl
theorem wnE_ent : ∀ o, wnE o = entD o
  | none => rfl
  | some _ => rfl
theorem ansS_d {w n} : (ansS w n).d = .tup [.str (strO (winL w n)), planD (plL w n)] := by
  unfold ansS planD
  rw [show (plL w n).map wnE = (plL w n).map entD from List.map_congr_left fun o _ => wnE_ent o]
  simp only [Ow.d, owds]
structure SolF (os wn : List Bool) (es : List (List Int)) (pl : List (Option (List Int))) : Prop where
  wl : wn.length = os.length
  pll : pl.length = os.length
  ent : ∀ v : Nat, v < os.length → (ownr os v = ownr wn v → ∃ e ∈ es, plf pl v = some e ∧ es0 e = v) ∧ (ownr os v ≠ ownr wn v → plf pl v = none)
  stay : ∀ who, ∀ e ∈ es, ownr wn (es0 e) = who → (ownr os (es0 e) ≠ who ∨ plf pl (es0 e) = some e) → ownr wn (es2 e) = who
  par : ∀ who, ¬ HasPar (bad who) (es.filter fun e => decide (ownr wn (es0 e) = who) && (decide (ownr os (es0 e) ≠ who) || decide (plf pl (es0 e) = some e)))
theorem sol_facts {os ss es w} {h : Int} (S : Sol os (ndI os.length) ss w) (ok : ∀ e ∈ ss, EdgeOk h os.length e) (hp : ∀ e, e ∈ es ↔ e ∈ ss) : SolF os (winL w os.length) es (plL w os.length) := by
  have bd : ∀ e ∈ ss, (0 ≤ es0 e ∧ es0 e < os.length) ∧ 0 ≤ es2 e ∧ es2 e < os.length := fun e he => by
    obtain ⟨s0, r0, t0, rfl, a, _, b⟩ := ok e he
    exact ⟨a, b⟩
  have netE : ∀ who, ∀ e ∈ ss, (decide (ownr (winL w os.length) (es0 e) = who) && (decide (ownr os (es0 e) ≠ who) || decide (plf (plL w os.length) (es0 e) = some e))) = true → net os w who e = true := fun who e he z => by
    obtain ⟨z1, z2⟩ := (Bool.and_eq_true _ _).mp z
    have z1 := of_decide_eq_true z1
    have hl := sol_look S (bd e he).1.1 (bd e he).1.2
    rw [z1] at hl
    refine net_iff.mpr ⟨_, hl, ?_⟩
    rcases (Bool.or_eq_true _ _).mp z2 with y | y
    · exact .inl (of_decide_eq_true y)
    · exact .inr (of_decide_eq_true y)
  refine ⟨winL_len, plL_len, fun v hv => ⟨fun q => ?_, fun q => ?_⟩, fun who e he q1 q2 => ?_, fun who hh => S.par who (HasPar.mono (fun e he => ?_) hh)⟩
  · have hl := sol_look S (v := (v : Int)) (by omega) (by omega)
    obtain ⟨e, he, e1, e2, _⟩ := S.own _ _ _ hl q
    exact ⟨e, (hp e).mpr he, e1, e2⟩
  · exact (S.opp _ _ _ (sol_look S (v := (v : Int)) (by omega) (by omega)) q).1
  · have he := (hp e).mp he
    have := (S.stay he (netE who e he (by rw [Bool.and_eq_true, Bool.or_eq_true, decide_eq_true_eq, decide_eq_true_eq, decide_eq_true_eq]; exact ⟨q1, q2⟩))).2
    rw [sol_win S (bd e he).2.1 (bd e he).2.2] at this
    exact Option.some.inj this
  · obtain ⟨a, b⟩ := List.mem_filter.mp he
    have a := (hp e).mp a
    exact List.mem_filter.mpr ⟨a, netE who e a b⟩
theorem pstr_os {p : PF} {env : List Ev} {os : List Bool} (hl : os.length ≤ 1000) (h : p env = some (.str (strO os))) : (ipStr p).p env = some (os.map whoD) := by
  show pstr p env = _
  unfold pstr
  rw [h]
  show (if (strO os).cps.size ≤ 100000 then some (ltrs (strO os)) else none) = _
  have : (strO os).cps.size ≤ 100000 := (show (strO os).length ≤ _ by rw [strO_len]; omega)
  rw [if_pos this]
  congr 1
  unfold ltrs strO
  rw [List.toList_toArray, List.map_map]; rfl
theorem turn_ltr (b : Bool) : ixD (.str (Str.ofString "AB")) (.int (if b = true then 1 else 0)) = some (whoD (!b)) := by cases b <;> rfl
def upE (e : List Int) : List Int := [es0 e, es1 e + 1, es2 e]
theorem game_up {h : Int} {os : List Bool} {es : List (List Int)} (G : GameIn h os es) : GameIn (h + 1) (os.map fun b => !b) (es.map upE) := by
  have hl : (os.map fun b => !b).length = os.length := List.length_map ..
  refine ⟨by rw [hl]; exact G.sz, ⟨fun e he => ?_, ?_⟩, by rw [List.length_map]; exact G.len, fun v hv => ?_⟩
  · obtain ⟨f, hf, rfl⟩ := List.mem_map.mp he
    obtain ⟨s, r, t, rfl, a, b, c⟩ := G.eds.ok f hf
    rw [hl]
    exact ⟨s, r + 1, t, rfl, a, ⟨by omega, by omega⟩, c⟩
  · rw [List.nodup_iff_pairwise_ne, List.pairwise_map]
    refine (List.nodup_iff_pairwise_ne.mp G.eds.nd).imp_of_mem fun {e f} he hf n z => ?_
    obtain ⟨s, r, t, rfl, _⟩ := G.eds.ok e he
    obtain ⟨s', r', t', rfl, _⟩ := G.eds.ok f hf
    have z : [s, r + 1, t] = [s', r' + 1, t'] := z
    simp at z
    exact n (by rw [z.1, z.2.1, z.2.2])
  · obtain ⟨e, he, h0⟩ := G.out v (by rw [hl] at hv; exact hv)
    exact ⟨upE e, List.mem_map.mpr ⟨e, he, rfl⟩, h0⟩
/-- the letters turned, the ranks one greater, as the laws write them -/
theorem turn_letters {i j : Nat} {env : List Ev} {os : List Bool} (hl : os.length ≤ 1000) (hs : pvar i env = some (.str (strO os))) (hf : ownFree env [j] = true) (hj : ∀ y, nth (sth (wipeE env [j]) j (.d y)) j = .d y) : p2 joinD (pc (.str (Str.ofString ""))) (plc [j] (ipStr (pvar i)).p (bNm j) (pc (.bl true)) (p2 ixD (pc (.str (Str.ofString "AB"))) (pN intD [p2 eqD (pvar j) (pc (.str (Str.ofString "A")))]))) env = some (.str (strO (os.map fun b => !b))) := by
  refine p2_of rfl (plc_of hf (pstr_os hl hs) (pcol_all (l := os) (enc := whoD) (F := fun b => whoD (!b)) fun b _ => pturn_of (c := true) rfl rfl fun _ => ?_)) ((congrArg (fun z => joinD _ (.lst z)) (show os.map (fun b => whoD (!b)) = (os.map fun b => !b).map whoD by rw [List.map_map]; rfl)).trans (joinD_ltrs (l := os.map fun b => !b) (by rw [List.length_map]; exact hl)))
  refine p2_of rfl (pN1 (p2_of (x := whoD b) ?_ rfl (ltr_A b)) rfl) (turn_ltr b)
  unfold pvar
  rw [hj]
theorem ba_ltr (b : Bool) : ixD (.str (Str.ofString "BA")) (.int (if b = true then 1 else 0)) = some (whoD b) := by cases b <;> rfl
theorem sol_due {os ss es w ψ} {h : Nat} (S : Sol os (ndI os.length) ss w) (ok : ∀ e ∈ ss, EdgeOk h os.length e) (hp : ∀ e, e ∈ es ↔ e ∈ ss) (F : LeastFit (hv os.length h) os es ψ) : (ψ.map fun o => o.isSome) = winL w os.length := by
  have F2 := F.perm hp
  refine List.ext_getElem (by rw [List.length_map, winL_len]; exact F.ok.len) fun i h1 h2 => ?_
  rw [winL_len] at h2
  have e1 := halv_wins S (fun v => mem_ndI) nd_ndI (fun e he => by
    obtain ⟨s0, r0, t0, rfl, _, hr0, _⟩ := ok e he
    exact hr0) F2 h2
  rw [sol_win S (v := (i : Int)) (by omega) (by omega)] at e1
  have g1 : ψ.getD i none = ψ[i]'(by simpa using h1) := getD_get (by simpa using h1)
  rw [List.getElem_map, ← g1, e1]
  have g2 : ownr (winL w os.length) (i : Int) = (winL w os.length)[i]'(by rw [winL_len]; exact h2) := by
    unfold ownr
    rw [Int.toNat_natCast]
    exact getD_get (by rw [winL_len]; exact h2)
  rw [g2]
  cases (winL w os.length)[i]'(by rw [winL_len]; exact h2) <;> rfl
end
end LR
set_option Elab.async false
set_option maxRecDepth 100000
set_option linter.all false
set_option maxHeartbeats 4000000
namespace LR
open PySem PySem.Spec PyProof.Rows L2
section
variable {P : Program} {w : World} {K : PySem.W.Frag} {mg : Str → Option Value} {base : Heap} {ζ : Cs}
theorem mk_Game_of (T : Txt P K mg ζ) : ∀ {vs H Q E}, spF K (fGame ζ.Game) vs H Q E → ∀ y dx, H y = none → H dx = none → dx ≠ y → spGame ζ.Game (.ref y :: vs) (upd (upd H dx (.own y)) y (.ins ζ.Game dx [])) (fun v H2 => v = .non ∧ Q (.ref y) H2) E := mk_Game T
theorem okp_edT (es : List (List Int)) : okp 2 (edT es) = true := by
  show (es.map intT).all (okp 1) = true
  rw [List.all_map, List.all_eq_true]
  intro e _
  show (e.map D.int).all (okp 0) = true
  rw [List.all_map, List.all_eq_true]
  intro i _
  rfl
theorem tup_at0 (x y : D) : ixD (.tup [x, y]) (.int 0) = some x := atI_of (k := 0) rfl
theorem tup_at1 (x y : D) : ixD (.tup [x, y]) (.int 1) = some y := atI_of (k := 1) rfl
theorem nodes_of {n : Nat} {wn : List Bool} {who : Bool} : ∃ ni : List Int, (((List.range n).filter fun v : Nat => decide (ownr wn (v : Int) = who)).map nat = ni.map D.int) ∧ ∀ x : Int, x ∈ ni ↔ (0 ≤ x ∧ x < n) ∧ ownr wn x = who := by
  refine ⟨((List.range n).filter fun v : Nat => decide (ownr wn (v : Int) = who)).map fun v : Nat => (v : Int), by rw [List.map_map]; rfl, fun x => ?_⟩
  rw [List.mem_map]
  constructor
  · rintro ⟨v, hv, rfl⟩
    obtain ⟨a, b⟩ := List.mem_filter.mp hv
    have := List.mem_range.mp a
    exact ⟨by omega, of_decide_eq_true b⟩
  · rintro ⟨⟨h0, h1⟩, z⟩
    exact ⟨x.toNat, List.mem_filter.mpr ⟨List.mem_range.mpr (by omega), decide_eq_true (by rw [show ((x.toNat : Nat) : Int) = x by omega]; exact z)⟩, by omega⟩
abbrev lawLevel : Nat := 22
theorem ok_law (T : Txt P K mg ζ) {f : Addr} {fd : FuncData} (F : Fun K "law" "law" s_law f fd) : FnOk P w K mg base CX0 22 f fd ["script"] (spLaw K) := by
  have cx_pool : CalX P w K mg base 1 "_law_pool" (spF K fPool) := q_pool T
  have cx_draw : CalX P w K mg base 1 "_law_draw" (spF K fDraw) := q_draw T
  have cx_any_game : CalX P w K mg base 4 "_law_any_game" (spF K fAnyG) := q_anyg T
  have cx_wins : CalX P w K mg base 12 "_law_wins" (spF K fWins) := q_wins T
  have cx_solved : CalX P w K mg base 4 "_law_solved" (spF K fSolved) := q_solved T
  have cx_solve : CalX P w K mg base 20 "solve" (spF K (fSolve ζ.Game)) := q_solve T
  have cx_judge : CalX P w K mg base 5 "judge" (spF K (fJudge ζ.Game)) := q_judge T
  have cx_same : CalX P w K mg base 5 "_law_same" (spF K (fSame 2)) := q_same T 2
  have cx_Game : MakX P w K mg base 3 "Game" ζ.Game (spGame ζ.Game) := (ok_game T).toX
  refine law_dl F sc_law (by decide) fun cdv A outer s H E hr => ⟨_, qss_cons (qs_setN (i := 1) false sc_law.nd rfl (Or.inl rfl) (qe_cT cx_pool hr (by first | decide | omega) takes0 (by rfl) (qa_cons (qe_var (pv 0)) (qa_cons (qe_p (qp_int)) (qa_nil)))))
 (qss_cons (qs_setN (i := 2) false sc_law.nd rfl (Or.inl rfl) (qe_op op_addA o_add (qe_p (qp_int)) (qe_cT cx_draw hr (by first | decide | omega) takes0 (by rfl) (qa_cons (qe_var (pv 1)) (qa_cons (qe_p (qp_int)) (qa_nil))))))
 (qss_cons (qs_setN (i := 3) false sc_law.nd rfl (Or.inl rfl) (qe_cT cx_any_game hr (by first | decide | omega) takes0 (by rfl) (qa_cons (qe_var (pv 1)) (qa_cons (qe_var (pv 2)) (qa_nil)))))
 (qss_cons (qs_setN (i := 4) false sc_law.nd rfl (Or.inl rfl) (qe_p (qp_ix ix_A o_ix (qp_var (pv 3)) (qp_int) (fun _ _ => rfl))))
 (qss_cons (qs_setN (i := 5) false sc_law.nd rfl (Or.inl rfl) (qe_p (qp_ix ix_A o_ix (qp_var (pv 3)) (qp_int) (fun _ _ => rfl))))
 (qss_cut (qs_if (QW.qt (qw_and (qt_p (qpt_cmp op_lt o_cmp (qp_var (pv 2)) (qp_int) (nomark _))) (qw_and1 (qt_cmp (op_eqD hr.units) o_eq (qe_cT cx_draw hr (by first | decide | omega) takes0 (by rfl) (qa_cons (qe_var (pv 1)) (qa_cons (qe_p (qp_int)) (qa_nil)))) (qe_p (qp_int)) (nomark _)))))
 (qss_cons (qs_setN (i := 4) false sc_law.nd rfl (Or.inl rfl) (qe_p (qp_join (qp_str) (qp_lc (own := [("letter", 6)]) (it := ipStr _) rfl sc_law.nd (fun W => qi_str (qe_p (qp_var (pv 4)))) (blkOk_by (N := N_law) (sc := defScope s_law) (by decide +kernel)) (fun _ _ _ _ _ => qg_name (pg_name (i := 6) sc_law.nd rfl (Or.inl rfl))) (fun _ _ _ _ _ => qpts_nil) (fun _ _ _ _ _ => qp_ix ix_A o_ix (qp_str) (qp_callTy o_int call_int1 (by rfl) T.n_int b_int (qps_cons (qp_cmp (op_eqD hr.units) o_eq (qp_var (pv 6)) (qp_str) (nomark _)) (qps_nil))) (fun _ _ => rfl))))))
 (qss_cons (qs_setLcP (own := [("edge", 7)]) (it := ipSeq _) (i := 5) false rfl sc_law.nd rfl rfl (sw_true rfl rfl rfl (by decide +kernel)) (qi_seq (qe_p (qp_var (pv 5)))) (blkOk_by (N := N_law) (sc := defScope s_law) (by decide +kernel)) (fun _ _ _ _ _ => qg_name (pg_name (i := 7) sc_law.nd rfl (Or.inl rfl))) (fun _ _ _ _ _ => qpts_nil) (fun _ _ _ _ _ => qp_tup (qps_cons (qp_ix ix_A o_ix (qp_var (pv 7)) (qp_int) (fun _ _ => rfl)) (qps_cons (qp_op op_addA o_add (qp_ix ix_A o_ix (qp_var (pv 7)) (qp_int) (fun _ _ => rfl)) (qp_int)) (qps_cons (qp_ix ix_A o_ix (qp_var (pv 7)) (qp_int) (fun _ _ => rfl)) (qps_nil))))))
 (qss_one (qs_setN (i := 2) false sc_law.nd rfl (Or.inl rfl) (qe_p (qp_op op_addA o_add (qp_var (pv 2)) (qp_int)))))))
 (qss_nil))
 (qss_cons (qs_setN (i := 8) false sc_law.nd rfl (Or.inl rfl) (qe_p (qp_callB o_len c_len (by rfl) T.n_len b_len (qps_cons (qp_var (pv 4)) (qps_nil)))))
 (qss_cons (qs_setN (i := 9) false sc_law.nd rfl (Or.inl rfl) (qe_mkT cx_Game hr (by first | decide | omega) takes0 (by rfl) (qa_cons (qe_var (pv 2)) (qa_cons (qe_var (pv 4)) (qa_cons (qe_p (qp_callTy o_list call_list_of (by rfl) T.n_list b_list (qps_cons (qp_var (pv 5)) (qps_nil)))) (qa_nil)))) (mk_Game_of T)))
 (qss_cons (qs_for (vs := [10]) [10, 11, 12, 13, 15, 16] PassesOwn.never rfl (qi_range1 (by rfl) T.n_range (qe_p (qp_int))) (qg_name (pg_name (i := 10) sc_law.nd rfl (Or.inl rfl)))
 (qss_cons (qs_setN (i := 11) true sc_law.nd rfl (Or.inl rfl) (qe_cT cx_solve hr (by first | decide | omega) takes0 (by rfl) (qa_cons (qe_var (pv 9)) (qa_nil))))
 (qss_cons (qs_if (qt_loanE (qt_not (qt_truth (qe_cT cx_solved hr (by first | decide | omega) takes0 (by rfl) (qa_cons (qe_var (pv 11)) (qa_cons (qe_var (pv 4)) (qa_cons (qe_var (pv 5)) (qa_nil))))))))
 (qss_one (qs_ret (qe_p (qp_bl))))
 (qss_nil))
 (qss_cons (qs_setN (i := 12) false sc_law.nd rfl (by first | exact Or.inr rfl | exact Or.inl rfl) (qe_loan (qp_ix ix_A o_ix (qp_var (pv 11)) (qp_int) (fun _ _ => rfl))))
 (qss_cut (qs_if (qt_p (qpt_cmp op_le o_cmp (qp_var (pv 8)) (qp_int) (nomark _)))
 (qss_end [13] (qss_cons (qs_setLc (own := [("good", 14)]) (i := 13) false rfl sc_law.nd rfl rfl (sw_true rfl rfl rfl (by decide +kernel)) (qi_seq (qe_cT cx_wins hr (by first | decide | omega) takes0 (by rfl) (qa_cons (qe_var (pv 4)) (qa_cons (qe_var (pv 5)) (qa_cons (qe_var (pv 2)) (qa_nil)))))) (blkOk_by (N := N_law) (sc := defScope s_law) (by decide +kernel)) (fun _ _ _ _ _ => qg_name (pg_name (i := 14) sc_law.nd rfl (Or.inl rfl))) (fun _ _ _ _ _ => qts_nil) (fun _ _ _ _ _ => qe_p (qp_ix ix_A o_ix (qp_str) (qp_callTy o_int call_int1 (by rfl) T.n_int b_int (qps_cons (qp_var (pv 14)) (qps_nil))) (fun _ _ => rfl))))
 (qss_one (qs_if (qt_p (qpt_cmp (op_neD hr.units) o_ne (qp_var (pv 12)) (qp_join (qp_str) (qp_var (pv 13))) (nomark _)))
 (qss_one (qs_ret (qe_p (qp_bl))))
 (qss_nil)))))
 (qss_end [13] (qss_nil)))
 (qss_cons (qs_for (vs := [15]) [15, 16] PassesOwn.never rfl (qi_seq (qe_p (qp_lst (qps_cons (qp_str) (qps_cons (qp_str) (qps_nil)))))) (qg_name (pg_name (i := 15) sc_law.nd rfl (by first | exact Or.inr rfl | exact Or.inl rfl)))
 (qss_cons (qs_setLcP (own := [("node", 17)]) (it := ipRng1 _) (i := 16) false rfl sc_law.nd rfl rfl (sw_true rfl rfl rfl (by decide +kernel)) (qi_range1 (by rfl) T.n_range (qe_p (qp_var (pv 8)))) (blkOk_by (N := N_law) (sc := defScope s_law) (by decide +kernel)) (fun _ _ _ _ _ => qg_name (pg_name (i := 17) sc_law.nd rfl (Or.inl rfl))) (fun _ _ _ _ _ => qpts_one (qpt_cmp (op_eqD hr.units) o_eq (qp_ix ix_A o_ix (qp_var (pv 12)) (qp_var (pv 17)) (fun _ _ => rfl)) (qp_var (pv 15)) (nomark _))) (fun _ _ _ _ _ => qp_var (pv 17)))
 (qss_one (qs_if (qt_loanE (qt_cmp op_notN o_notN (qe_cT cx_judge hr (by first | decide | omega) takes0 (by rfl) (qa_cons (qe_var (pv 9)) (qa_cons (qe_var (pv 15)) (qa_cons (qe_var (pv 16)) (qa_cons (qe_p (qp_callTy o_list call_list_of (by rfl) T.n_list b_list (qps_cons (qp_ix ix_A o_ix (qp_var (pv 11)) (qp_int) (fun _ _ => rfl)) (qps_nil)))) (qa_nil)))))) (qe_p (qp_non)) (nomark _)))
 (qss_one (qs_ret (qe_p (qp_bl))))
 (qss_nil)))))
 (qss_cons (qs_plPut (ps_asg (qe_p (qp_tup (qps_cons (qp_int) (qps_cons (qp_int) (qps_cons (qp_int) (qps_nil)))))) (pg_sub (qpl_ix (qpl_var (pv 11)) (qp_int) (fun _ _ => rfl)) (qp_int _) set_list)))
 (qss_cons (qs_plM m_append (ps_expr (pe_bm PySem.F.plainAttrs_list PySem.F.slot_list_append PySem.F.type_list_append mt_append (qpl_ix (qpl_var (pv 11)) (qp_int) (fun _ _ => rfl)) ((qps_cons (qp_non) (qps_nil)) _))))
 (qss_fz [11] qss_nil)))))))))
 (qss_one (qs_ret (qe_and (qe_cT cx_same hr (by first | decide | omega) takes0 (by rfl) (qa_cons (qe_p (qp_fld (qp_var (pv 9)) rfl)) (qa_cons (qe_var (pv 4)) (qa_nil)))) (qe_one (qe_cT cx_same hr (by first | decide | omega) takes0 (by rfl) (qa_cons (qe_p (qp_fld (qp_var (pv 9)) rfl)) (qa_cons (qe_p (qp_callTy o_tuple call_tuple_of (by rfl) T.n_tuple b_tuple (qps_cons (qp_callB o_sortE (cr_sortQ (d := 3) (B := 64) (by decide)) (by rfl) T.n_sorted b_sorted (qps_cons (qp_var (pv 5)) (qps_nil))) (qps_nil)))) (qa_nil)))))))))))))))), ?_⟩
  intro ns
  refine ⟨_, rfl, ns, 0, rfl, ?_⟩
  refine ⟨_, rfl, _, rfl, 3, rfl, by decide, by decide, fun h0 a0 a1 => ⟨_, rfl, ?_⟩⟩
  obtain ⟨h, eh, hh⟩ : ∃ h : Int, 1 + h0 = h ∧ (1 ≤ h ∧ h ≤ 3) := ⟨_, rfl, by omega⟩
  rw [eh]
  refine ⟨h, rfl, hh, fun os es G => ?_⟩
  refine ⟨.str (strO os), p2_of rfl rfl (atI_of (k := 0) rfl), ?_⟩
  refine ⟨edL es, p2_of rfl rfl (atI_of (k := 1) rfl), ?_⟩
  refine ⟨fun e => ∃ (x : D) (h : Int) (os : List Bool) (es : List (List Int)), (1 ≤ h ∧ h ≤ 3) ∧ GameIn h os es ∧ e = [.scr ns, .pool, .d (.int h), .d x, .d (.str (strO os)), .d (edL es), .any, .any, .any, .any, .any, .any, .any, .any, .any, .any, .any, .any], ?_, ?_⟩
  · refine ⟨decide (h < 3), p2_of rfl rfl rfl, fun z => ?_, fun z => ⟨fun y => (by cases y), fun _ => ⟨_, h, os, es, hh, G, rfl⟩⟩⟩
    have z := of_decide_eq_true z
    refine ⟨_, rfl, 2, rfl, by decide, by decide, fun v v0 v1 => ⟨_, rfl, _, rfl, _, rfl, fun z => ?_, fun z => ⟨_, h, os, es, hh, G, rfl⟩⟩⟩
    refine ⟨.str (strO (os.map fun b => !b)), turn_letters (by have := G.sz; omega) rfl rfl (fun _ => rfl), ?_⟩
    refine ⟨(es.map upE).map intT, (plc_of rfl (pseq_of rfl) (pcol_all (l := es) (enc := intT) (F := fun e => intT (upE e)) fun e he => pturn_of (c := true) rfl rfl fun _ => ptup3 (p2_of rfl rfl (ed_at0 (G.eds.ok e he))) (p2_of (p2_of rfl rfl (ed_at1 (G.eds.ok e he))) rfl rfl) (p2_of rfl rfl (ed_at2 (G.eds.ok e he))))).trans (by rw [List.map_map]; rfl), ?_⟩
    exact ⟨_, rfl, _, h + 1, _, _, by omega, game_up G, rfl⟩
  clear G hh eh
  rintro e ⟨x, h, os, es, hh, G, rfl⟩
  have n9 := G.sz
  have e63 := G.len
  have pm := sortE_perm es
  refine ⟨_, pN1 rfl (str_len (by omega)), ?_⟩
  refine ⟨_, pN1 rfl rfl, h, os, false, es, rfl, by omega, n9, e63, G.eds.ok, G.eds.nd, G.head, fun ss sp pw => ?_⟩
  rw [kept_sorted G.eds.ok hh.2 (by omega) e63 sp pw]
  have okS : ∀ e ∈ sortE es, EdgeOk h os.length e := fun e he => G.eds.ok e (pm.mem_iff.mp he)
  have zS : (sortE es).length ≤ 63 := by rw [pm.length_eq]; exact e63
  refine ⟨_, rfl, ⟨by decide, by decide⟩, fun i e => e = [.scr ns, .pool, .d (.int h), .d x, .d (.str (strO os)), .d (edL es), .any, .any, .d (nat os.length), .d (gameD ζ.Game h os (sortE es)), .any, .any, .any, .any, .any, .any, .any, .any], rfl, ?_, ?_⟩
  · rintro i y e ey rfl
    refine ⟨h, os, sortE es, rfl, by omega, by omega, okS, zS, fun v hv => ?_, fun w S => ?_⟩
    · obtain ⟨e, he, e0⟩ := G.out v hv
      exact ⟨e, pm.mem_iff.mpr he, e0⟩
    have SF := sol_facts S okS fun e => pm.mem_iff.symm
    refine ⟨os, winL w os.length, es, plL w os.length, h, ?_, SF.wl, SF.pll, by omega, e63, G.eds.ok, SF.ent, fun who => ⟨SF.stay who, SF.par who⟩, true, rfl, (fun z => by cases z), fun _ => ?_⟩
    · show [Ar.d (ansS w os.length).d, _, _] = _
      rw [ansS_d]
    refine ⟨.str (strO (winL w os.length)), p2_of (x := (ansS w os.length).d) rfl rfl (by rw [ansS_d]; exact tup_at0 _ _), rfl, ?_⟩
    refine ⟨fun e => e = [.scr ns, .pool, .d (.int h), .d x, .d (.str (strO os)), .d (edL es), .any, .any, .d (nat os.length), .d (gameD ζ.Game h os (sortE es)), .d y, .own (ansS w os.length), .d (.str (strO (winL w os.length))), .any, .any, .any, .any, .any], ?_, ?_⟩
    · refine ⟨decide ((os.length : Int) ≤ 4), p2_of rfl rfl rfl, fun z => ?_, fun z => rfl⟩
      have z := of_decide_eq_true z
      obtain ⟨H, rfl⟩ : ∃ H : Nat, h = (H : Int) := ⟨h.toNat, by omega⟩
      refine ⟨rfl, os, es, H, rfl, G.eds.ok, n9.1, by omega, by omega, e63, fun ψ F => ?_⟩
      have ed := sol_due S okS (fun e => pm.mem_iff.symm) F
      refine ⟨fun i acc => acc = (ψ.take i).map fun o => whoD o.isSome, rfl, ?_, ?_⟩
      · rintro i q acc ex rfl
        obtain ⟨o, eo, rfl⟩ := map_getD ex
        refine ⟨fun _ => ⟨_, p2_of rfl (pN1 rfl rfl) (ba_ltr _), ?_⟩, fun z => by cases z⟩
        show (ψ.take i).map (fun o => whoD o.isSome) ++ [whoD o.isSome] = (ψ.take (i + 1)).map fun o => whoD o.isSome
        rw [List.take_succ, eo, List.map_append]; rfl
      · rintro acc rfl
        rw [List.take_of_length_le (by rw [List.length_map]; exact Nat.le_refl _), show (ψ.map fun o => whoD o.isSome) = (winL w os.length).map whoD by rw [← ed, List.map_map]; rfl]
        exact ⟨false, p2_of rfl (p2_of rfl rfl (joinD_ltrs (by rw [winL_len]; omega))) (neD_owners _), (fun z => by cases z), fun _ => rfl⟩
    rintro e rfl
    refine ⟨_, rfl, fun i e => e = [.scr ns, .pool, .d (.int h), .d x, .d (.str (strO os)), .d (edL es), .any, .any, .d (nat os.length), .d (gameD ζ.Game h os (sortE es)), .d y, .own (ansS w os.length), .d (.str (strO (winL w os.length))), .any, .any, .any, .any, .any], rfl, ?_, ?_⟩
    · rintro i q e ex rfl
      have : ∃ who, q = whoD who := by
        match i, ex with
        | 0, ex => cases ex; exact ⟨true, rfl⟩
        | 1, ex => cases ex; exact ⟨false, rfl⟩
        | _ + 2, ex => cases ex
      obtain ⟨who, rfl⟩ := this
      obtain ⟨ni, eni, mni⟩ := nodes_of (n := os.length) (wn := winL w os.length) (who := who)
      refine ⟨ni.map D.int, (plc_of rfl (prng1_nat rfl (by omega)) (pcol_map (l := List.range os.length) (enc := nat) (P := fun v : Nat => decide (ownr (winL w os.length) (v : Int) = who)) (F := nat) fun v hv => ?_)).trans (by rw [eni]), ?_⟩
      · have hv := List.mem_range.mp hv
        exact pturn_of rfl (p2_of (p2_of rfl rfl (own_at (v := (v : Int)) (by omega) (by rw [winL_len]; omega) (by rw [winL_len]; omega))) rfl (eqD_pl _ _)) fun _ => rfl
      have inE : ∀ e ∈ sortE es, inNet os (plf (plL w os.length)) who ni e = true → ownr (winL w os.length) (es0 e) = who ∧ (ownr os (es0 e) ≠ who ∨ plf (plL w os.length) (es0 e) = some e) := fun e he z => by
        obtain ⟨z1, z2⟩ := mem_net.mp z
        exact ⟨((mni _).mp z1).2, z2⟩
      have bd : ∀ e ∈ es, (0 ≤ es0 e ∧ es0 e < os.length) ∧ 0 ≤ es2 e ∧ es2 e < os.length := fun e he => by
        obtain ⟨s0, r0, t0, rfl, a, _, b⟩ := G.eds.ok e he
        exact ⟨a, b⟩
      have np : ¬ HasPar (if who = true then 1 else 0) ((sortE es).filter fun e => inNet os (plf (plL w os.length)) who ni e) := fun z => by
        refine SF.par who (HasPar.mono (fun e he => ?_) z)
        obtain ⟨a, b⟩ := List.mem_filter.mp he
        obtain ⟨b1, b2⟩ := inE e a b
        exact List.mem_filter.mpr ⟨pm.mem_iff.mp a, by rw [Bool.and_eq_true, Bool.or_eq_true, decide_eq_true_eq, decide_eq_true_eq, decide_eq_true_eq]; exact ⟨b1, b2⟩⟩
      have st : ∀ e ∈ sortE es, inNet os (plf (plL w os.length)) who ni e = true → es2 e ∈ ni := fun e he z => by
        obtain ⟨b1, b2⟩ := inE e he z
        have he := pm.mem_iff.mp he
        exact (mni _).mpr ⟨(bd e he).2, SF.stay who e he b1 b2⟩
      have en : ∀ v ∈ ni, os.getD v.toNat false = who → ∃ e ∈ es, plf (plL w os.length) v = some e ∧ es0 e = v := fun v hv z => by
        obtain ⟨b1, b2⟩ := (mni v).mp hv
        have := (SF.ent v.toNat (by omega)).1
        rw [show ((v.toNat : Nat) : Int) = v by omega] at this
        exact this (by show os.getD v.toNat false = _; rw [z, b2])
      refine ⟨planD (plL w os.length), pN1 (p2_of (x := (ansS w os.length).d) rfl rfl (by rw [ansS_d]; exact tup_at1 _ _)) rfl, h, os, sortE es, who, ni, plL w os.length, ?_, n9.2, plL_len, okS, zS, fun v hv => ((mni v).mp hv).1, fun v hv z e ee => ?_, fun v hv z ee => ?_, fun e he z zz => ?_, fun c z => ?_, fun _ _ _ => ?_⟩
      · cases who <;> rfl
      · obtain ⟨e', he, e1, e2⟩ := en v hv z
        rw [ee] at e1
        cases e1
        exact ⟨pm.mem_iff.mpr he, e2⟩
      · obtain ⟨e', he, e1, e2⟩ := en v hv z
        rw [ee] at e1
        cases e1
      · exact absurd (st e he z) zz
      · exact absurd z np
      · exact ⟨_, rfl, _, rfl, _, rfl, (fun z => by cases z), fun _ => rfl⟩
    rintro e rfl
    refine ⟨_, ptup3 rfl rfl rfl, _, _, _, 0, 0, rfl, rfl, rfl, rfl, ixN_of (k := 0) (by rw [List.length_map, plL_len]; omega), ?_⟩
    refine ⟨_, _, _, _, _, rfl, rfl, rfl, rfl, rfl, rfl, ?_, rfl⟩
    rw [List.length_append, List.length_set, List.length_map, plL_len]; show os.length + 1 ≤ 100000; omega
  · rintro e rfl
    have okT := okp_edT (sortE es)
    refine ⟨_, p1_of rfl rfl, .str (strO os), .str (strO os), rfl, rfl, rfl, fun b hb => ?_⟩
    obtain rfl : b = true := hb.mpr rfl
    refine ⟨true, rfl, fun _ => ?_, fun z => by cases z⟩
    refine ⟨edT (sortE es), p1_of rfl rfl, edT (sortE es), pN1 (pN1 rfl (sortED_ed (okE_ed G.eds.ok hh.2 (by omega) e63))) rfl, _, _, rfl, okT, okT, fun b hb => ?_⟩
    obtain rfl : b = true := hb.mpr rfl
    rfl
end
end LR
set_option Elab.async false
set_option maxRecDepth 100000
set_option linter.all false
set_option maxHeartbeats 4000000
namespace LR
open PySem PySem.Spec PyProof.Rows L2
theorem all_mk {P : Program} {K : PySem.W.Frag} {h : Heap} {mg : Str → Option Value} (X : K.In h) (G : h.Ns mainGlobals mg)
    {od_opponent an_opponent : Option Addr} {sl_opponent : Array (Option Value)} {oc_opponent kV_opponent dc_opponent pm_opponent ct_opponent : Value} {f_opponent : Addr} {cd_opponent : Value} {od_wanting an_wanting : Option Addr} {sl_wanting : Array (Option Value)} {oc_wanting kV_wanting dc_wanting pm_wanting ct_wanting : Value} {f_wanting : Addr} {cd_wanting : Value} {od_solve an_solve : Option Addr} {sl_solve : Array (Option Value)} {oc_solve kV_solve dc_solve pm_solve ct_solve : Value} {f_solve : Addr} {cd_solve : Value} {od__solve_part an__solve_part : Option Addr} {sl__solve_part : Array (Option Value)} {oc__solve_part kV__solve_part dc__solve_part pm__solve_part ct__solve_part : Value} {f__solve_part : Addr} {cd__solve_part : Value} {od__between an__between : Option Addr} {sl__between : Array (Option Value)} {oc__between kV__between dc__between pm__between ct__between : Value} {f__between : Addr} {cd__between : Value} {od__pull an__pull : Option Addr} {sl__pull : Array (Option Value)} {oc__pull kV__pull dc__pull pm__pull ct__pull : Value} {f__pull : Addr} {cd__pull : Value} {od_check_height an_check_height : Option Addr} {sl_check_height : Array (Option Value)} {oc_check_height kV_check_height dc_check_height pm_check_height ct_check_height : Value} {f_check_height : Addr} {cd_check_height : Value} {od_check_count an_check_count : Option Addr} {sl_check_count : Array (Option Value)} {oc_check_count kV_check_count dc_check_count pm_check_count ct_check_count : Value} {f_check_count : Addr} {cd_check_count : Value} {od_check_node an_check_node : Option Addr} {sl_check_node : Array (Option Value)} {oc_check_node kV_check_node dc_check_node pm_check_node ct_check_node : Value} {f_check_node : Addr} {cd_check_node : Value} {od_check_nodes an_check_nodes : Option Addr} {sl_check_nodes : Array (Option Value)} {oc_check_nodes kV_check_nodes dc_check_nodes pm_check_nodes ct_check_nodes : Value} {f_check_nodes : Addr} {cd_check_nodes : Value} {od__check_edges an__check_edges : Option Addr} {sl__check_edges : Array (Option Value)} {oc__check_edges kV__check_edges dc__check_edges pm__check_edges ct__check_edges : Value} {f__check_edges : Addr} {cd__check_edges : Value} {od__check_owners an__check_owners : Option Addr} {sl__check_owners : Array (Option Value)} {oc__check_owners kV__check_owners dc__check_owners pm__check_owners ct__check_owners : Value} {f__check_owners : Addr} {cd__check_owners : Value} {od__check_dead_ends an__check_dead_ends : Option Addr} {sl__check_dead_ends : Array (Option Value)} {oc__check_dead_ends kV__check_dead_ends dc__check_dead_ends pm__check_dead_ends ct__check_dead_ends : Value} {f__check_dead_ends : Addr} {cd__check_dead_ends : Value} {od_paths_from an_paths_from : Option Addr} {sl_paths_from : Array (Option Value)} {oc_paths_from kV_paths_from dc_paths_from pm_paths_from ct_paths_from : Value} {f_paths_from : Addr} {cd_paths_from : Value} {od_path_between an_path_between : Option Addr} {sl_path_between : Array (Option Value)} {oc_path_between kV_path_between dc_path_between pm_path_between ct_path_between : Value} {f_path_between : Addr} {cd_path_between : Value} {od_cycle_with an_cycle_with : Option Addr} {sl_cycle_with : Array (Option Value)} {oc_cycle_with kV_cycle_with dc_cycle_with pm_cycle_with ct_cycle_with : Value} {f_cycle_with : Addr} {cd_cycle_with : Value} {od_judge an_judge : Option Addr} {sl_judge : Array (Option Value)} {oc_judge kV_judge dc_judge pm_judge ct_judge : Value} {f_judge : Addr} {cd_judge : Value} {od_edges_of_plan an_edges_of_plan : Option Addr} {sl_edges_of_plan : Array (Option Value)} {oc_edges_of_plan kV_edges_of_plan dc_edges_of_plan pm_edges_of_plan ct_edges_of_plan : Value} {f_edges_of_plan : Addr} {cd_edges_of_plan : Value} {od_pool an_pool : Option Addr} {sl_pool : Array (Option Value)} {oc_pool kV_pool dc_pool pm_pool ct_pool : Value} {f_pool : Addr} {cd_pool : Value} {od_draw an_draw : Option Addr} {sl_draw : Array (Option Value)} {oc_draw kV_draw dc_draw pm_draw ct_draw : Value} {f_draw : Addr} {cd_draw : Value} {od_levels an_levels : Option Addr} {sl_levels : Array (Option Value)} {oc_levels kV_levels dc_levels pm_levels ct_levels : Value} {f_levels : Addr} {cd_levels : Value} {od_owners an_owners : Option Addr} {sl_owners : Array (Option Value)} {oc_owners kV_owners dc_owners pm_owners ct_owners : Value} {f_owners : Addr} {cd_owners : Value} {od_edges an_edges : Option Addr} {sl_edges : Array (Option Value)} {oc_edges kV_edges dc_edges pm_edges ct_edges : Value} {f_edges : Addr} {cd_edges : Value} {od_row_edges an_row_edges : Option Addr} {sl_row_edges : Array (Option Value)} {oc_row_edges kV_row_edges dc_row_edges pm_row_edges ct_row_edges : Value} {f_row_edges : Addr} {cd_row_edges : Value} {od_game an_game : Option Addr} {sl_game : Array (Option Value)} {oc_game kV_game dc_game pm_game ct_game : Value} {f_game : Addr} {cd_game : Value} {od_number an_number : Option Addr} {sl_number : Array (Option Value)} {oc_number kV_number dc_number pm_number ct_number : Value} {f_number : Addr} {cd_number : Value} {od_same an_same : Option Addr} {sl_same : Array (Option Value)} {oc_same kV_same dc_same pm_same ct_same : Value} {f_same : Addr} {cd_same : Value} {od_is_edge an_is_edge : Option Addr} {sl_is_edge : Array (Option Value)} {oc_is_edge kV_is_edge dc_is_edge pm_is_edge ct_is_edge : Value} {f_is_edge : Addr} {cd_is_edge : Value} {od_gap an_gap : Option Addr} {sl_gap : Array (Option Value)} {oc_gap kV_gap dc_gap pm_gap ct_gap : Value} {f_gap : Addr} {cd_gap : Value} {od_allows an_allows : Option Addr} {sl_allows : Array (Option Value)} {oc_allows kV_allows dc_allows pm_allows ct_allows : Value} {f_allows : Addr} {cd_allows : Value} {od_reaches an_reaches : Option Addr} {sl_reaches : Array (Option Value)} {oc_reaches kV_reaches dc_reaches pm_reaches ct_reaches : Value} {f_reaches : Addr} {cd_reaches : Value} {od_has_cycle an_has_cycle : Option Addr} {sl_has_cycle : Array (Option Value)} {oc_has_cycle kV_has_cycle dc_has_cycle pm_has_cycle ct_has_cycle : Value} {f_has_cycle : Addr} {cd_has_cycle : Value} {od_fits an_fits : Option Addr} {sl_fits : Array (Option Value)} {oc_fits kV_fits dc_fits pm_fits ct_fits : Value} {f_fits : Addr} {cd_fits : Value} {od_climb an_climb : Option Addr} {sl_climb : Array (Option Value)} {oc_climb kV_climb dc_climb pm_climb ct_climb : Value} {f_climb : Addr} {cd_climb : Value} {od_halving an_halving : Option Addr} {sl_halving : Array (Option Value)} {oc_halving kV_halving dc_halving pm_halving ct_halving : Value} {f_halving : Addr} {cd_halving : Value} {od_wins an_wins : Option Addr} {sl_wins : Array (Option Value)} {oc_wins kV_wins dc_wins pm_wins ct_wins : Value} {f_wins : Addr} {cd_wins : Value} {od_any_edges an_any_edges : Option Addr} {sl_any_edges : Array (Option Value)} {oc_any_edges kV_any_edges dc_any_edges pm_any_edges ct_any_edges : Value} {f_any_edges : Addr} {cd_any_edges : Value} {od_any_game an_any_game : Option Addr} {sl_any_game : Array (Option Value)} {oc_any_game kV_any_game dc_any_game pm_any_game ct_any_game : Value} {f_any_game : Addr} {cd_any_game : Value} {od_side_is_won an_side_is_won : Option Addr} {sl_side_is_won : Array (Option Value)} {oc_side_is_won kV_side_is_won dc_side_is_won pm_side_is_won ct_side_is_won : Value} {f_side_is_won : Addr} {cd_side_is_won : Value} {od_solved an_solved : Option Addr} {sl_solved : Array (Option Value)} {oc_solved kV_solved dc_solved pm_solved ct_solved : Value} {f_solved : Addr} {cd_solved : Value} {od_law an_law : Option Addr} {sl_law : Array (Option Value)} {oc_law kV_law dc_law pm_law ct_law : Value} {f_law : Addr} {cd_law : Value} {C_Web : Addr} {od_W_init an_W_init : Option Addr} {sl_W_init : Array (Option Value)} {oc_W_init kV_W_init dc_W_init pm_W_init ct_W_init : Value} {f_W_init : Addr} {cd_W_init : Value} {od_W_out an_W_out : Option Addr} {sl_W_out : Array (Option Value)} {oc_W_out kV_W_out dc_W_out pm_W_out ct_W_out : Value} {f_W_out : Addr} {cd_W_out : Value} {u_Web_MOST_NODES : Value} {u_Web_MOST_EDGES : Value} {C_Game : Addr} {od_G_init an_G_init : Option Addr} {sl_G_init : Array (Option Value)} {oc_G_init kV_G_init dc_G_init pm_G_init ct_G_init : Value} {f_G_init : Addr} {cda_G_init cc_G_init : Addr} {ccl_G_init : Value} {cdd_G_init : Option Addr} {cvs_G_init : Array Value} {ccs_G_init : Array (Option Value)} {cfi_G_init : Str} {ctf_G_init : Tok} {ecl_G_init : Value} {eld_G_init : Option Addr} {esl_G_init : Array (Option Value)} {od_G_out an_G_out : Option Addr} {sl_G_out : Array (Option Value)} {oc_G_out kV_G_out dc_G_out pm_G_out ct_G_out : Value} {f_G_out : Addr} {cda_G_out cc_G_out : Addr} {ccl_G_out : Value} {cdd_G_out : Option Addr} {cvs_G_out : Array Value} {ccs_G_out : Array (Option Value)} {cfi_G_out : Str} {ctf_G_out : Tok} {ecl_G_out : Value} {eld_G_out : Option Addr} {esl_G_out : Array (Option Value)} {C_NoSuchNode : Addr} {nm_NoSuchNode qn_NoSuchNode : Str} {ns_NoSuchNode : Addr} {bs_NoSuchNode bm_NoSuchNode sb_NoSuchNode : List Value} {sn_NoSuchNode : List Str} {ab_NoSuchNode : Bool} {co_NoSuchNode : Option Bool} {dd_NoSuchNode : Option Addr} {k0_NoSuchNode k1_NoSuchNode k2_NoSuchNode k3_NoSuchNode k5_NoSuchNode : Option Value} {od_NoSuchNode_init an_NoSuchNode_init : Option Addr} {sl_NoSuchNode_init : Array (Option Value)} {oc_NoSuchNode_init kV_NoSuchNode_init dc_NoSuchNode_init pm_NoSuchNode_init ct_NoSuchNode_init : Value} {f_NoSuchNode_init : Addr} {cda_NoSuchNode_init cc_NoSuchNode_init : Addr} {ccl_NoSuchNode_init : Value} {cdd_NoSuchNode_init : Option Addr} {cvs_NoSuchNode_init : Array Value} {ccs_NoSuchNode_init : Array (Option Value)} {cfi_NoSuchNode_init : Str} {ctf_NoSuchNode_init : Tok} {ecl_NoSuchNode_init : Value} {eld_NoSuchNode_init : Option Addr} {esl_NoSuchNode_init : Array (Option Value)}
    (z_super : PySem.W.nsIn K mainGlobals "super" = some none)
    (zt_any : PySem.W.nsIn K cStatics "thirdparty.any" = some none)
    (z_top : (P.main.scope.names.lookup ("super" : Str)).isSome = false)
    (z_len : PySem.W.nsIn K mainGlobals "len" = some none)
    (z_abs : PySem.W.nsIn K mainGlobals "abs" = some none)
    (z_max : PySem.W.nsIn K mainGlobals "max" = some none)
    (z_min : PySem.W.nsIn K mainGlobals "min" = some none)
    (z_isinstance : PySem.W.nsIn K mainGlobals "isinstance" = some none)
    (z_int : PySem.W.nsIn K mainGlobals "int" = some none)
    (z_bool : PySem.W.nsIn K mainGlobals "bool" = some none)
    (z_str : PySem.W.nsIn K mainGlobals "str" = some none)
    (z_list : PySem.W.nsIn K mainGlobals "list" = some none)
    (z_tuple : PySem.W.nsIn K mainGlobals "tuple" = some none)
    (z_range : PySem.W.nsIn K mainGlobals "range" = some none)
    (z_enumerate : PySem.W.nsIn K mainGlobals "enumerate" = some none)
    (z_set : PySem.W.nsIn K mainGlobals "set" = some none)
    (z_sorted : PySem.W.nsIn K mainGlobals "sorted" = some none)
    (z_any : PySem.W.nsIn K mainGlobals "any" = some none)
    (z_all : PySem.W.nsIn K mainGlobals "all" = some none)
    (z_ValueError : PySem.W.nsIn K mainGlobals "ValueError" = some none)
    (o_gt : PySem.W.specialIn K (.builtin "object.__class__") "__get__" = some (some (.builtin "getset_descriptor.__get__")))
    (o_tk : PySem.W.takesIn K (.builtin "object.__class__") = some true)
    (a_opponent : PySem.W.nsIn K mainGlobals "opponent" = some (some (.ref f_opponent)))
    (l_opponent : K.lookup f_opponent = some ⟨oc_opponent, od_opponent, .func (PySem.W.fnOf "opponent" "opponent" (defArgs s_opponent) (defBody s_opponent) (defScope s_opponent) .none kV_opponent dc_opponent pm_opponent an_opponent cd_opponent ct_opponent), sl_opponent⟩)
    (c_opponent : PySem.W.codeIn K cd_opponent "opponent" = true)
    (k_opponent : PySem.W.keepIn K (.ref f_opponent) = true)
    (a_wanting : PySem.W.nsIn K mainGlobals "wanting" = some (some (.ref f_wanting)))
    (l_wanting : K.lookup f_wanting = some ⟨oc_wanting, od_wanting, .func (PySem.W.fnOf "wanting" "wanting" (defArgs s_wanting) (defBody s_wanting) (defScope s_wanting) .none kV_wanting dc_wanting pm_wanting an_wanting cd_wanting ct_wanting), sl_wanting⟩)
    (c_wanting : PySem.W.codeIn K cd_wanting "wanting" = true)
    (k_wanting : PySem.W.keepIn K (.ref f_wanting) = true)
    (a_solve : PySem.W.nsIn K mainGlobals "solve" = some (some (.ref f_solve)))
    (l_solve : K.lookup f_solve = some ⟨oc_solve, od_solve, .func (PySem.W.fnOf "solve" "solve" (defArgs s_solve) (defBody s_solve) (defScope s_solve) .none kV_solve dc_solve pm_solve an_solve cd_solve ct_solve), sl_solve⟩)
    (c_solve : PySem.W.codeIn K cd_solve "solve" = true)
    (k_solve : PySem.W.keepIn K (.ref f_solve) = true)
    (a__solve_part : PySem.W.nsIn K mainGlobals "_solve_part" = some (some (.ref f__solve_part)))
    (l__solve_part : K.lookup f__solve_part = some ⟨oc__solve_part, od__solve_part, .func (PySem.W.fnOf "_solve_part" "_solve_part" (defArgs s__solve_part) (defBody s__solve_part) (defScope s__solve_part) .none kV__solve_part dc__solve_part pm__solve_part an__solve_part cd__solve_part ct__solve_part), sl__solve_part⟩)
    (c__solve_part : PySem.W.codeIn K cd__solve_part "_solve_part" = true)
    (k__solve_part : PySem.W.keepIn K (.ref f__solve_part) = true)
    (a__between : PySem.W.nsIn K mainGlobals "_between" = some (some (.ref f__between)))
    (l__between : K.lookup f__between = some ⟨oc__between, od__between, .func (PySem.W.fnOf "_between" "_between" (defArgs s__between) (defBody s__between) (defScope s__between) .none kV__between dc__between pm__between an__between cd__between ct__between), sl__between⟩)
    (c__between : PySem.W.codeIn K cd__between "_between" = true)
    (k__between : PySem.W.keepIn K (.ref f__between) = true)
    (a__pull : PySem.W.nsIn K mainGlobals "_pull" = some (some (.ref f__pull)))
    (l__pull : K.lookup f__pull = some ⟨oc__pull, od__pull, .func (PySem.W.fnOf "_pull" "_pull" (defArgs s__pull) (defBody s__pull) (defScope s__pull) .none kV__pull dc__pull pm__pull an__pull cd__pull ct__pull), sl__pull⟩)
    (c__pull : PySem.W.codeIn K cd__pull "_pull" = true)
    (k__pull : PySem.W.keepIn K (.ref f__pull) = true)
    (a_check_height : PySem.W.nsIn K mainGlobals "check_height" = some (some (.ref f_check_height)))
    (l_check_height : K.lookup f_check_height = some ⟨oc_check_height, od_check_height, .func (PySem.W.fnOf "check_height" "check_height" (defArgs s_check_height) (defBody s_check_height) (defScope s_check_height) .none kV_check_height dc_check_height pm_check_height an_check_height cd_check_height ct_check_height), sl_check_height⟩)
    (c_check_height : PySem.W.codeIn K cd_check_height "check_height" = true)
    (k_check_height : PySem.W.keepIn K (.ref f_check_height) = true)
    (a_check_count : PySem.W.nsIn K mainGlobals "check_count" = some (some (.ref f_check_count)))
    (l_check_count : K.lookup f_check_count = some ⟨oc_check_count, od_check_count, .func (PySem.W.fnOf "check_count" "check_count" (defArgs s_check_count) (defBody s_check_count) (defScope s_check_count) .none kV_check_count dc_check_count pm_check_count an_check_count cd_check_count ct_check_count), sl_check_count⟩)
    (c_check_count : PySem.W.codeIn K cd_check_count "check_count" = true)
    (k_check_count : PySem.W.keepIn K (.ref f_check_count) = true)
    (a_check_node : PySem.W.nsIn K mainGlobals "check_node" = some (some (.ref f_check_node)))
    (l_check_node : K.lookup f_check_node = some ⟨oc_check_node, od_check_node, .func (PySem.W.fnOf "check_node" "check_node" (defArgs s_check_node) (defBody s_check_node) (defScope s_check_node) .none kV_check_node dc_check_node pm_check_node an_check_node cd_check_node ct_check_node), sl_check_node⟩)
    (c_check_node : PySem.W.codeIn K cd_check_node "check_node" = true)
    (k_check_node : PySem.W.keepIn K (.ref f_check_node) = true)
    (a_check_nodes : PySem.W.nsIn K mainGlobals "check_nodes" = some (some (.ref f_check_nodes)))
    (l_check_nodes : K.lookup f_check_nodes = some ⟨oc_check_nodes, od_check_nodes, .func (PySem.W.fnOf "check_nodes" "check_nodes" (defArgs s_check_nodes) (defBody s_check_nodes) (defScope s_check_nodes) .none kV_check_nodes dc_check_nodes pm_check_nodes an_check_nodes cd_check_nodes ct_check_nodes), sl_check_nodes⟩)
    (c_check_nodes : PySem.W.codeIn K cd_check_nodes "check_nodes" = true)
    (k_check_nodes : PySem.W.keepIn K (.ref f_check_nodes) = true)
    (a__check_edges : PySem.W.nsIn K mainGlobals "_check_edges" = some (some (.ref f__check_edges)))
    (l__check_edges : K.lookup f__check_edges = some ⟨oc__check_edges, od__check_edges, .func (PySem.W.fnOf "_check_edges" "_check_edges" (defArgs s__check_edges) (defBody s__check_edges) (defScope s__check_edges) .none kV__check_edges dc__check_edges pm__check_edges an__check_edges cd__check_edges ct__check_edges), sl__check_edges⟩)
    (c__check_edges : PySem.W.codeIn K cd__check_edges "_check_edges" = true)
    (k__check_edges : PySem.W.keepIn K (.ref f__check_edges) = true)
    (a__check_owners : PySem.W.nsIn K mainGlobals "_check_owners" = some (some (.ref f__check_owners)))
    (l__check_owners : K.lookup f__check_owners = some ⟨oc__check_owners, od__check_owners, .func (PySem.W.fnOf "_check_owners" "_check_owners" (defArgs s__check_owners) (defBody s__check_owners) (defScope s__check_owners) .none kV__check_owners dc__check_owners pm__check_owners an__check_owners cd__check_owners ct__check_owners), sl__check_owners⟩)
    (c__check_owners : PySem.W.codeIn K cd__check_owners "_check_owners" = true)
    (k__check_owners : PySem.W.keepIn K (.ref f__check_owners) = true)
    (a__check_dead_ends : PySem.W.nsIn K mainGlobals "_check_dead_ends" = some (some (.ref f__check_dead_ends)))
    (l__check_dead_ends : K.lookup f__check_dead_ends = some ⟨oc__check_dead_ends, od__check_dead_ends, .func (PySem.W.fnOf "_check_dead_ends" "_check_dead_ends" (defArgs s__check_dead_ends) (defBody s__check_dead_ends) (defScope s__check_dead_ends) .none kV__check_dead_ends dc__check_dead_ends pm__check_dead_ends an__check_dead_ends cd__check_dead_ends ct__check_dead_ends), sl__check_dead_ends⟩)
    (c__check_dead_ends : PySem.W.codeIn K cd__check_dead_ends "_check_dead_ends" = true)
    (k__check_dead_ends : PySem.W.keepIn K (.ref f__check_dead_ends) = true)
    (a_paths_from : PySem.W.nsIn K mainGlobals "paths_from" = some (some (.ref f_paths_from)))
    (l_paths_from : K.lookup f_paths_from = some ⟨oc_paths_from, od_paths_from, .func (PySem.W.fnOf "paths_from" "paths_from" (defArgs s_paths_from) (defBody s_paths_from) (defScope s_paths_from) .none kV_paths_from dc_paths_from pm_paths_from an_paths_from cd_paths_from ct_paths_from), sl_paths_from⟩)
    (c_paths_from : PySem.W.codeIn K cd_paths_from "paths_from" = true)
    (k_paths_from : PySem.W.keepIn K (.ref f_paths_from) = true)
    (a_path_between : PySem.W.nsIn K mainGlobals "path_between" = some (some (.ref f_path_between)))
    (l_path_between : K.lookup f_path_between = some ⟨oc_path_between, od_path_between, .func (PySem.W.fnOf "path_between" "path_between" (defArgs s_path_between) (defBody s_path_between) (defScope s_path_between) .none kV_path_between dc_path_between pm_path_between an_path_between cd_path_between ct_path_between), sl_path_between⟩)
    (c_path_between : PySem.W.codeIn K cd_path_between "path_between" = true)
    (k_path_between : PySem.W.keepIn K (.ref f_path_between) = true)
    (a_cycle_with : PySem.W.nsIn K mainGlobals "cycle_with" = some (some (.ref f_cycle_with)))
    (l_cycle_with : K.lookup f_cycle_with = some ⟨oc_cycle_with, od_cycle_with, .func (PySem.W.fnOf "cycle_with" "cycle_with" (defArgs s_cycle_with) (defBody s_cycle_with) (defScope s_cycle_with) .none kV_cycle_with dc_cycle_with pm_cycle_with an_cycle_with cd_cycle_with ct_cycle_with), sl_cycle_with⟩)
    (c_cycle_with : PySem.W.codeIn K cd_cycle_with "cycle_with" = true)
    (k_cycle_with : PySem.W.keepIn K (.ref f_cycle_with) = true)
    (a_judge : PySem.W.nsIn K mainGlobals "judge" = some (some (.ref f_judge)))
    (l_judge : K.lookup f_judge = some ⟨oc_judge, od_judge, .func (PySem.W.fnOf "judge" "judge" (defArgs s_judge) (defBody s_judge) (defScope s_judge) .none kV_judge dc_judge pm_judge an_judge cd_judge ct_judge), sl_judge⟩)
    (c_judge : PySem.W.codeIn K cd_judge "judge" = true)
    (k_judge : PySem.W.keepIn K (.ref f_judge) = true)
    (a_edges_of_plan : PySem.W.nsIn K mainGlobals "edges_of_plan" = some (some (.ref f_edges_of_plan)))
    (l_edges_of_plan : K.lookup f_edges_of_plan = some ⟨oc_edges_of_plan, od_edges_of_plan, .func (PySem.W.fnOf "edges_of_plan" "edges_of_plan" (defArgs s_edges_of_plan) (defBody s_edges_of_plan) (defScope s_edges_of_plan) .none kV_edges_of_plan dc_edges_of_plan pm_edges_of_plan an_edges_of_plan cd_edges_of_plan ct_edges_of_plan), sl_edges_of_plan⟩)
    (c_edges_of_plan : PySem.W.codeIn K cd_edges_of_plan "edges_of_plan" = true)
    (k_edges_of_plan : PySem.W.keepIn K (.ref f_edges_of_plan) = true)
    (a_pool : PySem.W.nsIn K mainGlobals "_law_pool" = some (some (.ref f_pool)))
    (l_pool : K.lookup f_pool = some ⟨oc_pool, od_pool, .func (PySem.W.fnOf "_law_pool" "_law_pool" (defArgs s_pool) (defBody s_pool) (defScope s_pool) .none kV_pool dc_pool pm_pool an_pool cd_pool ct_pool), sl_pool⟩)
    (c_pool : PySem.W.codeIn K cd_pool "_law_pool" = true)
    (k_pool : PySem.W.keepIn K (.ref f_pool) = true)
    (a_draw : PySem.W.nsIn K mainGlobals "_law_draw" = some (some (.ref f_draw)))
    (l_draw : K.lookup f_draw = some ⟨oc_draw, od_draw, .func (PySem.W.fnOf "_law_draw" "_law_draw" (defArgs s_draw) (defBody s_draw) (defScope s_draw) .none kV_draw dc_draw pm_draw an_draw cd_draw ct_draw), sl_draw⟩)
    (c_draw : PySem.W.codeIn K cd_draw "_law_draw" = true)
    (k_draw : PySem.W.keepIn K (.ref f_draw) = true)
    (a_levels : PySem.W.nsIn K mainGlobals "_law_levels" = some (some (.ref f_levels)))
    (l_levels : K.lookup f_levels = some ⟨oc_levels, od_levels, .func (PySem.W.fnOf "_law_levels" "_law_levels" (defArgs s_levels) (defBody s_levels) (defScope s_levels) .none kV_levels dc_levels pm_levels an_levels cd_levels ct_levels), sl_levels⟩)
    (c_levels : PySem.W.codeIn K cd_levels "_law_levels" = true)
    (k_levels : PySem.W.keepIn K (.ref f_levels) = true)
    (a_owners : PySem.W.nsIn K mainGlobals "_law_owners" = some (some (.ref f_owners)))
    (l_owners : K.lookup f_owners = some ⟨oc_owners, od_owners, .func (PySem.W.fnOf "_law_owners" "_law_owners" (defArgs s_owners) (defBody s_owners) (defScope s_owners) .none kV_owners dc_owners pm_owners an_owners cd_owners ct_owners), sl_owners⟩)
    (c_owners : PySem.W.codeIn K cd_owners "_law_owners" = true)
    (k_owners : PySem.W.keepIn K (.ref f_owners) = true)
    (a_edges : PySem.W.nsIn K mainGlobals "_law_edges" = some (some (.ref f_edges)))
    (l_edges : K.lookup f_edges = some ⟨oc_edges, od_edges, .func (PySem.W.fnOf "_law_edges" "_law_edges" (defArgs s_edges) (defBody s_edges) (defScope s_edges) .none kV_edges dc_edges pm_edges an_edges cd_edges ct_edges), sl_edges⟩)
    (c_edges : PySem.W.codeIn K cd_edges "_law_edges" = true)
    (k_edges : PySem.W.keepIn K (.ref f_edges) = true)
    (a_row_edges : PySem.W.nsIn K mainGlobals "_law_row_edges" = some (some (.ref f_row_edges)))
    (l_row_edges : K.lookup f_row_edges = some ⟨oc_row_edges, od_row_edges, .func (PySem.W.fnOf "_law_row_edges" "_law_row_edges" (defArgs s_row_edges) (defBody s_row_edges) (defScope s_row_edges) .none kV_row_edges dc_row_edges pm_row_edges an_row_edges cd_row_edges ct_row_edges), sl_row_edges⟩)
    (c_row_edges : PySem.W.codeIn K cd_row_edges "_law_row_edges" = true)
    (k_row_edges : PySem.W.keepIn K (.ref f_row_edges) = true)
    (a_game : PySem.W.nsIn K mainGlobals "_law_game" = some (some (.ref f_game)))
    (l_game : K.lookup f_game = some ⟨oc_game, od_game, .func (PySem.W.fnOf "_law_game" "_law_game" (defArgs s_game) (defBody s_game) (defScope s_game) .none kV_game dc_game pm_game an_game cd_game ct_game), sl_game⟩)
    (c_game : PySem.W.codeIn K cd_game "_law_game" = true)
    (k_game : PySem.W.keepIn K (.ref f_game) = true)
    (a_number : PySem.W.nsIn K mainGlobals "_law_number" = some (some (.ref f_number)))
    (l_number : K.lookup f_number = some ⟨oc_number, od_number, .func (PySem.W.fnOf "_law_number" "_law_number" (defArgs s_number) (defBody s_number) (defScope s_number) .none kV_number dc_number pm_number an_number cd_number ct_number), sl_number⟩)
    (c_number : PySem.W.codeIn K cd_number "_law_number" = true)
    (k_number : PySem.W.keepIn K (.ref f_number) = true)
    (a_same : PySem.W.nsIn K mainGlobals "_law_same" = some (some (.ref f_same)))
    (l_same : K.lookup f_same = some ⟨oc_same, od_same, .func (PySem.W.fnOf "_law_same" "_law_same" (defArgs s_same) (defBody s_same) (defScope s_same) .none kV_same dc_same pm_same an_same cd_same ct_same), sl_same⟩)
    (c_same : PySem.W.codeIn K cd_same "_law_same" = true)
    (k_same : PySem.W.keepIn K (.ref f_same) = true)
    (a_is_edge : PySem.W.nsIn K mainGlobals "_law_is_edge" = some (some (.ref f_is_edge)))
    (l_is_edge : K.lookup f_is_edge = some ⟨oc_is_edge, od_is_edge, .func (PySem.W.fnOf "_law_is_edge" "_law_is_edge" (defArgs s_is_edge) (defBody s_is_edge) (defScope s_is_edge) .none kV_is_edge dc_is_edge pm_is_edge an_is_edge cd_is_edge ct_is_edge), sl_is_edge⟩)
    (c_is_edge : PySem.W.codeIn K cd_is_edge "_law_is_edge" = true)
    (k_is_edge : PySem.W.keepIn K (.ref f_is_edge) = true)
    (a_gap : PySem.W.nsIn K mainGlobals "_law_gap" = some (some (.ref f_gap)))
    (l_gap : K.lookup f_gap = some ⟨oc_gap, od_gap, .func (PySem.W.fnOf "_law_gap" "_law_gap" (defArgs s_gap) (defBody s_gap) (defScope s_gap) .none kV_gap dc_gap pm_gap an_gap cd_gap ct_gap), sl_gap⟩)
    (c_gap : PySem.W.codeIn K cd_gap "_law_gap" = true)
    (k_gap : PySem.W.keepIn K (.ref f_gap) = true)
    (a_allows : PySem.W.nsIn K mainGlobals "_law_allows" = some (some (.ref f_allows)))
    (l_allows : K.lookup f_allows = some ⟨oc_allows, od_allows, .func (PySem.W.fnOf "_law_allows" "_law_allows" (defArgs s_allows) (defBody s_allows) (defScope s_allows) .none kV_allows dc_allows pm_allows an_allows cd_allows ct_allows), sl_allows⟩)
    (c_allows : PySem.W.codeIn K cd_allows "_law_allows" = true)
    (k_allows : PySem.W.keepIn K (.ref f_allows) = true)
    (a_reaches : PySem.W.nsIn K mainGlobals "_law_reaches" = some (some (.ref f_reaches)))
    (l_reaches : K.lookup f_reaches = some ⟨oc_reaches, od_reaches, .func (PySem.W.fnOf "_law_reaches" "_law_reaches" (defArgs s_reaches) (defBody s_reaches) (defScope s_reaches) .none kV_reaches dc_reaches pm_reaches an_reaches cd_reaches ct_reaches), sl_reaches⟩)
    (c_reaches : PySem.W.codeIn K cd_reaches "_law_reaches" = true)
    (k_reaches : PySem.W.keepIn K (.ref f_reaches) = true)
    (a_has_cycle : PySem.W.nsIn K mainGlobals "_law_has_cycle" = some (some (.ref f_has_cycle)))
    (l_has_cycle : K.lookup f_has_cycle = some ⟨oc_has_cycle, od_has_cycle, .func (PySem.W.fnOf "_law_has_cycle" "_law_has_cycle" (defArgs s_has_cycle) (defBody s_has_cycle) (defScope s_has_cycle) .none kV_has_cycle dc_has_cycle pm_has_cycle an_has_cycle cd_has_cycle ct_has_cycle), sl_has_cycle⟩)
    (c_has_cycle : PySem.W.codeIn K cd_has_cycle "_law_has_cycle" = true)
    (k_has_cycle : PySem.W.keepIn K (.ref f_has_cycle) = true)
    (a_fits : PySem.W.nsIn K mainGlobals "_law_fits" = some (some (.ref f_fits)))
    (l_fits : K.lookup f_fits = some ⟨oc_fits, od_fits, .func (PySem.W.fnOf "_law_fits" "_law_fits" (defArgs s_fits) (defBody s_fits) (defScope s_fits) .none kV_fits dc_fits pm_fits an_fits cd_fits ct_fits), sl_fits⟩)
    (c_fits : PySem.W.codeIn K cd_fits "_law_fits" = true)
    (k_fits : PySem.W.keepIn K (.ref f_fits) = true)
    (a_climb : PySem.W.nsIn K mainGlobals "_law_climb" = some (some (.ref f_climb)))
    (l_climb : K.lookup f_climb = some ⟨oc_climb, od_climb, .func (PySem.W.fnOf "_law_climb" "_law_climb" (defArgs s_climb) (defBody s_climb) (defScope s_climb) .none kV_climb dc_climb pm_climb an_climb cd_climb ct_climb), sl_climb⟩)
    (c_climb : PySem.W.codeIn K cd_climb "_law_climb" = true)
    (k_climb : PySem.W.keepIn K (.ref f_climb) = true)
    (a_halving : PySem.W.nsIn K mainGlobals "_law_halving" = some (some (.ref f_halving)))
    (l_halving : K.lookup f_halving = some ⟨oc_halving, od_halving, .func (PySem.W.fnOf "_law_halving" "_law_halving" (defArgs s_halving) (defBody s_halving) (defScope s_halving) .none kV_halving dc_halving pm_halving an_halving cd_halving ct_halving), sl_halving⟩)
    (c_halving : PySem.W.codeIn K cd_halving "_law_halving" = true)
    (k_halving : PySem.W.keepIn K (.ref f_halving) = true)
    (a_wins : PySem.W.nsIn K mainGlobals "_law_wins" = some (some (.ref f_wins)))
    (l_wins : K.lookup f_wins = some ⟨oc_wins, od_wins, .func (PySem.W.fnOf "_law_wins" "_law_wins" (defArgs s_wins) (defBody s_wins) (defScope s_wins) .none kV_wins dc_wins pm_wins an_wins cd_wins ct_wins), sl_wins⟩)
    (c_wins : PySem.W.codeIn K cd_wins "_law_wins" = true)
    (k_wins : PySem.W.keepIn K (.ref f_wins) = true)
    (a_any_edges : PySem.W.nsIn K mainGlobals "_law_any_edges" = some (some (.ref f_any_edges)))
    (l_any_edges : K.lookup f_any_edges = some ⟨oc_any_edges, od_any_edges, .func (PySem.W.fnOf "_law_any_edges" "_law_any_edges" (defArgs s_any_edges) (defBody s_any_edges) (defScope s_any_edges) .none kV_any_edges dc_any_edges pm_any_edges an_any_edges cd_any_edges ct_any_edges), sl_any_edges⟩)
    (c_any_edges : PySem.W.codeIn K cd_any_edges "_law_any_edges" = true)
    (k_any_edges : PySem.W.keepIn K (.ref f_any_edges) = true)
    (a_any_game : PySem.W.nsIn K mainGlobals "_law_any_game" = some (some (.ref f_any_game)))
    (l_any_game : K.lookup f_any_game = some ⟨oc_any_game, od_any_game, .func (PySem.W.fnOf "_law_any_game" "_law_any_game" (defArgs s_any_game) (defBody s_any_game) (defScope s_any_game) .none kV_any_game dc_any_game pm_any_game an_any_game cd_any_game ct_any_game), sl_any_game⟩)
    (c_any_game : PySem.W.codeIn K cd_any_game "_law_any_game" = true)
    (k_any_game : PySem.W.keepIn K (.ref f_any_game) = true)
    (a_side_is_won : PySem.W.nsIn K mainGlobals "_law_side_is_won" = some (some (.ref f_side_is_won)))
    (l_side_is_won : K.lookup f_side_is_won = some ⟨oc_side_is_won, od_side_is_won, .func (PySem.W.fnOf "_law_side_is_won" "_law_side_is_won" (defArgs s_side_is_won) (defBody s_side_is_won) (defScope s_side_is_won) .none kV_side_is_won dc_side_is_won pm_side_is_won an_side_is_won cd_side_is_won ct_side_is_won), sl_side_is_won⟩)
    (c_side_is_won : PySem.W.codeIn K cd_side_is_won "_law_side_is_won" = true)
    (k_side_is_won : PySem.W.keepIn K (.ref f_side_is_won) = true)
    (a_solved : PySem.W.nsIn K mainGlobals "_law_solved" = some (some (.ref f_solved)))
    (l_solved : K.lookup f_solved = some ⟨oc_solved, od_solved, .func (PySem.W.fnOf "_law_solved" "_law_solved" (defArgs s_solved) (defBody s_solved) (defScope s_solved) .none kV_solved dc_solved pm_solved an_solved cd_solved ct_solved), sl_solved⟩)
    (c_solved : PySem.W.codeIn K cd_solved "_law_solved" = true)
    (k_solved : PySem.W.keepIn K (.ref f_solved) = true)
    (a_law : PySem.W.nsIn K mainGlobals "law" = some (some (.ref f_law)))
    (l_law : K.lookup f_law = some ⟨oc_law, od_law, .func (PySem.W.fnOf "law" "law" (defArgs s_law) (defBody s_law) (defScope s_law) .none kV_law dc_law pm_law an_law cd_law ct_law), sl_law⟩)
    (c_law : PySem.W.codeIn K cd_law "law" = true)
    (k_law : PySem.W.keepIn K (.ref f_law) = true)
    (aC_Web : PySem.W.nsIn K mainGlobals "Web" = some (some (.ref C_Web)))
    (pg_Web : PySem.W.plainGet K C_Web Str.empty = true)
    (hd_Web : PySem.W.hasDictIn K C_Web = true)
    (po_Web : PySem.W.plainOver K C_Web = true)
    (sa_Web : PySem.W.findIn K (.ref C_Web) "__setattr__" = some (some (.builtin "object.__setattr__")))
    (na_Web_height : PySem.W.findIn K (.ref C_Web) "height" = some none)
    (na_Web_size : PySem.W.findIn K (.ref C_Web) "size" = some none)
    (na_Web_edges : PySem.W.findIn K (.ref C_Web) "edges" = some none)
    (mk_Web : PySem.W.makesIn K C_Web = true)
    (kc_Web : PySem.W.keepIn K (.ref C_Web) = true)
    (a_W_init : PySem.W.findIn K (.ref C_Web) "__init__" = some (some (.ref f_W_init)))
    (i_W_init : PySem.W.isFn K (.ref f_W_init) = true)
    (l_W_init : K.lookup f_W_init = some ⟨oc_W_init, od_W_init, .func (PySem.W.fnOf "__init__" "Web.__init__" (defArgs s_W_init) (defBody s_W_init) (defScope s_W_init) .none kV_W_init dc_W_init pm_W_init an_W_init cd_W_init ct_W_init), sl_W_init⟩)
    (c_W_init : PySem.W.codeIn K cd_W_init "Web.__init__" = true)
    (k_W_init : PySem.W.keepIn K (.ref f_W_init) = true)
    (a_W_out : PySem.W.findIn K (.ref C_Web) "out" = some (some (.ref f_W_out)))
    (i_W_out : PySem.W.isFn K (.ref f_W_out) = true)
    (l_W_out : K.lookup f_W_out = some ⟨oc_W_out, od_W_out, .func (PySem.W.fnOf "out" "Web.out" (defArgs s_W_out) (defBody s_W_out) (defScope s_W_out) .none kV_W_out dc_W_out pm_W_out an_W_out cd_W_out ct_W_out), sl_W_out⟩)
    (c_W_out : PySem.W.codeIn K cd_W_out "Web.out" = true)
    (k_W_out : PySem.W.keepIn K (.ref f_W_out) = true)
    (cr_Web_MOST_NODES : PySem.W.readsIn K C_Web (.type "type") = true)
    (cg_Web_MOST_NODES : PySem.W.specialIn K (.ref C_Web) "__getattribute__" = some (some (.builtin "type.__getattribute__")))
    (cf_Web_MOST_NODES : PySem.W.findCls K (.ref C_Web) (.type "type") "MOST_NODES" = some (.val u_Web_MOST_NODES))
    (cx_Web_MOST_NODES : RelV (.int 9) u_Web_MOST_NODES)
    (cr_Web_MOST_EDGES : PySem.W.readsIn K C_Web (.type "type") = true)
    (cg_Web_MOST_EDGES : PySem.W.specialIn K (.ref C_Web) "__getattribute__" = some (some (.builtin "type.__getattribute__")))
    (cf_Web_MOST_EDGES : PySem.W.findCls K (.ref C_Web) (.type "type") "MOST_EDGES" = some (.val u_Web_MOST_EDGES))
    (cx_Web_MOST_EDGES : RelV (.int 63) u_Web_MOST_EDGES)
    (aC_Game : PySem.W.nsIn K mainGlobals "Game" = some (some (.ref C_Game)))
    (pg_Game : PySem.W.plainGet K C_Game Str.empty = true)
    (hd_Game : PySem.W.hasDictIn K C_Game = true)
    (po_Game : PySem.W.plainOver K C_Game = true)
    (sa_Game : PySem.W.findIn K (.ref C_Game) "__setattr__" = some (some (.builtin "object.__setattr__")))
    (na_Game_height : PySem.W.findIn K (.ref C_Game) "height" = some none)
    (na_Game_size : PySem.W.findIn K (.ref C_Game) "size" = some none)
    (na_Game_edges : PySem.W.findIn K (.ref C_Game) "edges" = some none)
    (na_Game_owners : PySem.W.findIn K (.ref C_Game) "owners" = some none)
    (mk_Game : PySem.W.makesIn K C_Game = true)
    (kc_Game : PySem.W.keepIn K (.ref C_Game) = true)
    (a_G_init : PySem.W.findIn K (.ref C_Game) "__init__" = some (some (.ref f_G_init)))
    (i_G_init : PySem.W.isFn K (.ref f_G_init) = true)
    (l_G_init : K.lookup f_G_init = some ⟨oc_G_init, od_G_init, .func (PySem.W.ksFn "__init__" "Game.__init__" (defArgs s_G_init) (defBody s_G_init) (defScope s_G_init) .none kV_G_init dc_G_init pm_G_init an_G_init (.ref cda_G_init) ct_G_init cc_G_init), sl_G_init⟩)
    (c_G_init : PySem.W.codeIn K (.ref cda_G_init) "Game.__init__" = true)
    (k_G_init : PySem.W.keepIn K (.ref f_G_init) = true)
    (h_G_init : K.lookup cda_G_init = some ⟨ccl_G_init, cdd_G_init, .fields cvs_G_init, ccs_G_init⟩)
    (v_G_init : cvs_G_init[2]? = some (.str cfi_G_init ctf_G_init))
    (p_G_init : ((P.main.file : Str) == cfi_G_init) = true)
    (e_G_init : K.lookup cc_G_init = some ⟨ecl_G_init, eld_G_init, .cell (some (.ref C_Game)), esl_G_init⟩)
    (icl_Game : PySem.W.isClsIn K C_Game = true)
    (a_G_out : PySem.W.findIn K (.ref C_Game) "out" = some (some (.ref f_G_out)))
    (i_G_out : PySem.W.isFn K (.ref f_G_out) = true)
    (l_G_out : K.lookup f_G_out = some ⟨oc_G_out, od_G_out, .func (PySem.W.ksFn "out" "Game.out" (defArgs s_G_out) (defBody s_G_out) (defScope s_G_out) .none kV_G_out dc_G_out pm_G_out an_G_out (.ref cda_G_out) ct_G_out cc_G_out), sl_G_out⟩)
    (c_G_out : PySem.W.codeIn K (.ref cda_G_out) "Game.out" = true)
    (k_G_out : PySem.W.keepIn K (.ref f_G_out) = true)
    (h_G_out : K.lookup cda_G_out = some ⟨ccl_G_out, cdd_G_out, .fields cvs_G_out, ccs_G_out⟩)
    (v_G_out : cvs_G_out[2]? = some (.str cfi_G_out ctf_G_out))
    (p_G_out : ((P.main.file : Str) == cfi_G_out) = true)
    (e_G_out : K.lookup cc_G_out = some ⟨ecl_G_out, eld_G_out, .cell (some (.ref C_Game)), esl_G_out⟩)
    (sm_Game_init : PySem.W.ks_superIn K C_Game C_Game "__init__" = some (some (.ref f_W_init)))
    (st_Game_init : PySem.W.typeIn K (.ref f_W_init) = some (.type "function"))
    (sn_Game_init : PySem.W.fnIn K f_W_init = true)
    (smr_Game : PySem.W.mroIn K C_Game (.ref C_Game) = some true)
    (sm_Game_out : PySem.W.ks_superIn K C_Game C_Game "out" = some (some (.ref f_W_out)))
    (st_Game_out : PySem.W.typeIn K (.ref f_W_out) = some (.type "function"))
    (sn_Game_out : PySem.W.fnIn K f_W_out = true)
    (aN_NoSuchNode : PySem.W.nsIn K mainGlobals "NoSuchNode" = some (some (.ref C_NoSuchNode)))
    (x_NoSuchNode : K.lookup C_NoSuchNode = some (excClassObj nm_NoSuchNode qn_NoSuchNode C_NoSuchNode ns_NoSuchNode bs_NoSuchNode bm_NoSuchNode true sn_NoSuchNode sb_NoSuchNode ab_NoSuchNode co_NoSuchNode dd_NoSuchNode k0_NoSuchNode k1_NoSuchNode k2_NoSuchNode k3_NoSuchNode k5_NoSuchNode "ValueError.__new__"))
    (r_NoSuchNode : PySem.HandSPX.refsVE bm_NoSuchNode = true)
    (sa_NoSuchNode : PySem.W.findIn K (.ref C_NoSuchNode) "__setattr__" = some (some (.builtin "object.__setattr__")))
    (xb_NoSuchNode : PySem.W.subIn K (.ref C_NoSuchNode) (.type "BaseException") = some true)
    (tc_NoSuchNode : PySem.W.typeIn K (.ref C_NoSuchNode) = some (.type "type"))
    (kc_NoSuchNode : PySem.W.keepIn K (.ref C_NoSuchNode) = true)
    (ga_NoSuchNode : PySem.W.findIn K (.ref C_NoSuchNode) "__getattribute__" = some (some (.builtin "BaseException.__getattribute__")))
    (gg_NoSuchNode : PySem.W.findIn K (.ref C_NoSuchNode) "__getattr__" = some none)
    (ac_NoSuchNode : PySem.W.findIn K (.ref C_NoSuchNode) "__class__" = some (some (.builtin "object.__class__")))
    (mo_NoSuchNode : PySem.W.mroIn K C_NoSuchNode (.type "object") = some true)
    (hd_NoSuchNode : PySem.W.hasDictIn K C_NoSuchNode = true)
    (ic_NoSuchNode : PySem.W.isClsIn K C_NoSuchNode = true)
    (no_NoSuchNode : PySem.W.findIn K (.ref C_NoSuchNode) "node" = some none)
    (sv_NoSuchNode : PySem.W.subIn K (.ref C_NoSuchNode) (.type "ValueError") = some true)
    (mr_NoSuchNode : PySem.W.mroIn K C_NoSuchNode (.ref C_NoSuchNode) = some true)
    (sm_NoSuchNode : PySem.W.ks_superIn K C_NoSuchNode C_NoSuchNode "__init__" = some (some (.builtin "ValueError.__init__")))
    (a_NoSuchNode_init : PySem.W.findIn K (.ref C_NoSuchNode) "__init__" = some (some (.ref f_NoSuchNode_init)))
    (t_NoSuchNode_init : PySem.W.typeIn K (.ref f_NoSuchNode_init) = some (.type "function"))
    (l_NoSuchNode_init : K.lookup f_NoSuchNode_init = some ⟨oc_NoSuchNode_init, od_NoSuchNode_init, .func (PySem.W.ksFn "__init__" "NoSuchNode.__init__" (defArgs s_NoSuchNode_init) (defBody s_NoSuchNode_init) (defScope s_NoSuchNode_init) .none kV_NoSuchNode_init dc_NoSuchNode_init pm_NoSuchNode_init an_NoSuchNode_init (.ref cda_NoSuchNode_init) ct_NoSuchNode_init cc_NoSuchNode_init), sl_NoSuchNode_init⟩)
    (c_NoSuchNode_init : PySem.W.codeIn K (.ref cda_NoSuchNode_init) "NoSuchNode.__init__" = true)
    (h_NoSuchNode_init : K.lookup cda_NoSuchNode_init = some ⟨ccl_NoSuchNode_init, cdd_NoSuchNode_init, .fields cvs_NoSuchNode_init, ccs_NoSuchNode_init⟩)
    (v_NoSuchNode_init : cvs_NoSuchNode_init[2]? = some (.str cfi_NoSuchNode_init ctf_NoSuchNode_init))
    (p_NoSuchNode_init : ((P.main.file : Str) == cfi_NoSuchNode_init) = true)
    (e_NoSuchNode_init : K.lookup cc_NoSuchNode_init = some ⟨ecl_NoSuchNode_init, eld_NoSuchNode_init, .cell (some (.ref C_NoSuchNode)), esl_NoSuchNode_init⟩) :
    Txt P K mg ⟨C_Web, C_Game, C_NoSuchNode⟩ := {
    n_len := PySem.W.mg_none_of X G z_len,
    n_abs := PySem.W.mg_none_of X G z_abs,
    n_max := PySem.W.mg_none_of X G z_max,
    n_min := PySem.W.mg_none_of X G z_min,
    n_isinstance := PySem.W.mg_none_of X G z_isinstance,
    n_int := PySem.W.mg_none_of X G z_int,
    n_bool := PySem.W.mg_none_of X G z_bool,
    n_str := PySem.W.mg_none_of X G z_str,
    n_list := PySem.W.mg_none_of X G z_list,
    n_tuple := PySem.W.mg_none_of X G z_tuple,
    n_range := PySem.W.mg_none_of X G z_range,
    n_enumerate := PySem.W.mg_none_of X G z_enumerate,
    n_set := PySem.W.mg_none_of X G z_set,
    n_sorted := PySem.W.mg_none_of X G z_sorted,
    n_any := PySem.W.mg_none_of X G z_any,
    n_all := PySem.W.mg_none_of X G z_all,
    n_ValueError := PySem.W.mg_none_of X G z_ValueError,
    objc := ⟨o_gt, o_tk⟩,
    d_opponent := ⟨_, _, fun_mk (st := s_opponent) l_opponent c_opponent k_opponent, PySem.W.mg_of X G a_opponent, (fun_mk (st := s_opponent) l_opponent c_opponent k_opponent).binds (ps := ["player"]) (fun _ _ _ _ _ _ us hl => match us, hl with | [_], _ => rfl)⟩,
    d_wanting := ⟨_, _, fun_mk (st := s_wanting) l_wanting c_wanting k_wanting, PySem.W.mg_of X G a_wanting, (fun_mk (st := s_wanting) l_wanting c_wanting k_wanting).binds (ps := ["rank"]) (fun _ _ _ _ _ _ us hl => match us, hl with | [_], _ => rfl)⟩,
    d_solve := ⟨_, _, fun_mk (st := s_solve) l_solve c_solve k_solve, PySem.W.mg_of X G a_solve, (fun_mk (st := s_solve) l_solve c_solve k_solve).binds (ps := ["game"]) (fun _ _ _ _ _ _ us hl => match us, hl with | [_], _ => rfl)⟩,
    d__solve_part := ⟨_, _, fun_mk (st := s__solve_part) l__solve_part c__solve_part k__solve_part, PySem.W.mg_of X G a__solve_part, (fun_mk (st := s__solve_part) l__solve_part c__solve_part k__solve_part).binds (ps := ["owners", "nodes", "edges"]) (fun _ _ _ _ _ _ us hl => match us, hl with | [_, _, _], _ => rfl)⟩,
    d__between := ⟨_, _, fun_mk (st := s__between) l__between c__between k__between, PySem.W.mg_of X G a__between, (fun_mk (st := s__between) l__between c__between k__between).binds (ps := ["nodes", "edges"]) (fun _ _ _ _ _ _ us hl => match us, hl with | [_, _], _ => rfl)⟩,
    d__pull := ⟨_, _, fun_mk (st := s__pull) l__pull c__pull k__pull, PySem.W.mg_of X G a__pull, (fun_mk (st := s__pull) l__pull c__pull k__pull).binds (ps := ["owners", "nodes", "edges", "player", "won", "rank"]) (fun _ _ _ _ _ _ us hl => match us, hl with | [_, _, _, _, _, _], _ => rfl)⟩,
    d_check_height := ⟨_, _, fun_mk (st := s_check_height) l_check_height c_check_height k_check_height, PySem.W.mg_of X G a_check_height, (fun_mk (st := s_check_height) l_check_height c_check_height k_check_height).binds (ps := ["height"]) (fun _ _ _ _ _ _ us hl => match us, hl with | [_], _ => rfl)⟩,
    d_check_count := ⟨_, _, fun_mk (st := s_check_count) l_check_count c_check_count k_check_count, PySem.W.mg_of X G a_check_count, (fun_mk (st := s_check_count) l_check_count c_check_count k_check_count).binds (ps := ["count", "most"]) (fun _ _ _ _ _ _ us hl => match us, hl with | [_, _], _ => rfl)⟩,
    d_check_node := ⟨_, _, fun_mk (st := s_check_node) l_check_node c_check_node k_check_node, PySem.W.mg_of X G a_check_node, (fun_mk (st := s_check_node) l_check_node c_check_node k_check_node).binds (ps := ["size", "node"]) (fun _ _ _ _ _ _ us hl => match us, hl with | [_, _], _ => rfl)⟩,
    d_check_nodes := ⟨_, _, fun_mk (st := s_check_nodes) l_check_nodes c_check_nodes k_check_nodes, PySem.W.mg_of X G a_check_nodes, (fun_mk (st := s_check_nodes) l_check_nodes c_check_nodes k_check_nodes).binds (ps := ["size", "nodes"]) (fun _ _ _ _ _ _ us hl => match us, hl with | [_, _], _ => rfl)⟩,
    d__check_edges := ⟨_, _, fun_mk (st := s__check_edges) l__check_edges c__check_edges k__check_edges, PySem.W.mg_of X G a__check_edges, (fun_mk (st := s__check_edges) l__check_edges c__check_edges k__check_edges).binds (ps := ["height", "size", "edges"]) (fun _ _ _ _ _ _ us hl => match us, hl with | [_, _, _], _ => rfl)⟩,
    d__check_owners := ⟨_, _, fun_mk (st := s__check_owners) l__check_owners c__check_owners k__check_owners, PySem.W.mg_of X G a__check_owners, (fun_mk (st := s__check_owners) l__check_owners c__check_owners k__check_owners).binds (ps := ["owners"]) (fun _ _ _ _ _ _ us hl => match us, hl with | [_], _ => rfl)⟩,
    d__check_dead_ends := ⟨_, _, fun_mk (st := s__check_dead_ends) l__check_dead_ends c__check_dead_ends k__check_dead_ends, PySem.W.mg_of X G a__check_dead_ends, (fun_mk (st := s__check_dead_ends) l__check_dead_ends c__check_dead_ends k__check_dead_ends).binds (ps := ["size", "edges"]) (fun _ _ _ _ _ _ us hl => match us, hl with | [_, _], _ => rfl)⟩,
    d_paths_from := ⟨_, _, fun_mk (st := s_paths_from) l_paths_from c_paths_from k_paths_from, PySem.W.mg_of X G a_paths_from, (fun_mk (st := s_paths_from) l_paths_from c_paths_from k_paths_from).binds (ps := ["edges", "start"]) (fun _ _ _ _ _ _ us hl => match us, hl with | [_, _], _ => rfl)⟩,
    d_path_between := ⟨_, _, fun_mk (st := s_path_between) l_path_between c_path_between k_path_between, PySem.W.mg_of X G a_path_between, (fun_mk (st := s_path_between) l_path_between c_path_between k_path_between).binds (ps := ["edges", "start", "goal"]) (fun _ _ _ _ _ _ us hl => match us, hl with | [_, _, _], _ => rfl)⟩,
    d_cycle_with := ⟨_, _, fun_mk (st := s_cycle_with) l_cycle_with c_cycle_with k_cycle_with, PySem.W.mg_of X G a_cycle_with, (fun_mk (st := s_cycle_with) l_cycle_with c_cycle_with k_cycle_with).binds (ps := ["edges", "remainder"]) (fun _ _ _ _ _ _ us hl => match us, hl with | [_, _], _ => rfl)⟩,
    d_judge := ⟨_, _, fun_mk (st := s_judge) l_judge c_judge k_judge, PySem.W.mg_of X G a_judge, (fun_mk (st := s_judge) l_judge c_judge k_judge).binds (ps := ["game", "player", "nodes", "plan"]) (fun _ _ _ _ _ _ us hl => match us, hl with | [_, _, _, _], _ => rfl)⟩,
    d_edges_of_plan := ⟨_, _, fun_mk (st := s_edges_of_plan) l_edges_of_plan c_edges_of_plan k_edges_of_plan, PySem.W.mg_of X G a_edges_of_plan, (fun_mk (st := s_edges_of_plan) l_edges_of_plan c_edges_of_plan k_edges_of_plan).binds (ps := ["game", "player", "nodes", "plan"]) (fun _ _ _ _ _ _ us hl => match us, hl with | [_, _, _, _], _ => rfl)⟩,
    d_pool := ⟨_, _, fun_mk (st := s_pool) l_pool c_pool k_pool, PySem.W.mg_of X G a_pool, (fun_mk (st := s_pool) l_pool c_pool k_pool).binds (ps := ["script", "k"]) (fun _ _ _ _ _ _ us hl => match us, hl with | [_, _], _ => rfl)⟩,
    d_draw := ⟨_, _, fun_mk (st := s_draw) l_draw c_draw k_draw, PySem.W.mg_of X G a_draw, (fun_mk (st := s_draw) l_draw c_draw k_draw).binds (ps := ["pool", "many"]) (fun _ _ _ _ _ _ us hl => match us, hl with | [_, _], _ => rfl)⟩,
    d_levels := ⟨_, _, fun_mk (st := s_levels) l_levels c_levels k_levels, PySem.W.mg_of X G a_levels, (fun_mk (st := s_levels) l_levels c_levels k_levels).binds (ps := ["pool", "height", "limit"]) (fun _ _ _ _ _ _ us hl => match us, hl with | [_, _, _], _ => rfl)⟩,
    d_owners := ⟨_, _, fun_mk (st := s_owners) l_owners c_owners k_owners, PySem.W.mg_of X G a_owners, (fun_mk (st := s_owners) l_owners c_owners k_owners).binds (ps := ["pool", "size"]) (fun _ _ _ _ _ _ us hl => match us, hl with | [_, _], _ => rfl)⟩,
    d_edges := ⟨_, _, fun_mk (st := s_edges) l_edges c_edges k_edges, PySem.W.mg_of X G a_edges, (fun_mk (st := s_edges) l_edges c_edges k_edges).binds (ps := ["pool", "height", "size", "limit"]) (fun _ _ _ _ _ _ us hl => match us, hl with | [_, _, _, _], _ => rfl)⟩,
    d_row_edges := ⟨_, _, fun_mk (st := s_row_edges) l_row_edges c_row_edges k_row_edges, PySem.W.mg_of X G a_row_edges, (fun_mk (st := s_row_edges) l_row_edges c_row_edges k_row_edges).binds (ps := ["levels"]) (fun _ _ _ _ _ _ us hl => match us, hl with | [_], _ => rfl)⟩,
    d_game := ⟨_, _, fun_mk (st := s_game) l_game c_game k_game, PySem.W.mg_of X G a_game, (fun_mk (st := s_game) l_game c_game k_game).binds (ps := ["pool", "height", "limit"]) (fun _ _ _ _ _ _ us hl => match us, hl with | [_, _, _], _ => rfl)⟩,
    d_number := ⟨_, _, fun_mk (st := s_number) l_number c_number k_number, PySem.W.mg_of X G a_number, (fun_mk (st := s_number) l_number c_number k_number).binds (ps := ["value"]) (fun _ _ _ _ _ _ us hl => match us, hl with | [_], _ => rfl)⟩,
    d_same := ⟨_, _, fun_mk (st := s_same) l_same c_same k_same, PySem.W.mg_of X G a_same, (fun_mk (st := s_same) l_same c_same k_same).binds (ps := ["answer", "due"]) (fun _ _ _ _ _ _ us hl => match us, hl with | [_, _], _ => rfl)⟩,
    d_is_edge := ⟨_, _, fun_mk (st := s_is_edge) l_is_edge c_is_edge k_is_edge, PySem.W.mg_of X G a_is_edge, (fun_mk (st := s_is_edge) l_is_edge c_is_edge k_is_edge).binds (ps := ["edge"]) (fun _ _ _ _ _ _ us hl => match us, hl with | [_], _ => rfl)⟩,
    d_gap := ⟨_, _, fun_mk (st := s_gap) l_gap c_gap k_gap, PySem.W.mg_of X G a_gap, (fun_mk (st := s_gap) l_gap c_gap k_gap).binds (ps := ["levels", "one", "other"]) (fun _ _ _ _ _ _ us hl => match us, hl with | [_, _, _], _ => rfl)⟩,
    d_allows := ⟨_, _, fun_mk (st := s_allows) l_allows c_allows k_allows, PySem.W.mg_of X G a_allows, (fun_mk (st := s_allows) l_allows c_allows k_allows).binds (ps := ["levels", "source", "rank", "target"]) (fun _ _ _ _ _ _ us hl => match us, hl with | [_, _, _, _], _ => rfl)⟩,
    d_reaches := ⟨_, _, fun_mk (st := s_reaches) l_reaches c_reaches k_reaches, PySem.W.mg_of X G a_reaches, (fun_mk (st := s_reaches) l_reaches c_reaches k_reaches).binds (ps := ["edges", "bound", "source", "target"]) (fun _ _ _ _ _ _ us hl => match us, hl with | [_, _, _, _], _ => rfl)⟩,
    d_has_cycle := ⟨_, _, fun_mk (st := s_has_cycle) l_has_cycle c_has_cycle k_has_cycle, PySem.W.mg_of X G a_has_cycle, (fun_mk (st := s_has_cycle) l_has_cycle c_has_cycle k_has_cycle).binds (ps := ["edges", "parity"]) (fun _ _ _ _ _ _ us hl => match us, hl with | [_, _], _ => rfl)⟩,
    d_fits := ⟨_, _, fun_mk (st := s_fits) l_fits c_fits k_fits, PySem.W.mg_of X G a_fits, (fun_mk (st := s_fits) l_fits c_fits k_fits).binds (ps := ["letters", "edges", "levels", "places", "node"]) (fun _ _ _ _ _ _ us hl => match us, hl with | [_, _, _, _, _], _ => rfl)⟩,
    d_climb := ⟨_, _, fun_mk (st := s_climb) l_climb c_climb k_climb, PySem.W.mg_of X G a_climb, (fun_mk (st := s_climb) l_climb c_climb k_climb).binds (ps := ["letters", "edges", "levels"]) (fun _ _ _ _ _ _ us hl => match us, hl with | [_, _, _], _ => rfl)⟩,
    d_halving := ⟨_, _, fun_mk (st := s_halving) l_halving c_halving k_halving, PySem.W.mg_of X G a_halving, (fun_mk (st := s_halving) l_halving c_halving k_halving).binds (ps := ["count", "height"]) (fun _ _ _ _ _ _ us hl => match us, hl with | [_, _], _ => rfl)⟩,
    d_wins := ⟨_, _, fun_mk (st := s_wins) l_wins c_wins k_wins, PySem.W.mg_of X G a_wins, (fun_mk (st := s_wins) l_wins c_wins k_wins).binds (ps := ["letters", "edges", "height"]) (fun _ _ _ _ _ _ us hl => match us, hl with | [_, _, _], _ => rfl)⟩,
    d_any_edges := ⟨_, _, fun_mk (st := s_any_edges) l_any_edges c_any_edges k_any_edges, PySem.W.mg_of X G a_any_edges, (fun_mk (st := s_any_edges) l_any_edges c_any_edges k_any_edges).binds (ps := ["pool", "height", "size"]) (fun _ _ _ _ _ _ us hl => match us, hl with | [_, _, _], _ => rfl)⟩,
    d_any_game := ⟨_, _, fun_mk (st := s_any_game) l_any_game c_any_game k_any_game, PySem.W.mg_of X G a_any_game, (fun_mk (st := s_any_game) l_any_game c_any_game k_any_game).binds (ps := ["pool", "height"]) (fun _ _ _ _ _ _ us hl => match us, hl with | [_, _], _ => rfl)⟩,
    d_side_is_won := ⟨_, _, fun_mk (st := s_side_is_won) l_side_is_won c_side_is_won k_side_is_won, PySem.W.mg_of X G a_side_is_won, (fun_mk (st := s_side_is_won) l_side_is_won c_side_is_won k_side_is_won).binds (ps := ["letters", "edges", "text", "plan", "player"]) (fun _ _ _ _ _ _ us hl => match us, hl with | [_, _, _, _, _], _ => rfl)⟩,
    d_solved := ⟨_, _, fun_mk (st := s_solved) l_solved c_solved k_solved, PySem.W.mg_of X G a_solved, (fun_mk (st := s_solved) l_solved c_solved k_solved).binds (ps := ["answer", "letters", "edges"]) (fun _ _ _ _ _ _ us hl => match us, hl with | [_, _, _], _ => rfl)⟩,
    d_law := ⟨_, _, fun_mk (st := s_law) l_law c_law k_law, PySem.W.mg_of X G a_law, (fun_mk (st := s_law) l_law c_law k_law).binds (ps := ["script"]) (fun _ _ _ _ _ _ us hl => match us, hl with | [_], _ => rfl)⟩,
    cl_Web := ⟨pg_Web, hd_Web, po_Web, sa_Web⟩,
    mg_Web := PySem.W.mg_of X G aC_Web,
    na_Web_height := na_Web_height,
    na_Web_size := na_Web_size,
    na_Web_edges := na_Web_edges,
    mk_Web := ⟨_, _, fun_mk (st := s_W_init) l_W_init c_W_init k_W_init, ⟨mk_Web, a_W_init, i_W_init, kc_Web⟩, PySem.W.mg_of X G aC_Web, (fun_mk (st := s_W_init) l_W_init c_W_init k_W_init).binds (ps := ["self", "height", "size", "edges"]) (fun _ _ _ _ _ _ us hl => match us, hl with | [_, _, _, _], _ => rfl)⟩,
    mt_W_out := ⟨_, _, fun_mk (st := s_W_out) l_W_out c_W_out k_W_out, ⟨a_W_out, i_W_out, k_W_out⟩, (fun_mk (st := s_W_out) l_W_out c_W_out k_W_out).binds (ps := ["self", "node"]) (fun _ _ _ _ _ _ us hl => match us, hl with | [_, _], _ => rfl)⟩,
    cv_Web_MOST_NODES := ⟨_, _, ⟨cr_Web_MOST_NODES, cg_Web_MOST_NODES⟩, ⟨cf_Web_MOST_NODES, cx_Web_MOST_NODES⟩⟩,
    cv_Web_MOST_EDGES := ⟨_, _, ⟨cr_Web_MOST_EDGES, cg_Web_MOST_EDGES⟩, ⟨cf_Web_MOST_EDGES, cx_Web_MOST_EDGES⟩⟩,
    cl_Game := ⟨pg_Game, hd_Game, po_Game, sa_Game⟩,
    mg_Game := PySem.W.mg_of X G aC_Game,
    na_Game_height := na_Game_height,
    na_Game_size := na_Game_size,
    na_Game_edges := na_Game_edges,
    na_Game_owners := na_Game_owners,
    mk_Game := ⟨⟨_, _, _, _, ⟨⟨_, _, _, l_G_init⟩, ⟨_, rfl, rfl⟩, ⟨_, _, _, _, _, _, h_G_init, v_G_init, p_G_init⟩, ⟨_, _, _, e_G_init⟩, Option.isSome_iff_exists.mp icl_Game, PySem.W.mg_none_of X G z_super, z_top, zt_any⟩, ⟨mk_Game, a_G_init, i_G_init, kc_Game⟩, PySem.W.mg_of X G aC_Game, .all (fun us hl => match us, hl with | [_, _, _, _], _ => rfl), _, _, _, _, _, _, _, _, rfl, l_G_init, c_G_init⟩⟩,
    mt_G_out := ⟨⟨_, _, _, _, ⟨⟨_, _, _, l_G_out⟩, ⟨_, rfl, rfl⟩, ⟨_, _, _, _, _, _, h_G_out, v_G_out, p_G_out⟩, ⟨_, _, _, e_G_out⟩, Option.isSome_iff_exists.mp icl_Game, PySem.W.mg_none_of X G z_super, z_top, zt_any⟩, ⟨a_G_out, i_G_out, k_G_out⟩, .all (fun us hl => match us, hl with | [_, _], _ => rfl), _, _, _, _, _, _, _, _, rfl, l_G_out, c_G_out⟩⟩,
    su_Game_init := ⟨⟨_, _, sm_Game_init, st_Game_init, sn_Game_init, fun_mk (st := s_W_init) l_W_init c_W_init k_W_init, (fun_mk (st := s_W_init) l_W_init c_W_init k_W_init).binds (ps := ["self", "height", "size", "edges"]) (fun _ _ _ _ _ _ us hl => match us, hl with | [_, _, _, _], _ => rfl)⟩, smr_Game, by decide⟩,
    su_Game_out := ⟨⟨_, _, sm_Game_out, st_Game_out, sn_Game_out, fun_mk (st := s_W_out) l_W_out c_W_out k_W_out, (fun_mk (st := s_W_out) l_W_out c_W_out k_W_out).binds (ps := ["self", "node"]) (fun _ _ _ _ _ _ us hl => match us, hl with | [_, _], _ => rfl)⟩, smr_Game, by decide⟩,
    mg_NoSuchNode := PySem.W.mg_of X G aN_NoSuchNode,
    e_NoSuchNode := { gC := PySem.W.mg_of X G aN_NoSuchNode, T := ⟨⟨_, _, _, _, _, _, _, _, _, _, _, _, _, _, _, x_NoSuchNode, r_NoSuchNode⟩, sa_NoSuchNode, xb_NoSuchNode, tc_NoSuchNode, kc_NoSuchNode⟩, E := ⟨ic_NoSuchNode, ga_NoSuchNode, gg_NoSuchNode, xb_NoSuchNode, ac_NoSuchNode, mo_NoSuchNode, hd_NoSuchNode⟩, X := ⟨ga_NoSuchNode, gg_NoSuchNode, xb_NoSuchNode, hd_NoSuchNode⟩, no := no_NoSuchNode, sm := sm_NoSuchNode, mr := mr_NoSuchNode, sv := sv_NoSuchNode, ini := ⟨_, _, _, _, a_NoSuchNode_init, t_NoSuchNode_init, ⟨⟨_, _, _, l_NoSuchNode_init⟩, ⟨_, rfl, rfl⟩, ⟨_, _, _, _, _, _, h_NoSuchNode_init, v_NoSuchNode_init, p_NoSuchNode_init⟩, ⟨_, _, _, e_NoSuchNode_init⟩, Option.isSome_iff_exists.mp ic_NoSuchNode, PySem.W.mg_none_of X G z_super, z_top, zt_any⟩, .all (fun us hl => match us, hl with | [_, _], _ => rfl), _, _, _, _, _, _, _, _, rfl, l_NoSuchNode_init, c_NoSuchNode_init⟩ } }
theorem walk {l : PySem.W.OpenLaw} {q : Program} {loose : List Str} {XP : (Str → Option Value) → Heap → Prop} {YP : World → Heap → Prop} {d : DefRec} {K : Params → PySem.W.Frag} (hn : l.most = some 63) (hdf : d.params.defaults = []) (hd : d.name = "law")
    (hY : ∀ (w : World) (h : Heap), YP w h → (K w.params).In h)
    (F : ∀ (w : World) (mg : Str → Option Value) (h : Heap), (K w.params).In h → h.Ns mainGlobals mg → ∃ c, Txt l.prog (K w.params) mg c) :
    PySem.W.WalkO q loose XP YP l.row.toRowW d [] (fun f vs => PySem.call f vs) :=
  L2.walk_of (n := 63) (k := lawLevel) (x := "script") (CX := fun _ => CX0) (sp := fun w => spLaw (K w.params)) hn (by decide) hdf ⟨rfl, by decide, by decide⟩ hY
    (fun w mg fa h KX G hmg => by
      obtain ⟨ζ, T⟩ := F w mg h KX G
      obtain ⟨f, fd, Ff, hm, b⟩ := T.d_law.ex
      rw [hd, hm] at hmg
      cases hmg
      refine ⟨fd, fun s v => ?_, fun base _ _ => ok_law T Ff⟩
      obtain ⟨oc, od, kV, doc, pm, an, cdv, ct, osl, rfl, lk, hcd⟩ := Ff.ex
      exact .of_eq rfl)
    (fun _ _ a ns hl _ hS => ⟨a, ns, rfl, hS, fun _ => rfl⟩) fun _ _ _ _ _ z => z
def loose0 : List PySem.Str := [("_wall" : PySem.Str), ("opponent" : PySem.Str), ("wanting" : PySem.Str), ("solve" : PySem.Str), ("_solve_part" : PySem.Str), ("_between" : PySem.Str), ("_pull" : PySem.Str), ("LadderreachError" : PySem.Str), ("BadHeight" : PySem.Str), ("BadSize" : PySem.Str), ("TooLarge" : PySem.Str), ("GameError" : PySem.Str), ("BadOwners" : PySem.Str), ("BadEdge" : PySem.Str), ("DuplicateEdge" : PySem.Str), ("DeadEnd" : PySem.Str), ("OutOfRange" : PySem.Str), ("NoSuchNode" : PySem.Str), ("BadPlan" : PySem.Str), ("check_height" : PySem.Str)]
def loose1 : List PySem.Str := [("check_count" : PySem.Str), ("check_node" : PySem.Str), ("check_nodes" : PySem.Str), ("Web" : PySem.Str), ("_check_edges" : PySem.Str), ("Game" : PySem.Str), ("_check_owners" : PySem.Str), ("_check_dead_ends" : PySem.Str), ("paths_from" : PySem.Str), ("path_between" : PySem.Str), ("cycle_with" : PySem.Str), ("judge" : PySem.Str), ("edges_of_plan" : PySem.Str), ("_law_pool" : PySem.Str), ("_law_draw" : PySem.Str), ("_law_levels" : PySem.Str), ("_law_owners" : PySem.Str), ("_law_edges" : PySem.Str), ("_law_row_edges" : PySem.Str), ("_law_game" : PySem.Str)]
def loose2 : List PySem.Str := [("_law_number" : PySem.Str), ("_law_same" : PySem.Str), ("_law_is_edge" : PySem.Str), ("_law_gap" : PySem.Str), ("_law_allows" : PySem.Str), ("_law_reaches" : PySem.Str), ("_law_has_cycle" : PySem.Str), ("_law_fits" : PySem.Str), ("_law_climb" : PySem.Str), ("_law_halving" : PySem.Str), ("_law_wins" : PySem.Str), ("_law_any_edges" : PySem.Str), ("_law_any_game" : PySem.Str), ("_law_side_is_won" : PySem.Str), ("_law_solved" : PySem.Str)]
def looseNames : List PySem.Str := loose0 ++ loose1 ++ loose2
end LR
section
open PySem PySem.W PyProof.Rows
local macro_rules
  | `(tactic| o_head ($_ $K $as $e)) => `(tactic| (refine HandSHeadRun.head_any (r := OpenLaw.row PySem.Challenge.rw_ladderreach_k11_whole_winners_and_plan) (q := view (OpenLaw.row PySem.Challenge.rw_ladderreach_k11_whole_winners_and_plan).prog [64]) (H := kHook $K $as $e) (ob := fun s => List.map (HandSHeadRun.getT s) $as) (M := 20000) (loose := LR.looseNames) (d := HandSHeadRun.topDef (OpenLaw.row PySem.Challenge.rw_ladderreach_k11_whole_winners_and_plan).prog 64) (kwd := []) (fun s => LR.ob_tree s) (by kernel_rfl) (fun s => by kernel_rfl) ?hr (by kernel_rfl) (by kernel_rfl) (by kernel_rfl) (by rfl) (by first | assumption | decide +kernel) (by decide +kernel) ⟨rfl, rfl, rfl, rfl, rfl, by decide +kernel⟩ ?hw ?hc; (case hr => (intro w os; kernel_rfl)); (case hw => w_witness2)))
set_option maxRecDepth 100000 in
set_option maxHeartbeats 0 in
theorem PySem.Challenge.cw_ladderreach_k11_whole_winners_and_plan_holds : PySem.Challenge.rw_ladderreach_k11_whole_winners_and_plan.Holds := by
  w_on; o_law; k_head
  k_fill
  refine LR.walk (l := PySem.Challenge.rw_ladderreach_k11_whole_winners_and_plan) (by kernel_rfl) (by kernel_rfl) (by kernel_rfl) (fun w h Y => PySem.W.kIn_of Y) ?F
  case F =>
    intro w mg h KX G
    refine' ⟨_, LR.all_mk (P := PySem.Challenge.rw_ladderreach_k11_whole_winners_and_plan.prog) KX G ?z_super ?zt_any ?z_top ?z_len ?z_abs ?z_max ?z_min ?z_isinstance ?z_int ?z_bool ?z_str ?z_list ?z_tuple ?z_range ?z_enumerate ?z_set ?z_sorted ?z_any ?z_all ?z_ValueError ?o_gt ?o_tk ?a_opponent ?l_opponent ?c_opponent ?k_opponent ?a_wanting ?l_wanting ?c_wanting ?k_wanting ?a_solve ?l_solve ?c_solve ?k_solve ?a__solve_part ?l__solve_part ?c__solve_part ?k__solve_part ?a__between ?l__between ?c__between ?k__between ?a__pull ?l__pull ?c__pull ?k__pull ?a_check_height ?l_check_height ?c_check_height ?k_check_height ?a_check_count ?l_check_count ?c_check_count ?k_check_count ?a_check_node ?l_check_node ?c_check_node ?k_check_node ?a_check_nodes ?l_check_nodes ?c_check_nodes ?k_check_nodes ?a__check_edges ?l__check_edges ?c__check_edges ?k__check_edges ?a__check_owners ?l__check_owners ?c__check_owners ?k__check_owners ?a__check_dead_ends ?l__check_dead_ends ?c__check_dead_ends ?k__check_dead_ends ?a_paths_from ?l_paths_from ?c_paths_from ?k_paths_from ?a_path_between ?l_path_between ?c_path_between ?k_path_between ?a_cycle_with ?l_cycle_with ?c_cycle_with ?k_cycle_with ?a_judge ?l_judge ?c_judge ?k_judge ?a_edges_of_plan ?l_edges_of_plan ?c_edges_of_plan ?k_edges_of_plan ?a_pool ?l_pool ?c_pool ?k_pool ?a_draw ?l_draw ?c_draw ?k_draw ?a_levels ?l_levels ?c_levels ?k_levels ?a_owners ?l_owners ?c_owners ?k_owners ?a_edges ?l_edges ?c_edges ?k_edges ?a_row_edges ?l_row_edges ?c_row_edges ?k_row_edges ?a_game ?l_game ?c_game ?k_game ?a_number ?l_number ?c_number ?k_number ?a_same ?l_same ?c_same ?k_same ?a_is_edge ?l_is_edge ?c_is_edge ?k_is_edge ?a_gap ?l_gap ?c_gap ?k_gap ?a_allows ?l_allows ?c_allows ?k_allows ?a_reaches ?l_reaches ?c_reaches ?k_reaches ?a_has_cycle ?l_has_cycle ?c_has_cycle ?k_has_cycle ?a_fits ?l_fits ?c_fits ?k_fits ?a_climb ?l_climb ?c_climb ?k_climb ?a_halving ?l_halving ?c_halving ?k_halving ?a_wins ?l_wins ?c_wins ?k_wins ?a_any_edges ?l_any_edges ?c_any_edges ?k_any_edges ?a_any_game ?l_any_game ?c_any_game ?k_any_game ?a_side_is_won ?l_side_is_won ?c_side_is_won ?k_side_is_won ?a_solved ?l_solved ?c_solved ?k_solved ?a_law ?l_law ?c_law ?k_law ?aC_Web ?pg_Web ?hd_Web ?po_Web ?sa_Web ?na_Web_height ?na_Web_size ?na_Web_edges ?mk_Web ?kc_Web ?a_W_init ?i_W_init ?l_W_init ?c_W_init ?k_W_init ?a_W_out ?i_W_out ?l_W_out ?c_W_out ?k_W_out ?cr_Web_MOST_NODES ?cg_Web_MOST_NODES ?cf_Web_MOST_NODES ?cx_Web_MOST_NODES ?cr_Web_MOST_EDGES ?cg_Web_MOST_EDGES ?cf_Web_MOST_EDGES ?cx_Web_MOST_EDGES ?aC_Game ?pg_Game ?hd_Game ?po_Game ?sa_Game ?na_Game_height ?na_Game_size ?na_Game_edges ?na_Game_owners ?mk_Game ?kc_Game ?a_G_init ?i_G_init ?l_G_init ?c_G_init ?k_G_init ?h_G_init ?v_G_init ?p_G_init ?e_G_init ?icl_Game ?a_G_out ?i_G_out ?l_G_out ?c_G_out ?k_G_out ?h_G_out ?v_G_out ?p_G_out ?e_G_out ?sm_Game_init ?st_Game_init ?sn_Game_init ?smr_Game ?sm_Game_out ?st_Game_out ?sn_Game_out ?aN_NoSuchNode ?x_NoSuchNode ?r_NoSuchNode ?sa_NoSuchNode ?xb_NoSuchNode ?tc_NoSuchNode ?kc_NoSuchNode ?ga_NoSuchNode ?gg_NoSuchNode ?ac_NoSuchNode ?mo_NoSuchNode ?hd_NoSuchNode ?ic_NoSuchNode ?no_NoSuchNode ?sv_NoSuchNode ?mr_NoSuchNode ?sm_NoSuchNode ?a_NoSuchNode_init ?t_NoSuchNode_init ?l_NoSuchNode_init ?c_NoSuchNode_init ?h_NoSuchNode_init ?v_NoSuchNode_init ?p_NoSuchNode_init ?e_NoSuchNode_init⟩
    (case z_super => k_is)
    (case zt_any => k_is)
    (case z_top => first | rfl | decide +kernel)
    (case z_len => k_is)
    (case z_abs => k_is)
    (case z_max => k_is)
    (case z_min => k_is)
    (case z_isinstance => k_is)
    (case z_int => k_is)
    (case z_bool => k_is)
    (case z_str => k_is)
    (case z_list => k_is)
    (case z_tuple => k_is)
    (case z_range => k_is)
    (case z_enumerate => k_is)
    (case z_set => k_is)
    (case z_sorted => k_is)
    (case z_any => k_is)
    (case z_all => k_is)
    (case z_ValueError => k_is)
    (case o_gt => k_is)
    (case o_tk => k_is)
    (case a_opponent => k_is)
    (case l_opponent => k_is)
    (case c_opponent => k_is)
    (case k_opponent => k_is)
    (case a_wanting => k_is)
    (case l_wanting => k_is)
    (case c_wanting => k_is)
    (case k_wanting => k_is)
    (case a_solve => k_is)
    (case l_solve => k_is)
    (case c_solve => k_is)
    (case k_solve => k_is)
    (case a__solve_part => k_is)
    (case l__solve_part => k_is)
    (case c__solve_part => k_is)
    (case k__solve_part => k_is)
    (case a__between => k_is)
    (case l__between => k_is)
    (case c__between => k_is)
    (case k__between => k_is)
    (case a__pull => k_is)
    (case l__pull => k_is)
    (case c__pull => k_is)
    (case k__pull => k_is)
    (case a_check_height => k_is)
    (case l_check_height => k_is)
    (case c_check_height => k_is)
    (case k_check_height => k_is)
    (case a_check_count => k_is)
    (case l_check_count => k_is)
    (case c_check_count => k_is)
    (case k_check_count => k_is)
    (case a_check_node => k_is)
    (case l_check_node => k_is)
    (case c_check_node => k_is)
    (case k_check_node => k_is)
    (case a_check_nodes => k_is)
    (case l_check_nodes => k_is)
    (case c_check_nodes => k_is)
    (case k_check_nodes => k_is)
    (case a__check_edges => k_is)
    (case l__check_edges => k_is)
    (case c__check_edges => k_is)
    (case k__check_edges => k_is)
    (case a__check_owners => k_is)
    (case l__check_owners => k_is)
    (case c__check_owners => k_is)
    (case k__check_owners => k_is)
    (case a__check_dead_ends => k_is)
    (case l__check_dead_ends => k_is)
    (case c__check_dead_ends => k_is)
    (case k__check_dead_ends => k_is)
    (case a_paths_from => k_is)
    (case l_paths_from => k_is)
    (case c_paths_from => k_is)
    (case k_paths_from => k_is)
    (case a_path_between => k_is)
    (case l_path_between => k_is)
    (case c_path_between => k_is)
    (case k_path_between => k_is)
    (case a_cycle_with => k_is)
    (case l_cycle_with => k_is)
    (case c_cycle_with => k_is)
    (case k_cycle_with => k_is)
    (case a_judge => k_is)
    (case l_judge => k_is)
    (case c_judge => k_is)
    (case k_judge => k_is)
    (case a_edges_of_plan => k_is)
    (case l_edges_of_plan => k_is)
    (case c_edges_of_plan => k_is)
    (case k_edges_of_plan => k_is)
    (case a_pool => k_is)
    (case l_pool => k_is)
    (case c_pool => k_is)
    (case k_pool => k_is)
    (case a_draw => k_is)
    (case l_draw => k_is)
    (case c_draw => k_is)
    (case k_draw => k_is)
    (case a_levels => k_is)
    (case l_levels => k_is)
    (case c_levels => k_is)
    (case k_levels => k_is)
    (case a_owners => k_is)
    (case l_owners => k_is)
    (case c_owners => k_is)
    (case k_owners => k_is)
    (case a_edges => k_is)
    (case l_edges => k_is)
    (case c_edges => k_is)
    (case k_edges => k_is)
    (case a_row_edges => k_is)
    (case l_row_edges => k_is)
    (case c_row_edges => k_is)
    (case k_row_edges => k_is)
    (case a_game => k_is)
    (case l_game => k_is)
    (case c_game => k_is)
    (case k_game => k_is)
    (case a_number => k_is)
    (case l_number => k_is)
    (case c_number => k_is)
    (case k_number => k_is)
    (case a_same => k_is)
    (case l_same => k_is)
    (case c_same => k_is)
    (case k_same => k_is)
    (case a_is_edge => k_is)
    (case l_is_edge => k_is)
    (case c_is_edge => k_is)
    (case k_is_edge => k_is)
    (case a_gap => k_is)
    (case l_gap => k_is)
    (case c_gap => k_is)
    (case k_gap => k_is)
    (case a_allows => k_is)
    (case l_allows => k_is)
    (case c_allows => k_is)
    (case k_allows => k_is)
    (case a_reaches => k_is)
    (case l_reaches => k_is)
    (case c_reaches => k_is)
    (case k_reaches => k_is)
    (case a_has_cycle => k_is)
    (case l_has_cycle => k_is)
    (case c_has_cycle => k_is)
    (case k_has_cycle => k_is)
    (case a_fits => k_is)
    (case l_fits => k_is)
    (case c_fits => k_is)
    (case k_fits => k_is)
    (case a_climb => k_is)
    (case l_climb => k_is)
    (case c_climb => k_is)
    (case k_climb => k_is)
    (case a_halving => k_is)
    (case l_halving => k_is)
    (case c_halving => k_is)
    (case k_halving => k_is)
    (case a_wins => k_is)
    (case l_wins => k_is)
    (case c_wins => k_is)
    (case k_wins => k_is)
    (case a_any_edges => k_is)
    (case l_any_edges => k_is)
    (case c_any_edges => k_is)
    (case k_any_edges => k_is)
    (case a_any_game => k_is)
    (case l_any_game => k_is)
    (case c_any_game => k_is)
    (case k_any_game => k_is)
    (case a_side_is_won => k_is)
    (case l_side_is_won => k_is)
    (case c_side_is_won => k_is)
    (case k_side_is_won => k_is)
    (case a_solved => k_is)
    (case l_solved => k_is)
    (case c_solved => k_is)
    (case k_solved => k_is)
    (case a_law => k_is)
    (case l_law => k_is)
    (case c_law => k_is)
    (case k_law => k_is)
    (case aC_Web => k_is)
    (case pg_Web => k_is)
    (case hd_Web => k_is)
    (case po_Web => k_is)
    (case sa_Web => k_is)
    (case na_Web_height => k_is)
    (case na_Web_size => k_is)
    (case na_Web_edges => k_is)
    (case mk_Web => k_is)
    (case kc_Web => k_is)
    (case a_W_init => k_is)
    (case i_W_init => k_is)
    (case l_W_init => k_is)
    (case c_W_init => k_is)
    (case k_W_init => k_is)
    (case a_W_out => k_is)
    (case i_W_out => k_is)
    (case l_W_out => k_is)
    (case c_W_out => k_is)
    (case k_W_out => k_is)
    (case cr_Web_MOST_NODES => k_is)
    (case cg_Web_MOST_NODES => k_is)
    (case cf_Web_MOST_NODES => k_is)
    (case cx_Web_MOST_NODES => exact ⟨_, rfl⟩)
    (case cr_Web_MOST_EDGES => k_is)
    (case cg_Web_MOST_EDGES => k_is)
    (case cf_Web_MOST_EDGES => k_is)
    (case cx_Web_MOST_EDGES => exact ⟨_, rfl⟩)
    (case aC_Game => k_is)
    (case pg_Game => k_is)
    (case hd_Game => k_is)
    (case po_Game => k_is)
    (case sa_Game => k_is)
    (case na_Game_height => k_is)
    (case na_Game_size => k_is)
    (case na_Game_edges => k_is)
    (case na_Game_owners => k_is)
    (case mk_Game => k_is)
    (case kc_Game => k_is)
    (case a_G_init => k_is)
    (case i_G_init => k_is)
    (case l_G_init => k_is)
    (case c_G_init => k_is)
    (case k_G_init => k_is)
    (case h_G_init => k_is)
    (case v_G_init => rfl)
    (case p_G_init => first | rfl | decide +kernel)
    (case e_G_init => k_is)
    (case icl_Game => k_is)
    (case a_G_out => k_is)
    (case i_G_out => k_is)
    (case l_G_out => k_is)
    (case c_G_out => k_is)
    (case k_G_out => k_is)
    (case h_G_out => k_is)
    (case v_G_out => rfl)
    (case p_G_out => first | rfl | decide +kernel)
    (case e_G_out => k_is)
    (case sm_Game_init => first | ks_is | kernel_rfl)
    (case st_Game_init => k_is)
    (case sn_Game_init => k_is)
    (case smr_Game => first | k_is | kernel_rfl)
    (case sm_Game_out => first | ks_is | kernel_rfl)
    (case st_Game_out => k_is)
    (case sn_Game_out => k_is)
    (case aN_NoSuchNode => k_is)
    (case x_NoSuchNode => k_is)
    (case r_NoSuchNode => first | rfl | decide +kernel)
    (case sa_NoSuchNode => k_is)
    (case xb_NoSuchNode => k_is)
    (case tc_NoSuchNode => k_is)
    (case kc_NoSuchNode => k_is)
    (case ga_NoSuchNode => k_is)
    (case gg_NoSuchNode => k_is)
    (case ac_NoSuchNode => k_is)
    (case mo_NoSuchNode => k_is)
    (case hd_NoSuchNode => k_is)
    (case ic_NoSuchNode => k_is)
    (case no_NoSuchNode => k_is)
    (case sv_NoSuchNode => k_is)
    (case mr_NoSuchNode => first | k_is | kernel_rfl)
    (case sm_NoSuchNode => first | ks_is | kernel_rfl)
    (case a_NoSuchNode_init => k_is)
    (case t_NoSuchNode_init => k_is)
    (case l_NoSuchNode_init => k_is)
    (case c_NoSuchNode_init => k_is)
    (case h_NoSuchNode_init => k_is)
    (case v_NoSuchNode_init => rfl)
    (case p_NoSuchNode_init => first | rfl | decide +kernel)
    (case e_NoSuchNode_init => k_is)
end
