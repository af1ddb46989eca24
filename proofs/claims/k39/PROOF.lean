import PyProof.Rows.All
import Wide.All
import OpenK.AllK
import Wide.FinOn
import HandS.ForMost
import HandS.IsInst
import HandS.Conv
import HandS.ClsMeth
import HandS.TupAny
import HandS.Walk
import HandS.RevRange
import KE.KExcSuper
import HandS.ForExc
import HandS.ExcInit
import HandS.ExcIs
import HandS.ExcField
import HandS.TryMany
import HandS.FStr
import HandS.ExcSuper
import KE.KExcIs
import KE.GoesEnum
import KE.GoesMore
import KE.DataMinMax
import HandS.SortKw
import HandS.OwnIter
import HandS.IterVal
import HandS.TryOnly
import HandS.SlotsOwn
import HandS.RaiseMore
import HandS.Style
import HandS.TupSets
import HandS.Deep
import HandS.Iter
import HandS.TupMul
import HandS.Text
import HandS.SortInts
import HandS.Zip
import HandS.Dict
import HandS.Small
import OpenK.KMeth
import HandS.Rev
import HandS.Star
import HandS.DictComp
import HandS.SetFor
import KE.DataFind
import HandS.GenList
import HandS.Defaults
import HandS.Ends
import HandS.Head0
import HandS.Head1
import HandS.Head2
import KE.OsRunLaw
import PySem.Challenge.RW_ladderreach_k39_whole_held_exactly_if_to
set_option Elab.async false
set_option maxRecDepth 100000
set_option linter.all false
set_option maxHeartbeats 4000000
namespace LR
open PySem PySem.Spec PyProof.Rows L2
/-! ## defs, methods, classes that keep a promise -/
structure Cal (P : Program) (w : World) (K : PySem.W.Frag) (mg : Str → Option Value) (base : Heap) (k : Nat) (x : Str) (sp : Sp) : Prop where
  ex : ∃ (f : Addr) (fd : FuncData) (ps : List Str), FnOk P w K mg base CX0 k f fd ps sp ∧ mg x = some (.ref f) ∧ PySem.W.keepIn K (.ref f) = true ∧ Binds K fd ps []
structure Met (P : Program) (w : World) (K : PySem.W.Frag) (mg : Str → Option Value) (base : Heap) (k : Nat) (C : Addr) (m : Str) (sp : Sp) : Prop where
  ex : ∃ (f : Addr) (fd : FuncData) (ps : List Str), Cls K C ∧ Meth K C m f ∧ FnOk P w K mg base CX0 k f fd ps sp ∧ Binds K fd ps []
structure Mak (P : Program) (w : World) (K : PySem.W.Frag) (mg : Str → Option Value) (base : Heap) (k : Nat) (x : Str) (C : Addr) (sp : Sp) : Prop where
  ex : ∃ (f : Addr) (fd : FuncData) (ps : List Str), Mk K C f ∧ FnOk P w K mg base CX0 k f fd ps sp ∧ mg x = some (.ref C) ∧ Binds K fd ps []
section
variable {X : Cx} {k j : Nat} {C : Addr} {x m : Str} {sp : Sp} {p pos apos : Pos} {e o : Expr} {es : List Expr} {ta : TE} {t : TA}
theorem pe_c (c : Cal X.prog X.w X.K X.mg X.base k x sp) (hr : Room j X.A) (hk : k ≤ j) (hg : Gl X x) (ha : PA X (e :: es) t)
    (hdb : (x == ("__debug__" : Str)) = false := by decide) (he : starEach (e :: es) X.env = (false, eval e X.env) :: starEach es X.env := by rfl) (hpl : (backTo pos (starEach es X.env)).any (·.1) = false := by rfl) :
    PE X (.Call (.Name x p) (e :: es) [] pos) (tCall sp [] E0 t) := by
  obtain ⟨f, fd, ps, F, hm, kp, b⟩ := c.ex
  exact pe_call F (hr.mono hk) hg hm kp b .nil pass0 ha hdb he hpl
end
structure DefIn (K : PySem.W.Frag) (mg : Str → Option Value) (x : Str) (st : Stmt) (ps : List Str) : Prop where
  ex : ∃ (f : Addr) (fd : FuncData), Fun K x x st f fd ∧ mg x = some (.ref f) ∧ Binds K fd ps []
structure MetIn (K : PySem.W.Frag) (C : Addr) (m qual : Str) (st : Stmt) (ps : List Str) : Prop where
  ex : ∃ (f : Addr) (fd : FuncData), Fun K m qual st f fd ∧ Meth K C m f ∧ Binds K fd ps []
structure MakIn (K : PySem.W.Frag) (mg : Str → Option Value) (x : Str) (C : Addr) (qual : Str) (st : Stmt) (ps : List Str) : Prop where
  ex : ∃ (f : Addr) (fd : FuncData), Fun K "__init__" qual st f fd ∧ Mk K C f ∧ mg x = some (.ref C) ∧ Binds K fd ps []
section
variable {P : Program} {w : World} {K : PySem.W.Frag} {mg : Str → Option Value} {base : Heap}
theorem DefIn.cal {x : Str} {st : Stmt} {N ps : List Str} {k : Nat} {sp : Sp} (D : DefIn K mg x st ps) (S : FnScope N ps (defScope st)) (len : ∀ vs H Q E, sp vs H Q E → vs.length = ps.length)
    (hbody : ∀ (f : Addr) (cdv : Value) (A : Around) (outer : List Env) (s : Shared) (H : Hp) (vs : List V) (Q : VK) (E : XK), Room k (A.deeper (envOfC x (defScope st) s.heap.objs.size f cdv)) → sp vs H Q E →
      ∃ t, PSs (cxOf CX0 P w K mg base N x (defScope st) f cdv A outer s H E).nox (defBody st) t ∧ t { nx := fun _ H' => Q .non H', rt := Q } (start N vs) H) : Cal P w K mg base (k + 1) x sp := by
  obtain ⟨f, fd, F, hm, b⟩ := D.ex
  exact ⟨f, fd, ps, F.ok S len (hbody f), hm, F.kp, b⟩
theorem MetIn.met {C : Addr} {m qual : Str} {st : Stmt} {N ps : List Str} {k : Nat} {sp : Sp} (c : Cls K C) (D : MetIn K C m qual st ps) (S : FnScope N ps (defScope st)) (len : ∀ vs H Q E, sp vs H Q E → vs.length = ps.length)
    (hbody : ∀ (f : Addr) (cdv : Value) (A : Around) (outer : List Env) (s : Shared) (H : Hp) (vs : List V) (Q : VK) (E : XK), Room k (A.deeper (envOfC qual (defScope st) s.heap.objs.size f cdv)) → sp vs H Q E →
      ∃ t, PSs (cxOf CX0 P w K mg base N qual (defScope st) f cdv A outer s H E).nox (defBody st) t ∧ t { nx := fun _ H' => Q .non H', rt := Q } (start N vs) H) : Met P w K mg base (k + 1) C m sp := by
  obtain ⟨f, fd, F, hm, b⟩ := D.ex
  exact ⟨f, fd, ps, c, hm, F.ok S len (hbody f), b⟩
theorem MakIn.mak {C : Addr} {x qual : Str} {st : Stmt} {N ps : List Str} {k : Nat} {sp : Sp} (D : MakIn K mg x C qual st ps) (S : FnScope N ps (defScope st)) (len : ∀ vs H Q E, sp vs H Q E → vs.length = ps.length)
    (hbody : ∀ (f : Addr) (cdv : Value) (A : Around) (outer : List Env) (s : Shared) (H : Hp) (vs : List V) (Q : VK) (E : XK), Room k (A.deeper (envOfC qual (defScope st) s.heap.objs.size f cdv)) → sp vs H Q E →
      ∃ t, PSs (cxOf CX0 P w K mg base N qual (defScope st) f cdv A outer s H E).nox (defBody st) t ∧ t { nx := fun _ H' => Q .non H', rt := Q } (start N vs) H) : Mak P w K mg base (k + 1) x C sp := by
  obtain ⟨f, fd, F, M, hm, b⟩ := D.ex
  exact ⟨f, fd, ps, M, F.ok S len (hbody f), hm, b⟩
end
theorem Cal.mono {P w K mg base j k x sp} (c : Cal P w K mg base j x sp) (h : j ≤ k) : Cal P w K mg base k x sp := by
  obtain ⟨f, fd, ps, F, r⟩ := c.ex
  exact ⟨f, fd, ps, F.mono h, r⟩
theorem Cal.imp {P w K mg base k x sp sp'} (c : Cal P w K mg base k x sp) (h : ∀ vs H Q E, sp' vs H Q E → sp vs H Q E) : Cal P w K mg base k x sp' := by
  obtain ⟨f, fd, ps, F, r⟩ := c.ex
  exact ⟨f, fd, ps, F.imp h, r⟩
/-! ## what the built-in names stand for -/
theorem b_len : bootBuiltins "len" = some (.builtin "len") := by decide +kernel
theorem b_abs : bootBuiltins "abs" = some (.builtin "abs") := by decide +kernel
theorem b_max : bootBuiltins "max" = some (.builtin "max") := by decide +kernel
theorem b_min : bootBuiltins "min" = some (.builtin "min") := by decide +kernel
theorem b_isinstance : bootBuiltins "isinstance" = some (.builtin "isinstance") := by decide +kernel
theorem b_int : bootBuiltins "int" = some (.type "int") := by decide +kernel
theorem b_bool : bootBuiltins "bool" = some (.type "bool") := by decide +kernel
theorem b_str : bootBuiltins "str" = some (.type "str") := by decide +kernel
theorem b_list : bootBuiltins "list" = some (.type "list") := by decide +kernel
theorem b_tuple : bootBuiltins "tuple" = some (.type "tuple") := by decide +kernel
/-! ## heaps -/
/-- all that was tracked stands, but for what is at p -/
def Keep (p : Addr) (H H' : Hp) : Prop := ∀ b, b ≠ p → ∀ o, H b = some o → H' b = some o
theorem Keep.refl {p H} : Keep p H H := fun _ _ _ h => h
theorem Keep.trans {p H H1 H2} (a : Keep p H H1) (b : Keep p H1 H2) : Keep p H H2 := fun c n o h => b c n o (a c n o h)
theorem Keep.upd {p H H' o} (a : Keep p H H') : Keep p H (upd H' p o) := fun c n u h => by rw [upd_ne n]; exact a c n u h
theorem Keep.new {p H H' q o} (a : Keep p H H') (h : H' q = none) : Keep p H (L2.upd H' q o) := fun c n u h1 => by
  rw [upd_ne (ne_of_none (a c n u h1) h)]; exact a c n u h1
theorem Keep.same {p H H' H2} (a : Keep p H H') (b : Same H' H2) : Keep p H H2 := fun c n o h => b c o (a c n o h)
theorem _root_.L2.Same.keep {p H H'} (a : Same H H') : Keep p H H' := fun c _ o h => a c o h
theorem same_new {H q o} (h : H q = none) : Same H (upd H q o) := fun c u h1 => by rw [upd_ne (ne_of_none h1 h)]; exact h1
theorem _root_.L2.Same.new {H H' q o} (a : Same H H') (h : H' q = none) : Same H (upd H' q o) := a.trans (same_new h)
theorem Keep.seq {p a : Addr} {K H H' xs} (k : Keep p H H') (h : SqL K H a xs) (n : a ≠ p) : SqL K H' a xs := by
  rcases h with (h | ⟨o, h⟩) | h
  · exact .inl (.inl (k _ n _ h))
  · exact .inl (.inr ⟨o, k _ n _ h⟩)
  · exact .inr h
theorem Keep.seqT {p a : Addr} {K H H' xs} (k : Keep p H H') (h : SqT K H a xs) (n : a ≠ p) : SqT K H' a xs := by
  rcases h with (h | ⟨o, h⟩) | h
  · exact .inl (.inl (k _ n _ h))
  · exact .inl (.inr ⟨o, k _ n _ h⟩)
  · exact .inr h
theorem _root_.L2.Same.seqT {K H H' a xs} (e : Same H H') (h : SqT K H a xs) : SqT K H' a xs := by
  rcases h with (h | ⟨o, h⟩) | h
  · exact .inl (.inl (e _ _ h))
  · exact .inl (.inr ⟨o, e _ _ h⟩)
  · exact .inr h
/-- a pool of the law: a list of four ints -/
def IsPool (H : Hp) (p : Addr) : Prop := ∃ a b c d : Int, H p = some (.lst [.int a, .int b, .int c, .int d])
theorem IsPool.ne {H p b o} (h : IsPool H p) (hb : H b = some o) (ho : ∀ l, o ≠ .lst l) : b ≠ p := by
  obtain ⟨_, _, _, _, h⟩ := h
  exact ne_of hb h (ho _)
theorem IsPool.same {H H' p} (s : Same H H') (h : IsPool H p) : IsPool H' p := by
  obtain ⟨a, b, c, d, h⟩ := h; exact ⟨a, b, c, d, s _ _ h⟩
theorem IsPool.upd {H p a b c d} : IsPool (upd H p (.lst [.int a, .int b, .int c, .int d])) p := ⟨a, b, c, d, upd_same⟩
theorem Keep.free {p q H H'} (k : Keep p H H') (n : q ≠ p) (h : H' q = none) : H q = none := by
  cases e : H q with
  | none => rfl
  | some o => rw [k q n o e] at h; cases h
theorem IsPool.some {H p} (h : IsPool H p) : ∃ l, H p = some (.lst l) := by
  obtain ⟨_, _, _, _, h⟩ := h; exact ⟨_, h⟩
theorem IsPool.free {H p q} (h : IsPool H p) (hq : H q = none) : q ≠ p := by
  obtain ⟨_, _, _, _, h⟩ := h
  exact (ne_of_none h hq).symm
def spLaw (K : PySem.W.Frag) : Sp := fun vs H Q _ => ∃ (a : Addr) (ns : List Int), vs = [.ref a] ∧ SqL K H a (ns.map V.int) ∧ ∀ H', Q (.bl true) H'
theorem seq_after {K : PySem.W.Frag} {H H' : Hp} {a p : Addr} {xs : List V} (h : SqL K H a xs) (hp : H p = none) (k : Keep p H H') : SqL K H' a xs := by
  rcases h with (h | ⟨o, h⟩) | h
  · exact .inl (.inl (k _ (ne_of_none h hp) _ h))
  · exact .inl (.inr ⟨o, k _ (ne_of_none h hp) _ h⟩)
  · exact .inr h
theorem map_get {ls : List Int} {i : Nat} {x : V} (h : (ls.map V.int)[i]? = some x) : ∃ l, ls[i]? = some l ∧ x = .int l := by
  rw [List.getElem?_map] at h
  obtain ⟨l, el, e⟩ := Option.map_eq_some_iff.mp h
  exact ⟨l, el, e.symm⟩
/-- a statement, then the rest, with a word between them -/
def tCut (t u : TS) : TS := fun D σ H => ∃ Mid : L2.St → Hp → Prop, t { D with nx := Mid } σ H ∧ ∀ σ' H', Mid σ' H' → u D σ' H'
theorem pss_cut {X : Cx} {st : Stmt} {rest : List Stmt} {t u : TS} (h1 : PS X st t) (h2 : PSs X rest u) : PSs X (st :: rest) (tCut t u) := by
  refine ⟨fun pins s σ H D I h => ?_⟩
  obtain ⟨Mid, hm, hu⟩ := h
  refine wpAny_execs_cons (thn (h1.run pins s σ H { D with nx := Mid } I hm) fun f s1 q => ?_)
  cases f with
  | next =>
    obtain ⟨σ', H', I', q⟩ := q
    exact h2.run pins s1 σ' H' D I' (hu σ' H' q)
  | ret v => exact q
  | brk => exact q
  | cont => exact q
theorem lc_yes {Q : Bool → Hp → Prop} {σ : L2.St} {H : Hp} (h : Q true H) : tYes σ H Q := h
theorem ite_b {c : Bool} {A B : Prop} (h1 : c = true → A) (h2 : c = false → B) : if c = true then A else B := by
  cases c with
  | true => exact h1 rfl
  | false => exact iteF (h2 rfl)
end LR
set_option Elab.async false
set_option maxRecDepth 100000
set_option linter.all false
set_option maxHeartbeats 4000000
namespace LR
open PySem PySem.Spec PyProof.Rows L2
/-! ## data of the law, as they lie in the heap -/
inductive Dt where
  | non | bl (b : Bool) | int (i : Int) | str (x : Str) | lst (l : List Dt) | tup (l : List Dt)
mutual
inductive At (H : Hp) : V → Dt → Prop
  | non : At H .non .non
  | bl (b : Bool) : At H (.bl b) (.bl b)
  | int (i : Int) : At H (.int i) (.int i)
  | str (x : Str) : At H (.str x) (.str x)
  | lst {p : Addr} {xs : List V} {ds : List Dt} (h : H p = some (.lst xs)) (a : Ats H xs ds) (z : xs.length ≤ 100000) : At H (.ref p) (.lst ds)
  | tup {p : Addr} {xs : List V} {ds : List Dt} (h : H p = some (.tup xs)) (a : Ats H xs ds) (z : xs.length ≤ 100000) : At H (.ref p) (.tup ds)
inductive Ats (H : Hp) : List V → List Dt → Prop
  | nil : Ats H [] []
  | cons {x : V} {d : Dt} {xs : List V} {ds : List Dt} (h : At H x d) (t : Ats H xs ds) : Ats H (x :: xs) (d :: ds)
end
mutual
def dep : Dt → Nat
  | .lst l => deps l + 1
  | .tup l => deps l + 1
  | _ => 0
def deps : List Dt → Nat
  | [] => 0
  | d :: r => max (dep d) (deps r)
end
theorem deps_mem {d : Dt} : ∀ {l : List Dt}, d ∈ l → dep d ≤ deps l
  | e :: r, h => by
    rw [deps]
    rcases List.mem_cons.mp h with rfl | h
    · exact Nat.le_max_left _ _
    · exact Nat.le_trans (deps_mem h) (Nat.le_max_right _ _)
theorem Ats.length {H : Hp} {xs ds} (h : Ats H xs ds) : xs.length = ds.length := by
  revert ds; induction xs with
  | nil => intro ds h; cases h; rfl
  | cons x xs ih => intro ds h; cases h with | cons a t => rw [List.length_cons, List.length_cons, ih t]
theorem Ats.get {H : Hp} : ∀ {xs ds} (h : Ats H xs ds) {i : Nat} {x : V}, xs[i]? = some x → ∃ d, ds[i]? = some d ∧ At H x d := by
  intro xs; induction xs with
  | nil => intro ds h i x e; simp at e
  | cons y xs ih => 
    intro ds h i x e
    cases h with
    | cons a t =>
      cases i with
      | zero => exact ⟨_, rfl, by simp at e; subst e; exact a⟩
      | succ i => exact ih t (by simpa using e)
theorem Ats.getD {H : Hp} {xs ds} (h : Ats H xs ds) {i : Nat} {d : Dt} (e : ds[i]? = some d) : ∃ x, xs[i]? = some x ∧ At H x d := by
  have hl := h.length
  have hi : i < xs.length := by rw [hl]; exact (List.getElem?_eq_some_iff.mp e).1
  obtain ⟨d', e', a⟩ := h.get (List.getElem?_eq_getElem hi)
  rw [e] at e'; cases e'
  exact ⟨_, List.getElem?_eq_getElem hi, a⟩
theorem ats_ints (H : Hp) : ∀ l : List Int, Ats H (l.map V.int) (l.map Dt.int)
  | [] => .nil
  | i :: r => .cons (.int i) (ats_ints H r)
mutual
theorem At.same {H H' : Hp} (s : Same H H') : ∀ {x d}, At H x d → At H' x d
  | _, _, .non => .non
  | _, _, .bl b => .bl b
  | _, _, .int i => .int i
  | _, _, .str x => .str x
  | _, _, .lst h a z => .lst (s _ _ h) (a.same s) z
  | _, _, .tup h a z => .tup (s _ _ h) (a.same s) z
theorem Ats.same {H H' : Hp} (s : Same H H') : ∀ {xs ds}, Ats H xs ds → Ats H' xs ds
  | _, _, .nil => .nil
  | _, _, .cons h t => .cons (h.same s) (t.same s)
end
def ty : Dt → String
  | .non => "NoneType" | .bl _ => "bool" | .int _ => "int" | .str _ => "str" | .lst _ => "list" | .tup _ => "tuple"
def isL : Dt → Bool | .lst _ => true | _ => false
def isU : Dt → Bool | .tup _ => true | _ => false
def isB : Dt → Bool | .bl _ => true | _ => false
def isI : Dt → Bool | .int _ => true | .bl _ => true | _ => false
def isN : Dt → Bool | .int _ => true | _ => false
def isS : Dt → Bool | .str _ => true | _ => false
theorem At.tyX {K H x d} (h : At H x d) : TyX K H x (.type (ty d)) := by
  cases h with
  | non => exact .base .non
  | bl b => exact .base (.bl b)
  | int i => exact .base (.int i)
  | str x => exact .base (.str x)
  | lst h _ _ => exact .base (.lst h)
  | tup h _ _ => exact .base (.tup h)
theorem kitL (d : Dt) : kitB (ty d) "list" = some (isL d) := by
  cases d with
  | non => exact (by decide +kernel : kitB "NoneType" "list" = some false)
  | bl b => exact (by decide +kernel : kitB "bool" "list" = some false)
  | int i => exact (by decide +kernel : kitB "int" "list" = some false)
  | str x => exact (by decide +kernel : kitB "str" "list" = some false)
  | lst l => exact (by decide +kernel : kitB "list" "list" = some true)
  | tup l => exact (by decide +kernel : kitB "tuple" "list" = some false)
theorem kitU (d : Dt) : kitB (ty d) "tuple" = some (isU d) := by
  cases d with
  | non => exact (by decide +kernel : kitB "NoneType" "tuple" = some false)
  | bl b => exact (by decide +kernel : kitB "bool" "tuple" = some false)
  | int i => exact (by decide +kernel : kitB "int" "tuple" = some false)
  | str x => exact (by decide +kernel : kitB "str" "tuple" = some false)
  | lst l => exact (by decide +kernel : kitB "list" "tuple" = some false)
  | tup l => exact (by decide +kernel : kitB "tuple" "tuple" = some true)
theorem kitBo (d : Dt) : kitB (ty d) "bool" = some (isB d) := by
  cases d with
  | non => exact (by decide +kernel : kitB "NoneType" "bool" = some false)
  | bl b => exact (by decide +kernel : kitB "bool" "bool" = some true)
  | int i => exact (by decide +kernel : kitB "int" "bool" = some false)
  | str x => exact (by decide +kernel : kitB "str" "bool" = some false)
  | lst l => exact (by decide +kernel : kitB "list" "bool" = some false)
  | tup l => exact (by decide +kernel : kitB "tuple" "bool" = some false)
theorem kitI (d : Dt) : kitB (ty d) "int" = some (isI d) := by
  cases d with
  | non => exact (by decide +kernel : kitB "NoneType" "int" = some false)
  | bl b => exact (by decide +kernel : kitB "bool" "int" = some true)
  | int i => exact (by decide +kernel : kitB "int" "int" = some true)
  | str x => exact (by decide +kernel : kitB "str" "int" = some false)
  | lst l => exact (by decide +kernel : kitB "list" "int" = some false)
  | tup l => exact (by decide +kernel : kitB "tuple" "int" = some false)
theorem kitS (d : Dt) : kitB (ty d) "str" = some (isS d) := by
  cases d with
  | non => exact (by decide +kernel : kitB "NoneType" "str" = some false)
  | bl b => exact (by decide +kernel : kitB "bool" "str" = some false)
  | int i => exact (by decide +kernel : kitB "int" "str" = some false)
  | str x => exact (by decide +kernel : kitB "str" "str" = some true)
  | lst l => exact (by decide +kernel : kitB "list" "str" = some false)
  | tup l => exact (by decide +kernel : kitB "tuple" "str" = some false)
end LR
set_option Elab.async false
set_option maxRecDepth 100000
set_option linter.all false
set_option maxHeartbeats 4000000
namespace LR
open PySem PySem.Spec PyProof.Rows L2
/-! ## the mathematics of a ladder -/
def cnt (lv : Int) (l : List Int) : Int := ((l.filter (fun x => decide (lv ≤ x))).length : Int)
/-- levels of at least lv below step i -/
def cn (ls : List Int) (lv : Int) (i : Nat) : Int := cnt lv (ls.take i)
def cnL (ls : List Int) (lv : Int) (n : Nat) : List V := (List.range n).map fun i => V.int (cn ls lv i)
theorem cnL_length {ls lv n} : (cnL ls lv n).length = n := by unfold cnL; rw [List.length_map, List.length_range]
theorem cnL_succ {ls lv n} : cnL ls lv (n + 1) = cnL ls lv n ++ [V.int (cn ls lv n)] := by
  unfold cnL; rw [List.range_succ, List.map_append]; rfl
theorem cn_succ {ls : List Int} {lv : Int} {i : Nat} {z : Int} (h : ls[i]? = some z) : cn ls lv (i + 1) = cn ls lv i + (if lv ≤ z then 1 else 0) := by
  unfold cn cnt
  rw [List.take_succ, h, List.filter_append, List.length_append]
  simp only [Option.toList]
  by_cases c : lv ≤ z
  · simp [c]
  · simp [c]
def lfs (h : Int) (tl : Addr) (n : Int) (tc : Addr) : List (Str × V) := [("height", .int h), ("levels", .ref tl), ("top", .int n), ("_counts", .ref tc)]
/-- what lies in the heap of the tuple of counts -/
def Counts (H : Hp) (ls : List Int) (tc : Addr) (h : Int) : Prop := ∃ cs : List Addr, H tc = some (.tup (cs.map V.ref)) ∧ cs.length = (h + 1).toNat ∧ ∀ (j : Nat) (a : Addr), cs[j]? = some a → H a = some (.tup (cnL ls (j + 1) (ls.length + 1)))
/-- a ladder of height h and row ls stands at x -/
def LadderAt (C : Addr) (H : Hp) (x : Addr) (h : Int) (ls : List Int) : Prop := ∃ dx tl tc, H x = some (.ins C dx (lfs h tl ls.length tc)) ∧ H tl = some (.tup (ls.map V.int)) ∧ Counts H ls tc h
theorem LadderAt.same {C H H' x h ls} (s : Same H H') (a : LadderAt C H x h ls) : LadderAt C H' x h ls := by
  obtain ⟨dx, tl, tc, h1, h2, cs, h3, h4, h5⟩ := a
  exact ⟨dx, tl, tc, s _ _ h1, s _ _ h2, cs, s _ _ h3, h4, fun j a e => s _ _ (h5 j a e)⟩
theorem LadderAt.keep {C H H' x h ls p} (s : Keep p H H') (hp : ∃ l, H p = some (.lst l)) (a : LadderAt C H x h ls) : LadderAt C H' x h ls := by
  obtain ⟨l, hp⟩ := hp
  obtain ⟨dx, tl, tc, h1, h2, cs, h3, h4, h5⟩ := a
  have k : ∀ b o, H b = some o → (∀ l, o ≠ .lst l) → H' b = some o := fun b o e n => s _ (ne_of e hp (n _)) _ e
  exact ⟨dx, tl, tc, k _ _ h1 (fun l z => by cases z), k _ _ h2 (fun l z => by cases z), cs, k _ _ h3 (fun l z => by cases z), h4, fun j a e => k _ _ (h5 j a e) (fun l z => by cases z)⟩
/-- what the ladder answers: an edge of rank p from u to w -/
def alw (ls : List Int) (u p w : Int) : Bool := if p % 2 = 0 then decide (cn ls (p / 2 + 1) w.toNat ≤ cn ls (p / 2 + 1) u.toNat) else decide (cn ls (p / 2 + 1) w.toNat < cn ls (p / 2 + 1) u.toNat)
/-! ## the mathematics of allowed edges -/
theorem cn_le_succ (ls : List Int) (lv : Int) (i : Nat) : cn ls lv i ≤ cn ls lv (i + 1) := by
  cases h : ls[i]? with
  | none =>
    have hl : ls.length ≤ i := List.getElem?_eq_none_iff.mp h
    unfold cn
    rw [List.take_of_length_le hl, List.take_of_length_le (by omega)]
    exact Int.le_refl _
  | some z =>
    rw [cn_succ h]
    split <;> omega
theorem cn_mono (ls : List Int) (lv : Int) {i k : Nat} (h : i ≤ k) : cn ls lv i ≤ cn ls lv k := by
  induction h with
  | refl => exact Int.le_refl _
  | step _ ih => exact Int.le_trans ih (cn_le_succ _ _ _)
/-- equal counts: no level of at least lv between -/
theorem cn_eq (ls : List Int) (lv : Int) {i k : Nat} (h : i ≤ k) : cn ls lv k ≤ cn ls lv i ↔ ∀ (m : Nat) (z : Int), i ≤ m → m < k → ls[m]? = some z → z < lv := by
  induction h with
  | refl => exact ⟨fun _ m z a b => by omega, fun _ => Int.le_refl _⟩
  | @step k hk ih =>
    have m1 := cn_mono ls lv hk
    have m2 := cn_le_succ ls lv k
    show cn ls lv (k + 1) ≤ cn ls lv i ↔ ∀ (m : Nat) (z : Int), i ≤ m → m < k + 1 → ls[m]? = some z → z < lv
    constructor
    · intro c m z a b e
      by_cases q : m < k
      · exact ih.mp (by omega) m z a q e
      · have : m = k := by omega
        subst this
        have e2 := cn_succ (lv := lv) e
        by_cases q2 : lv ≤ z
        · rw [if_pos q2] at e2; omega
        · omega
    · intro c
      have c1 := ih.mpr fun m z a b e => c m z a (by omega) e
      cases e : ls[k]? with
      | none =>
        have hl : ls.length ≤ k := List.getElem?_eq_none_iff.mp e
        have : cn ls lv (k + 1) = cn ls lv k := by
          unfold cn
          rw [List.take_of_length_le hl, List.take_of_length_le (by omega)]
        omega
      | some z =>
        have e2 := cn_succ (lv := lv) e
        have := c k z hk (by omega) e
        rw [if_neg (by omega)] at e2
        omega
theorem alw_step {ls : List Int} {u p v : Int} : alw ls u p v = true ↔ (p % 2 = 0 → cn ls (p / 2 + 1) v.toNat ≤ cn ls (p / 2 + 1) u.toNat) ∧ (¬ p % 2 = 0 → cn ls (p / 2 + 1) v.toNat < cn ls (p / 2 + 1) u.toNat) := by
  unfold alw
  split
  · rename_i c; exact ⟨fun h => ⟨fun _ => of_decide_eq_true h, fun q => absurd c q⟩, fun h => decide_eq_true (h.1 c)⟩
  · rename_i c; exact ⟨fun h => ⟨fun q => absurd q c, fun _ => of_decide_eq_true h⟩, fun h => decide_eq_true (h.2 c)⟩
/-- g is the greatest level from place lo to hi, 0 if there is none -/
def IsGap (ls : List Int) (lo hi : Nat) (g : Int) : Prop := 0 ≤ g ∧ (∀ (m : Nat) (z : Int), lo ≤ m → m < hi → ls[m]? = some z → z ≤ g) ∧ (g = 0 ∨ ∃ m : Nat, lo ≤ m ∧ m < hi ∧ ls[m]? = some g)
theorem IsGap.le {ls : List Int} {lo hi : Nat} {g j : Int} (h : IsGap ls lo hi g) (hj : 0 ≤ j) : g ≤ j ↔ ∀ (m : Nat) (z : Int), lo ≤ m → m < hi → ls[m]? = some z → z < j + 1 := by
  constructor
  · intro c m z a b e
    have := h.2.1 m z a b e
    omega
  · intro c
    rcases h.2.2 with e | ⟨m, a, b, e⟩
    · omega
    · have := c m g a b e
      omega
/-- what the law says of an edge is what the ladder answers -/
theorem alw_gap {ls : List Int} {u p v g : Int} (hu : 0 ≤ u) (hv : 0 ≤ v) (hp : 0 ≤ p) (h : IsGap ls (min u.toNat v.toNat) (max u.toNat v.toNat) g) :
    alw ls u p v = if p % 2 = 0 then (decide (v ≤ u) || decide (2 * g ≤ p)) else (decide (v < u) && decide (p < 2 * g)) := by
  rw [Bool.eq_iff_iff, alw_step]
  by_cases c : v ≤ u
  · have e1 : min u.toNat v.toNat = v.toNat := by omega
    have e2 : max u.toNat v.toNat = u.toNat := by omega
    rw [e1, e2] at h
    have m1 := cn_mono ls (p / 2 + 1) (show v.toNat ≤ u.toNat by omega)
    have k := cn_eq ls (p / 2 + 1) (show v.toNat ≤ u.toNat by omega)
    rw [← h.le (by omega)] at k
    split
    · rename_i e
      simp only [decide_eq_true c, Bool.true_or]
      exact ⟨fun _ => trivial, fun _ => ⟨fun _ => m1, fun q => absurd e q⟩⟩
    · rename_i e
      rw [Bool.and_eq_true, decide_eq_true_eq, decide_eq_true_eq]
      constructor
      · intro q
        have q := q.2 e
        have hg : ¬ g ≤ p / 2 := fun z => by have := k.mpr z; omega
        refine ⟨?_, by omega⟩
        rcases Int.lt_or_eq_of_le c with z | z
        · exact z
        · subst z; omega
      · intro ⟨q1, q2⟩
        have hg : ¬ g ≤ p / 2 := by omega
        refine ⟨fun z => absurd z e, fun _ => ?_⟩
        have : ¬ cn ls (p / 2 + 1) u.toNat ≤ cn ls (p / 2 + 1) v.toNat := fun z => hg (k.mp z)
        omega
  · have e1 : min u.toNat v.toNat = u.toNat := by omega
    have e2 : max u.toNat v.toNat = v.toNat := by omega
    rw [e1, e2] at h
    have m1 := cn_mono ls (p / 2 + 1) (show u.toNat ≤ v.toNat by omega)
    have k := cn_eq ls (p / 2 + 1) (show u.toNat ≤ v.toNat by omega)
    rw [← h.le (by omega)] at k
    split
    · rename_i e
      simp only [decide_eq_false c, Bool.false_or, decide_eq_true_eq]
      exact ⟨fun q => by have := k.mp (q.1 e); omega, fun q => ⟨fun _ => k.mpr (by omega), fun z => absurd e z⟩⟩
    · rename_i e
      have c2 : ¬ v < u := by omega
      simp only [decide_eq_false c2, Bool.false_and]
      exact ⟨fun q => by have := q.2 e; omega, fun q => by cases q⟩
end LR
set_option Elab.async false
set_option maxRecDepth 100000
set_option linter.all false
set_option maxHeartbeats 4000000
namespace LR
open PySem PySem.Spec PyProof.Rows L2
def oD : Option Int → Dt
  | none => .non
  | some k => .int k
/-- o is the least step from which rank p is allowed to w -/
def LeastIs (ls : List Int) (p w : Int) (o : Option Int) : Prop := (∀ k, o = some k → 0 ≤ k ∧ k ≤ ls.length) ∧ ∀ u : Int, 0 ≤ u → u ≤ ls.length → (alw ls u p w = true ↔ ∃ k, o = some k ∧ k ≤ u)
def GreatestIs (ls : List Int) (u p : Int) (o : Option Int) : Prop := (∀ k, o = some k → 0 ≤ k ∧ k ≤ ls.length) ∧ ∀ w : Int, 0 ≤ w → w ≤ ls.length → (alw ls u p w = true ↔ ∃ k, o = some k ∧ w ≤ k)
theorem LeastIs.one {ls p w o o'} (a : LeastIs ls p w o) (b : LeastIs ls p w o') : o = o' := by
  have key : ∀ {x y : Option Int}, LeastIs ls p w x → LeastIs ls p w y → ∀ k, x = some k → ∃ j, y = some j ∧ j ≤ k := fun a b k e => by
    obtain ⟨k0, k1⟩ := a.1 k e
    exact (b.2 k k0 k1).mp ((a.2 k k0 k1).mpr ⟨k, e, Int.le_refl _⟩)
  cases o with
  | none => cases o' with
    | none => rfl
    | some k => obtain ⟨j, e, _⟩ := key b a k rfl; cases e
  | some k => 
    obtain ⟨j, e, h⟩ := key a b k rfl
    subst e
    obtain ⟨i, e, h2⟩ := key b a j rfl
    cases e
    rw [Int.le_antisymm h h2]
theorem GreatestIs.one {ls u p o o'} (a : GreatestIs ls u p o) (b : GreatestIs ls u p o') : o = o' := by
  have key : ∀ {x y : Option Int}, GreatestIs ls u p x → GreatestIs ls u p y → ∀ k, x = some k → ∃ j, y = some j ∧ k ≤ j := fun a b k e => by
    obtain ⟨k0, k1⟩ := a.1 k e
    exact (b.2 k k0 k1).mp ((a.2 k k0 k1).mpr ⟨k, e, Int.le_refl _⟩)
  cases o with
  | none => cases o' with
    | none => rfl
    | some k => obtain ⟨j, e, _⟩ := key b a k rfl; cases e
  | some k =>
    obtain ⟨j, e, h⟩ := key a b k rfl
    subst e
    obtain ⟨i, e, h2⟩ := key b a j rfl
    cases e
    rw [Int.le_antisymm h h2]
/-- what is allowed, level by level -/
theorem alw_lv {ls : List Int} {u p w : Int} (hu : 0 ≤ u) (hw : 0 ≤ w) : alw ls u p w = true ↔
    if p % 2 = 0 then w ≤ u ∨ ∀ (m : Nat) (z : Int), u ≤ m → (m : Int) < w → ls[m]? = some z → z < p / 2 + 1
    else w < u ∧ ∃ (m : Nat) (z : Int), w ≤ m ∧ (m : Int) < u ∧ ls[m]? = some z ∧ p / 2 + 1 ≤ z := by
  rw [alw_step]
  split
  · rename_i e
    by_cases c : w ≤ u
    · exact ⟨fun _ => .inl c, fun _ => ⟨fun _ => cn_mono _ _ (by omega), fun q => absurd e q⟩⟩
    · have k := cn_eq ls (p / 2 + 1) (show u.toNat ≤ w.toNat by omega)
      constructor
      · intro h
        exact .inr fun m z a b e2 => k.mp (h.1 e) m z (by omega) (by omega) e2
      · rintro (h | h)
        · exact absurd h c
        · exact ⟨fun _ => k.mpr fun m z a b e2 => h m z (by omega) (by omega) e2, fun q => absurd e q⟩
  · rename_i e
    by_cases c : w < u
    · have k := cn_eq ls (p / 2 + 1) (show w.toNat ≤ u.toNat by omega)
      constructor
      · intro h
        refine ⟨c, Classical.byContradiction fun q => ?_⟩
        have : cn ls (p / 2 + 1) u.toNat ≤ cn ls (p / 2 + 1) w.toNat := k.mpr fun m z a b e2 => by
          apply Classical.byContradiction
          intro q2
          exact q ⟨m, z, by omega, by omega, e2, by omega⟩
        have := h.2 e
        omega
      · rintro ⟨_, m, z, a, b, e2, h⟩
        refine ⟨fun q => absurd q e, fun _ => ?_⟩
        have : ¬ cn ls (p / 2 + 1) u.toNat ≤ cn ls (p / 2 + 1) w.toNat := fun q => by
          have := k.mp q m z (by omega) (by omega) e2
          omega
        omega
    · have := cn_mono ls (p / 2 + 1) (show u.toNat ≤ w.toNat by omega)
      exact ⟨fun h => by have := h.2 e; omega, fun h => absurd h.1 c⟩
theorem alw_down {ls : List Int} {u p w w' : Int} (h : alw ls u p w = true) (le : w' ≤ w) : alw ls u p w' = true := by
  have m := cn_mono ls (p / 2 + 1) (show w'.toNat ≤ w.toNat by omega)
  rw [alw_step] at h ⊢
  exact ⟨fun e => Int.le_trans m (h.1 e), fun e => Int.lt_of_le_of_lt m (h.2 e)⟩
end LR
set_option Elab.async false
set_option maxRecDepth 100000
set_option linter.all false
set_option maxHeartbeats 4000000
namespace LR
open PySem PySem.Spec PyProof.Rows L2
/-! ## defs that say super(): the cell __class__ stands in the written part -/
structure CScope (N P : List Str) (sc : Scope) : Prop where
  kind : sc.kind = .function
  co : sc.isCoroutine = false
  gen : sc.isGenerator = false
  nd : N.Nodup
  pre : N.take P.length = P
  par : ∀ x ∈ P, sc.names.lookup x = some .local
  nocell : ∀ y ∈ sc.names, y.2 ≠ .cell
  free : ∀ y ∈ sc.names, y.2 = .free → y.1 = "__class__"
def cxC (CX : CXT) (P : Program) (w : World) (K : PySem.W.Frag) (mg : Str → Option Value) (base : Heap) (N : List Str) (qual : Str) (scope : Scope) (f : Addr) (cd : Value) (cc : Addr) (A : Around) (outer : List Env) (s : Shared) (H : Hp) (E : XK) : Cx where
  prog := P
  w := w
  K := K
  mg := mg
  base := base
  A := A.deeper (PySem.W.ksEnv qual scope s.heap.objs.size f cd cc)
  N := N
  s_0 := s
  H_0 := H
  env := PySem.W.ksEnv qual scope s.heap.objs.size f cd cc
  outer := outer
  stack := PySem.W.ksEnv qual scope s.heap.objs.size f cd cc :: outer
  ex := []
  calm := true
  fn := fun _ => false
  pn := []
  xe := fun e s' => wpAny (model P w) (A.deeper (PySem.W.ksEnv qual scope s.heap.objs.size f cd cc)) (leaving (PySem.W.ksEnv qual scope s.heap.objs.size f cd cc) e) (fun _ s'' => CX outer H s E e s'') (fun e' s'' => CX outer H s E e' s'') s'
/-! ### statements at the def's own node -/
structure NE (X : Cx) (body : List Stmt) (e : Expr) (t : TE) : Prop where
  run : ∀ (pins : List (Addr × Obj)) (s : Shared) (σ : L2.St) (H : Hp) (Q : VK), Inv X pins σ H s → t σ H Q → PySem.wpAt (model X.prog X.w) X.A (.func body X.env) (eval e X.env) (EP X pins σ Q) X.xe s
structure NS (X : Cx) (body : List Stmt) (st : Stmt) (t : TS) : Prop where
  run : ∀ (pins : List (Addr × Obj)) (s : Shared) (σ : L2.St) (H : Hp) (D : Ends), Inv X pins σ H s → t D σ H → PySem.wpAt (model X.prog X.w) X.A (.func body X.env) (exec st X.env) (SP X pins D) X.xe s
structure NSs (X : Cx) (body : List Stmt) (st : List Stmt) (t : TS) : Prop where
  run : ∀ (pins : List (Addr × Obj)) (s : Shared) (σ : L2.St) (H : Hp) (D : Ends), Inv X pins σ H s → t D σ H → PySem.wpAt (model X.prog X.w) X.A (.func body X.env) (execs st X.env) (SP X pins D) X.xe s
section
variable {X : Cx} {body : List Stmt} {st : Stmt} {rest : List Stmt} {t u : TS} {e : Expr} {te : TE} {pos : Pos}
theorem nss_ps (h : PSs X rest t) : NSs X body rest t := ⟨fun pins s σ H D I q => wpAt_of_wpAny (h.run pins s σ H D I q)⟩
theorem ns_ps (h : PS X st t) : NS X body st t := ⟨fun pins s σ H D I q => wpAt_of_wpAny (h.run pins s σ H D I q)⟩
theorem nss_cons (h1 : NS X body st t) (h2 : NSs X body rest u) : NSs X body (st :: rest) (tSeq t u) := by
  refine ⟨fun pins s σ H D I h => ?_⟩
  refine PySem.ks_wpAt_execs_cons (PySem.ks_wpAt_mono (h1.run pins s σ H { D with nx := u D } I h) (fun f s1 q => ?_) fun _ _ z => z)
  cases f with
  | next =>
    obtain ⟨σ', H', I', q⟩ := q
    exact h2.run pins s1 σ' H' D I' q
  | ret v => exact q
  | brk => exact q
  | cont => exact q
theorem nss_nil : NSs X body [] tNext := nss_ps pss_nil
theorem nss_one (h : NS X body st t) : NSs X body [st] (tSeq t tNext) := nss_cons h nss_nil
theorem ns_expr (h : NE X body e te) (hi : interactive X.env = false := by rfl) (hs : swapsWith e none pos.line X.env = pure false := by rfl) : NS X body (.Expr e pos) (tDrop te) := by
  refine ⟨fun pins s σ H D I q => ?_⟩
  refine PySem.ks_wpAt_Expr_any (PySem.ks_wpAt_mono (h.run pins s σ H _ I q) (fun v s1 hh => ?_) fun _ _ z => z) hi hs
  obtain ⟨x, H1, I1, r1, q1⟩ := hh
  exact ⟨σ, H1, I1, q1⟩
theorem ns_ret (h : NE X body e te) : NS X body (.Return (some e) pos) (tRet te) := by
  refine ⟨fun pins s σ H D I q => ?_⟩
  refine PySem.ks_wpAt_Return_some (PySem.ks_wpAt_mono (h.run pins s σ H _ I q) (fun v s1 hh => ?_) fun _ _ z => z)
  obtain ⟨x, H1, I1, r1, q1⟩ := hh
  exact ⟨x, σ, H1, I1, r1, q1⟩
end
theorem lk_mem {l : List (Str × Value)} {y : Str} {u : Value} (nd : (l.map (·.1)).Nodup) (h : (y, u) ∈ l) : l.lookup y = some u := by
  induction l with
  | nil => cases h
  | cons p r ih =>
    obtain ⟨z, v⟩ := p
    have hz : ((z, v) :: r).map (·.1) = z :: r.map (·.1) := rfl
    rw [hz] at nd
    obtain ⟨n1, n2⟩ := List.nodup_cons.mp nd
    rcases List.mem_cons.mp h with q | q
    · cases q
      simp [List.lookup]
    · have ne : (y == z) = false := by
        simp only [beq_eq_false_iff_ne, ne_eq]
        intro e; subst e
        exact n1 (List.mem_map_of_mem (f := (·.1)) q)
      simp only [List.lookup, ne]
      exact ih n2 q
theorem nodup_rev {α : Type} : ∀ {l : List α}, l.Nodup → l.reverse.Nodup := fun {l} h => by
  unfold List.Nodup at h ⊢
  rw [List.pairwise_reverse]
  exact h.imp fun a b => a b.symm
theorem zip_lk {ps : List Str} {us : List Value} {i : Nat} {y : Str} {u : Value} (nd : ps.Nodup) (hl : us.length = ps.length) (h1 : ps[i]? = some y) (h2 : us[i]? = some u) : (ps.zip us).reverse.lookup y = some u := by
  refine lk_mem ?_ ?_
  · rw [List.map_reverse]
    refine nodup_rev ?_
    have : (ps.zip us).map (·.1) = ps := List.map_fst_zip (by omega)
    rw [this]; exact nd
  · rw [List.mem_reverse]
    refine List.mem_of_getElem? (i := i) ?_
    rw [List.getElem?_zip_eq_some]; exact ⟨h1, h2⟩
section
variable {CX : CXT} {P : Program} {w : World} {K : PySem.W.Frag} {mg : Str → Option Value} {base : Heap} {k : Nat} {f cc D : Addr} {name qual : Str} {params : Arguments} {body : List Stmt} {scope : Scope} {dV kV doc pm cdv ct oc cl : Value} {an od cld : Option Addr}
    {osl csl : Array (Option Value)} {N ps : List Str} {sp : Sp}
theorem fn_ofC (lk : K.lookup f = some ⟨oc, od, .func (PySem.W.ksFn name qual params body scope dV kV doc pm an cdv ct cc), osl⟩) (lc : K.lookup cc = some ⟨cl, cld, .cell (some (.ref D)), csl⟩) (hcd : PySem.W.codeIn K cdv qual = true) (S : CScope N ps scope)
    (len : ∀ vs H Q E, sp vs H Q E → vs.length = ps.length)
    (hbody : ∀ (A : Around) (outer : List Env) (s : Shared) (H : Hp) (vs : List V) (Q : VK) (E : XK), Room k (A.deeper (PySem.W.ksEnv qual scope s.heap.objs.size f cdv cc)) → sp vs H Q E →
      ∃ t, NSs (cxC CX P w K mg base N qual scope f cdv cc A outer s H E) body body t ∧ t { nx := fun _ H' => Q .non H', rt := Q } (L2.start N vs) H) :
    FnOk P w K mg base CX (k + 1) f (PySem.W.ksFn name qual params body scope dV kV doc pm an cdv ct cc) ps sp := by
  refine ⟨len, fun A outer s H args us vs Q E hr e0 hb r hsp => ?_⟩
  have hl := len _ _ _ _ hsp
  have hlu : us.length = ps.length := by rw [← hl]; exact r.length.symm
  have KX : K.In s.heap := e0.mod.kin.keeps fun b o e => (e0.bs b o e).1
  have lim : s.heap.NoLimit := e0.mod.nolimit.keeps fun b o e => (e0.bs b o e).1
  have hloc : ∀ y ∈ ps.zip us, scope.names.lookup y.1 = some .local := fun ⟨n, v⟩ hy => S.par n (List.of_mem_zip hy).1
  have ndP : ps.Nodup := by rw [← S.pre]; exact S.nd.sublist (List.take_sublist _ _)
  have hpl : ps.length ≤ N.length := by have := congrArg List.length S.pre; rw [List.length_take] at this; omega
  refine PySem.ks_codeAny_call_defAt (fd := PySem.W.ksFn name qual params body scope dV kV doc pm an cdv ct cc) (body := body) (binds := ps.zip us) hr.depth (KX _ _ lk) rfl lim (PySem.W.codeRec_of KX hcd) rfl hb S.nocell hloc (fun h₀ hns hk => ?_) S.co S.gen S.kind
  obtain ⟨t, ht, hq⟩ := hbody A outer s H vs Q E (hr.deeper _) hsp
  have noA : ∀ b : Addr, b ∉ (cxC CX P w K mg base N qual scope f cdv cc A outer s H E).ex := fun b z => absurd (show b ∈ ([] : List Addr) from z) (by simp)
  have hcells : ∀ (x : Str) (c : Addr), (cxC CX P w K mg base N qual scope f cdv cc A outer s H E).env.cells.lookup x = some c → x = "__class__" ∧ c = cc := fun x c h => by
    have h : List.lookup x [(("__class__" : Str), cc)] = some c := h
    simp only [List.lookup] at h
    split at h
    · rename_i e
      exact ⟨by simpa using e, (Option.some.inj h).symm⟩
    · cases h
  have hcc : base.get? cc = some ⟨cl, cld, .cell (some (.ref D)), csl⟩ := e0.mod.kin _ _ lc
  have I : Inv (cxC CX P w K mg base N qual scope f cdv cc A outer s H E) [] (start N vs) H { s with heap := h₀, toks := s.toks + (ps.zip us).length } := by
    refine ⟨⟨e0.mod, S.kind, rfl, rfl, Nat.le_refl _, fun y z c h1 h2 => ?_, fun y hy => ?_, fun y c hf _ => absurd hf (by show ¬ false = true; decide), fun _ => hr.hd, Around.frames_deeper e0.frames, .inr ⟨rfl, rfl⟩, fun b z => absurd z (noA b), e0.bs, e0.bsz, fun b _ _ => noA b, fun b z => absurd z (noA b), e0.funs, e0.frf⟩,
      rfl, e0.bare, Un.kept hk, ⟨_, hns, fun i y v h1 h2 h3 => ?_⟩, fun y c h => ?_, e0.hok.fresh (Nat.le_refl _), fun y c h => ?_, fun p hp => absurd (show p ∈ ([] : List (Addr × Obj)) from hp) (by simp), e0.hok.kept hk, ?_⟩
    · rw [(hcells _ _ h1).1, (hcells _ _ h2).1]
    · have hy : scope.names.lookup y = some .cell ∨ scope.names.lookup y = some .free := hy
      rcases hy with hy | hy
      · exact absurd rfl (S.nocell _ (PySem.mem_of_lookup hy))
      · have e := S.free _ (PySem.mem_of_lookup hy) rfl
        have e : y = "__class__" := e
        subst e
        exact ⟨cc, rfl⟩
    · have hi : i < vs.length := by
        unfold L2.start at h2
        by_cases hi : i < vs.length
        · exact hi
        · rw [List.getElem?_append_right (by simpa using hi)] at h2
          rw [List.getElem?_replicate] at h2
          split at h2 <;> cases h2
      have ha : vs[i]? = some v := by
        unfold L2.start at h2
        rw [List.getElem?_append_left (by simpa using hi), List.getElem?_map] at h2
        cases e : vs[i]? with
        | none => rw [e] at h2; cases h2
        | some a => rw [e] at h2; cases h2; rfl
      obtain ⟨u, hu, rv⟩ := r.get ha
      have hp : ps[i]? = some y := by
        rw [← S.pre, List.getElem?_take_of_lt (by omega)]; exact h1
      exact ⟨u, rv, .inl ⟨S.par y (List.mem_of_getElem? hp), zip_lk ndP hlu hp hu⟩⟩
    · rw [(hcells _ _ h).2]
      exact ⟨_, _, hk _ _ (KX _ _ lc), rfl⟩
    · rw [(hcells _ _ h).2]
      exact (e0.bs _ _ hcc).2
    · unfold L2.start
      show _ = N.length
      rw [List.length_append, List.length_map, List.length_replicate]
      omega
  refine PySem.ks_wpAt_mono (ht.run [] _ (start N vs) H _ I hq) (fun fl s' hs => ?_) fun e s' hs => hs
  have fin : ∀ {σ' : L2.St} {H' : Hp} {v : V} {u : Value}, Inv (cxC CX P w K mg base N qual scope f cdv cc A outer s H E) [] σ' H' s' → RelV v u → Q v H' → CE outer P w H s Q u s' :=
    fun {σ' H' v u} J rv q => ⟨v, H', J.os, J.bare, J.base, J.hok, rv, q⟩
  cases fl with
  | ret u =>
    obtain ⟨v, σ', H', J, rv, q⟩ := hs
    exact fin J rv q
  | next =>
    obtain ⟨σ', H', J, q⟩ := hs
    exact fin (v := V.non) (u := Value.none) J rfl q
  | brk =>
    obtain ⟨_, _, _, q⟩ := hs
    exact False.elim q
  | cont =>
    obtain ⟨_, _, _, q⟩ := hs
    exact False.elim q
end
end LR
set_option Elab.async false
set_option maxRecDepth 100000
set_option linter.all false
set_option maxHeartbeats 4000000
namespace LR
open PySem PySem.Spec PyProof.Rows L2
/-- what the written part says of a def with super(), standing at f, of the class at D -/
structure SupIn (prog : Program) (K : PySem.W.Frag) (mg : Str → Option Value) (f cc cda D : Addr) (fd : FuncData) (me : Str) : Prop where
  fn : ∃ oc od osl, K.lookup f = some ⟨oc, od, .func fd, osl⟩
  head : ∃ ar : Arg, (fd.params.posonlyargs ++ fd.params.args).head? = some ar ∧ ar.arg = me
  code : ∃ (ccl : Value) (cdd : Option Addr) (vs : Array Value) (ccs : Array (Option Value)) (file : Str) (tf : Tok), K.lookup cda = some ⟨ccl, cdd, .fields vs, ccs⟩ ∧ vs[2]? = some (.str file tf) ∧ ((prog.main.file : Str) == file) = true
  cell : ∃ cl cld csl, K.lookup cc = some ⟨cl, cld, .cell (some (.ref D)), csl⟩
  cls : ∃ cd, PySem.W.clsIn K D = some cd
  sup : mg "super" = none
  top : (prog.main.scope.names.lookup ("super" : Str)).isSome = false
  any : PySem.W.nsIn K cStatics "thirdparty.any" = some none
theorem b_super : bootBuiltins "super" = some (.type "super") := by first | decide +kernel | rfl | kernel_rfl
theorem pin_newA {X : Cx} {pins : List (Addr × Obj)} {σ : L2.St} {H : Hp} {s : Shared} {o : Obj} {h' : Heap} {a : Addr} {t' : Nat} (I : Inv X pins σ H s) (k : ∀ b u, s.heap.get? b = some u → h'.get? b = some u) (ha : s.heap.objs.size ≤ a) (ho : h'.get? a = some o) (hc : ∀ v, o.data ≠ .cell v) :
    Inv X ((a, o) :: pins) σ H { s with heap := h', toks := t' } := ClX.pin_new I k ha ho hc
section
variable {X : Cx} {pins : List (Addr × Obj)} {σ : L2.St} {H : Hp} {s : Shared} {body : List Stmt} {f cc cda D C x : Addr} {fd : FuncData} {self attr : Str} {p0 p1 : Pos} {whole : Sem Value} {Q : Value → Shared → Prop} {i : Nat}
theorem super_base (S : SupIn X.prog X.K X.mg f cc cda D fd self) (I : Inv X pins σ H s) {ox : Obj} (hx : s.heap.get? x = some ox) (hxc : ox.cls = .ref C) (hnc : ∀ c, ox.data ≠ .cls c) (hsub : PySem.W.mroIn X.K C (.ref D) = some true)
    (hi : X.N[i]? = some self) (hσ : σ[i]? = some (some (.ref x))) (hka : X.env.kindOf self = some .local)
    (hks : X.env.kindOf "super" = some .globalImplicit) (hkc : X.env.kindOf "__class__" = some .free) (hfu : X.env.func = some f) (hco : X.env.code = .ref cda) (hcl : X.env.cells.lookup ("__class__" : Str) = some cc)
    (hat : (attr == ("__class__" : Str)) = false)
    (h : ∀ (so : Addr) (h' : Heap), h'.get? so = some (PySem.W.ks_superObj D x C) → Inv X ((so, PySem.W.ks_superObj D x C) :: pins) σ H { s with heap := h' } → (∀ b u, s.heap.get? b = some u → h'.get? b = some u) → Q (.ref so) { s with heap := h' }) {E : Value → Shared → Prop} :
    PySem.wpAt (model X.prog X.w) X.A (.func body X.env) (attributeBase (.Call (.Name "super" p0) [] [] p1) attr X.env whole) Q E s := by
  obtain ⟨oc, od, osl, hf⟩ := S.fn
  obtain ⟨ar, hp, har⟩ := S.head
  obtain ⟨ccl, cdd, vs, ccs, file, tf, hcode, hvs, hfile⟩ := S.code
  obtain ⟨cl, cld, csl, hcell⟩ := S.cell
  obtain ⟨cdD, hD⟩ := S.cls
  have KX := I.kIn
  obtain ⟨oD, hD1, hD2⟩ : ∃ oD, s.heap.get? D = some oD ∧ oD.data = .cls cdD := by
    unfold PySem.W.clsIn at hD
    split at hD
    · rename_i c d cd' sl ho
      cases hD
      exact ⟨_, KX _ _ ho, rfl⟩
    · cases hD
  subst har
  have kind := I.ok.kind
  obtain ⟨mb, hb1, hb2⟩ := I.mod.blt
  refine PySem.ks_wpAt_super_base (env := X.env) hks hkc hat hfu (KX _ _ hf) rfl hp hco (KX _ _ hcode) rfl hvs hfile S.top ?_
  refine PySem.W.ks_loadName_global kind hks (Calls.loadGlobal_builtin (by rw [I.ok.glob]; exact I.mod.glob.keeps I.bk) S.sup (by rw [I.ok.blt]; exact hb1.keeps I.bk) ((hb2 _ (by decide)).trans b_super) ⟨rfl, ?_⟩)
  refine wpAny_loadName_free kind hkc hcl ⟨_, KX _ _ hcell, rfl⟩ ?_
  obtain ⟨m, hns, hloc⟩ := id I.loc
  obtain ⟨u, ru, hlook⟩ := hloc i _ _ hi hσ (.inl hka)
  obtain rfl : u = Value.ref x := ru
  rcases hlook with ⟨_, hm⟩ | ⟨hk, _⟩
  · refine wpAny_loadName_local kind hka hns hm ?_
    obtain ⟨hh, g, d, t, os⟩ := s
    refine PySem.ks_wpAny_isType_cls hD1 hD2 ⟨rfl, ?_⟩
    refine PySem.ks_wpAny_call_super hD1 hD2 hx hxc hnc (PySem.W.looks_mroIn KX hsub) (fun h' e k => ?_)
    exact h _ h' e (pin_newA (t' := t) I k (Nat.le_refl _) e (fun v z => by cases z)) k
  · rw [hka] at hk
    rcases hk with hk | hk <;> cases hk
end
/-! ### super().__init__(..) where the built-in's __init__ is meant -/
section
open PySem.W
variable {prog : Program} {w : World} {A : Around} {E : Value → Shared → Prop} {h : Heap} {g : Array GenState} {d : Drawn} {t : Nat} {os : OsState}
variable {nm q : Str} {C N : Addr} {bs bm : List Value} {hdct : Bool} {sn : List Str} {sub : List Value} {ab : Bool} {col : Option Bool} {dd : Option Addr} {k0 k1 k2 k3 k5 : Option Value}
theorem call_mwVE {u e t0 : Addr} {rest : List Value} {Q : Value → Shared → Prop}
    (hC : h.get? C = some (excClassObj nm q C N bs bm hdct sn sub ab col dd k0 k1 k2 k3 k5 "ValueError.__new__")) (he : h.get? e = some (HandSPX.excO C t0)) (hu : h.get? u = some (kxs_mw "ValueError.__init__" e)) (hrest : rest.length ≤ sizeLine)
    (hq : ∀ h' t1, (∀ b o, b ≠ e → h.get? b = some o → h'.get? b = some o) → h'.get? e = some (HandSPX.excO C t1) → Q .none ⟨h', g, d, t, os⟩) :
    wpAny (model prog w) A (call (.ref u) rest) Q E ⟨h, g, d, t, os⟩ := by
  refine wpAny_call (codeAny_of_tree ?_)
  show wpAny _ A.in1 (callAny (.ref u) ⟨rest, []⟩) _ _ _
  simp only [callAny]
  refine wpAny_bind (wpAny_load hu ?_)
  simp only [kxs_mw, show (Value.type "method-wrapper" == Value.type "method" || Value.type "method-wrapper" == Value.type "builtin_function_or_method" || Value.type "method-wrapper" == Value.type "method-wrapper") = true by decide, if_true]
  refine KFB.if_so (by decide) ?_
  refine wpAny_bind (ESX.check_bound F.excBase_ValueError hC he rfl ?_)
  refine wpAny_bind (wpAny_pure (wpAny_pure ?_))
  refine ⟨Code.quiet_builtin _ (by decide +kernel), codeAny_builtin F.excBase_ValueError.initEntry ?_⟩
  rw [Around.under_plainId F.excBase_ValueError.init.plain _]
  wp_walk
  refine hq _ h.objs.size (fun b o hb ho => ?_) ?_
  · rw [Heap.get?_update_other _ _ (Ne.symm hb)]
    exact Heap.get?_push_of_some _ ho
  · rw [Heap.get?_update_self _ (Heap.get?_push_of_some _ he) rfl]
    rfl
end
section
variable {X : Cx} {body : List Stmt} {f cc cda D C : Addr} {fd : FuncData} {me m : Str} {p0 p1 pos apos : Pos} {i : Nat} {e : Expr} {es : List Expr} {ta : TA} {pl : Sem Bool}
/-- super().__init__(e, ..) in an exception's own __init__: nothing of it is told -/
def tSupV (C : Addr) (i : Nat) (ta : TA) : TE := fun σ H Q => ∃ x : Addr, σ[i]? = some (some (.ref x)) ∧ H x = some (exo x C none) ∧ ta σ H fun vs H1 => vs.length ≤ 1000 ∧ H1 x = some (exo x C none) ∧ Q .non H1
theorem ne_supV (S : SupIn X.prog X.K X.mg f cc cda C fd me) (T : OexC X.K C) (hm : PySem.W.ks_superIn X.K C C "__init__" = some (some (.builtin "ValueError.__init__"))) (hsub : PySem.W.mroIn X.K C (.ref C) = some true) (hB : PySem.W.subIn X.K (.ref C) (.type "ValueError") = some true)
    (ha : PA X (e :: es) ta)
    (hi : X.N[i]? = some me := by rfl) (hka : X.env.kindOf me = some .local := by rfl)
    (hks : X.env.kindOf "super" = some .globalImplicit := by rfl) (hkc : X.env.kindOf "__class__" = some .free := by rfl) (hfu : X.env.func = some f := by rfl) (hco : X.env.code = .ref cda := by rfl) (hcl : X.env.cells.lookup ("__class__" : Str) = some cc := by rfl)
    (hst : starEach (e :: es) X.env = (false, eval e X.env) :: starEach es X.env := by rfl) (hpl : (backTo pos (starEach es X.env)).any (·.1) = false := by rfl)
    (ht : eval (.Call (.Attribute (.Call (.Name "super" p0) [] [] p1) "__init__" apos) (e :: es) [] pos) X.env = (do
      let ov ← attributeBase (.Call (.Name "super" p0) [] [] p1) "__init__" X.env (eval (.Call (.Name "super" p0) [] [] p1) X.env)
      standAt apos.atName
      let (f, first) ← holding [ov] (getMethod ov "__init__" pl)
      callWith pos f first (backTo pos (starEach (e :: es) X.env)) []) := by rfl) :
    NE X body (.Call (.Attribute (.Call (.Name "super" p0) [] [] p1) "__init__" apos) (e :: es) [] pos) (tSupV C i ta) := by
  refine ⟨fun pins s σ H Q I h => ?_⟩
  obtain ⟨x, hσ, hx, q⟩ := h
  obtain ⟨t1, hox⟩ := exo_at I.hok hx
  refine PySem.ks_wpAt_MethodCall (pl := pl) (super_base S I hox rfl (fun c z => by cases z) hsub hi hσ hka hks hkc hfu hco hcl (by decide) (fun so h' hso J k => ?_)) ht
  have KX := J.kIn
  have hox' := k _ _ hox
  have IA : PySem.W.InstAt h' x { cls := .ref C, dict := none, data := .fields #[.ref t1, .none, .none, .none, .bool false, .none] } C none := ⟨hox', rfl, rfl, trivial⟩
  cases hc : PySem.W.clsIn X.K C with
  | none => unfold PySem.W.ks_superIn at hm; rw [hc] at hm; cases hm
  | some cd =>
    unfold PySem.W.ks_superIn at hm
    rw [hc] at hm
    obtain ⟨hh, g, d, t, os⟩ := s
    refine PySem.W.kxs_getMethod PySem.W.kxs_ValueError hso (PySem.W.looks_opaque KX S.any) (l₀ := cd.mro) (fun A Q E s k q => wpAny_bind ((PySem.W.looks_clsIn KX hc) A _ E s k (wpAny_pure q))) rfl KX hm (IA.type.andThen (PySem.W.looks_subIn KX hB)) (PySem.W.ks_ne KX IA hc) (by decide) ?_
    have J2 := pin_newA (t' := t + 1) J (fun b u z => Heap.get?_push_of_some (PySem.W.kxs_mw "ValueError.__init__" x) z) (Nat.le_refl _) (Heap.get?_push_at rfl rfl) (fun v z => by cases z)
    rw [hst]
    refine PySem.W.kxs_callWith (i := "ValueError.__init__") (x := x) (by show (false || (backTo pos (starEach es X.env)).any (·.1)) = false; rw [hpl]; rfl) ?_
    have ha' := fun pins s H Q I q => ha.run pos pins s σ H Q I q
    rw [hst] at ha'
    refine PySem.Calls.evalArgs_plain (thn (ha' _ _ H _ J2 q) fun us s3 ⟨vs, H1, I3, rv, hl, hx1, q1⟩ => ⟨ClX.pin_at I3, ?_⟩)
    have I4 := ClX.unpin (ClX.unpin I3)
    obtain ⟨t2, hox2⟩ := exo_at I4.hok hx1
    obtain ⟨nm, qn, N, bs, bm, sn, sub, ab, col, dd, k0, k1, k2, k3, k5, hC, hbm⟩ := T.cls
    have hmw := ClX.pin_at I3
    obtain ⟨hp, g3, d3, t3, os3⟩ := s3
    refine call_mwVE (I4.kIn _ _ hC) hox2 hmw ?_ (fun h5 t5 k5 hx5 => ?_)
    · have := rv.length
      show us.length ≤ sizeLine
      rw [← this, sizeLine_eq]; omega
    · have J5 := I4.write (t' := t3) (x := x) (e := x) (o := exo x C none) (by rw [hx1]; exact True.intro) (.inl rfl) k5 ⟨_, hx5⟩ (exo_ok hx5)
      have eu : upd H1 x (exo x C none) = H1 := by
        funext b
        by_cases hb : b = x
        · rw [hb, upd_same, hx1]
        · rw [upd_ne hb]
      rw [eu] at J5
      exact ⟨.non, H1, J5, rfl, q1⟩
end
end LR
set_option Elab.async false
set_option maxRecDepth 100000
set_option linter.all false
set_option maxHeartbeats 4000000
namespace LR
open PySem PySem.Spec PyProof.Rows L2
/-! ## isinstance of an error that a suite holds -/
structure ErrC (K : PySem.W.Frag) (C : Addr) : Prop where
  cl : (PySem.W.clsIn K C).isSome = true
  ga : PySem.W.findIn K (.ref C) "__getattribute__" = some (some (.builtin "BaseException.__getattribute__"))
  gg : PySem.W.findIn K (.ref C) "__getattr__" = some none
  sb : PySem.W.subIn K (.ref C) (.type "BaseException") = some true
  ac : PySem.W.findIn K (.ref C) "__class__" = some (some (.builtin "object.__class__"))
  mo : PySem.W.mroIn K C (.type "object") = some true
  hd : PySem.W.hasDictIn K C = true
/-- .. and of the built-in object -/
structure ObjC (K : PySem.W.Frag) : Prop where
  gt : PySem.W.specialIn K (.builtin "object.__class__") "__get__" = some (some (.builtin "getset_descriptor.__get__"))
  tk : PySem.W.takesIn K (.builtin "object.__class__") = some true
/-! ## try with several clauses, each with a name or without -/
end LR
set_option Elab.async false
set_option maxRecDepth 100000
set_option linter.all false
set_option maxHeartbeats 4000000
namespace LR
open PySem PySem.Spec PyProof.Rows L2
/-! ## f-strings of which nothing is told -/
section
variable {σ : L2.St} {H : Hp} {ts : List TE} {acc a : Str} {n i : Nat} {v : Int} {Q : Str → Hp → Prop}
theorem js_c (hn : n ≤ 100000) (hacc : acc.length ≤ n) (ha : a.length ≤ 1000) (k : ∀ acc' : Str, acc'.length ≤ n + 1000 → tJs ts acc' σ H Q) : tJs (tC (.str a) :: ts) acc σ H Q := by
  have hl : (acc ++ a).length ≤ n + 1000 := by rw [Str.length_append]; omega
  exact ⟨a, rfl, Nat.le_trans hl (by rw [sizeLine_eq]; omega), k _ hl⟩
theorem js_v {te : TE} (hn : n ≤ 100000) (hacc : acc.length ≤ n) (hv : v.natAbs.log2 < 1920) (he : ∀ Q : VK, Q (.int v) H → te σ H Q) (k : ∀ acc' : Str, acc'.length ≤ n + 1921 → tJs ts acc' σ H Q) : tJs (tFmt te :: ts) acc σ H Q := by
  have hy := PyProof.Rows.int_text_len_1921 hv
  have hl : (acc ++ Str.ofString (toString v)).length ≤ n + 1921 := by rw [Str.length_append]; omega
  refine he _ (.inr ⟨v, rfl, hv, Str.ofString (toString v), rfl, Nat.le_trans hl (by rw [sizeLine_eq]; omega), k _ hl⟩)
end
theorem log_small {v : Int} (h : v.natAbs < 2 ^ 1900) : v.natAbs.log2 < 1920 := by
  by_cases c : v.natAbs = 0
  · rw [c]; decide
  · exact Nat.lt_of_lt_of_le ((Nat.log2_lt c).mpr h) (by decide)
/-! ## an error class of the program with one field, made by its own __init__ -/
structure ErrIn (prog : Program) (K : PySem.W.Frag) (mg : Str → Option Value) (x : Str) (C : Addr) (qual : Str) (st : Stmt) (fld : Str) : Prop where
  gC : mg x = some (.ref C)
  T : OexC K C
  E : ErrC K C
  X : XfC K C
  no : PySem.W.findIn K (.ref C) fld = some none
  ini : ∃ (f cc cda : Addr) (fd : FuncData), PySem.W.findIn K (.ref C) "__init__" = some (some (.ref f)) ∧ PySem.W.typeIn K (.ref f) = some (.type "function") ∧ SupIn prog K mg f cc cda C fd "self" ∧ Binds K fd ["self", fld] [] ∧
    ∃ (oc : Value) (od an : Option Addr) (kV doc pm ct : Value) (osl : Array (Option Value)), fd = PySem.W.ksFn "__init__" qual (defArgs st) (defBody st) (defScope st) .none kV doc pm an (.ref cda) ct cc ∧ K.lookup f = some ⟨oc, od, .func fd, osl⟩ ∧ PySem.W.codeIn K (.ref cda) qual = true
  sm : PySem.W.ks_superIn K C C "__init__" = some (some (.builtin "ValueError.__init__"))
  mr : PySem.W.mroIn K C (.ref C) = some true
  sv : PySem.W.subIn K (.ref C) (.type "ValueError") = some true
/-- what its __init__ does -/
def spErr (C : Addr) (fld : Str) : Sp := fun vs H Q _ => ∃ (a : Addr) (v : Int), vs = [.ref a, .int v] ∧ H a = some (exo a C none) ∧ v.natAbs < 2 ^ 1900 ∧ ∀ dx, H dx = none → dx ≠ a → Q .non (upd (upd H dx (exd dx [(fld, .int v)])) a (exo a C (some dx)))
/-- such a class, ready to be raised -/
structure ErrOk (P : Program) (w : World) (K : PySem.W.Frag) (mg : Str → Option Value) (base : Heap) (x : Str) (C : Addr) (fld : Str) : Prop where
  gC : mg x = some (.ref C)
  T : OexC K C
  fn : ∃ (f : Addr) (fd : FuncData), PySem.W.findIn K (.ref C) "__init__" = some (some (.ref f)) ∧ PySem.W.typeIn K (.ref f) = some (.type "function") ∧ FnOk P w K mg base CX0 1 f fd ["self", fld] (spErr C fld) ∧ Binds K fd ["self", fld] []
section
variable {P : Program} {w : World} {K : PySem.W.Frag} {mg : Str → Option Value} {base : Heap}
theorem ErrIn.ok {x qual : Str} {C : Addr} {st : Stmt} {fld : Str} {N : List Str} (D : ErrIn P K mg x C qual st fld) (S : CScope N ["self", fld] (defScope st))
    (hbody : ∀ (f cc cda : Addr) (fd : FuncData) (A : Around) (outer : List Env) (s : Shared) (H : Hp) (vs : List V) (Q : VK) (E : XK), SupIn P K mg f cc cda C fd "self" → Room 0 (A.deeper (PySem.W.ksEnv qual (defScope st) s.heap.objs.size f (.ref cda) cc)) → spErr C fld vs H Q E →
      ∃ t, NSs (cxC CX0 P w K mg base N qual (defScope st) f (.ref cda) cc A outer s H E) (defBody st) (defBody st) t ∧ t { nx := fun _ H' => Q .non H', rt := Q } (L2.start N vs) H) : ErrOk P w K mg base x C fld := by
  obtain ⟨f, cc, cda, fd, i1, i2, S1, b, oc, od, an, kV, doc, pm, ct, osl, rfl, lk, hcd⟩ := D.ini
  obtain ⟨cl, cld, csl, hcell⟩ := S1.cell
  refine ⟨D.gC, D.T, f, _, i1, i2, fn_ofC lk hcell hcd S (fun vs H Q E h => ?_) (fun A outer s H vs Q E hr h => hbody f cc cda _ A outer s H vs Q E S1 hr h), b⟩
  obtain ⟨a, v, rfl, _⟩ := h; rfl
end
section
variable {X : Cx} {C : Addr} {x fld : Str} {e : Expr} {es : List Expr} {p pos pos2 : Pos} {ta : TA} {k : Nat}
/-- C(v): the error is made, its dict d holds the field -/
def tMkE (C : Addr) (fld : Str) (ta : TA) : L2.St → Hp → XK → Prop := tMkO C (spErr C fld) [] ta
theorem pmk_err (D : ErrOk X.prog X.w X.K X.mg X.base x C fld) (hr : Room k X.A) (hk : 2 ≤ k) (ha : PA X (e :: es) ta) (hg : Gl X x) (hdb : (x == ("__debug__" : Str)) = false := by decide)
    (he : starEach (e :: es) X.env = (false, eval e X.env) :: starEach es X.env := by rfl) (hpl : (backTo pos (starEach es X.env)).any (·.1) = false := by rfl) : PMk X (.Call (.Name x p) (e :: es) [] pos) (tMkE C fld ta) := by
  obtain ⟨f, fd, i1, i2, F, b⟩ := D.fn
  exact pmk_oex D.T i1 i2 F (hr.mono hk) b .nil pass0 hg D.gC ha hdb he hpl
/-- what a made error asks -/
theorem mkE {C : Addr} {fld : Str} {v : Int} {H : Hp} {Q : XK} (hv : v.natAbs < 2 ^ 1900) (h : ∀ d, H d = none → Q (.ref C) (some d) (upd H d (.xd [(fld, .int v)]))) :
    ([V.int v] : List V).length ≤ 1000 ∧ ∀ a, H a = none → spErr C fld (.ref a :: ([V.int v] ++ [])) (upd H a (exo a C none))
      (fun v' H2 => v' = .non ∧ ∃ (d : Addr) (fs : List (Str × V)), H2 a = some (exo a C (some d)) ∧ H2 d = some (exd d fs) ∧ H d = none ∧ Q (.ref C) (some d) (upd (L2.del H2 a) d (.xd fs))) (fun _ _ _ => False) := by
  refine ⟨by show 1 ≤ 1000; decide, fun a ha => ⟨a, v, rfl, upd_same, hv, fun dx h1 h2 => ⟨rfl, dx, [(fld, .int v)], upd_same, ?_, ?_, ?_⟩⟩⟩
  · rw [upd_ne h2, upd_same]
  · rw [upd_ne h2] at h1; exact h1
  · have hd : H dx = none := by rw [upd_ne h2] at h1; exact h1
    have e : upd (L2.del (upd (upd (upd H a (exo a C none)) dx (exd dx [(fld, .int v)])) a (exo a C (some dx))) a) dx (.xd [(fld, .int v)]) = upd H dx (.xd [(fld, .int v)]) := by
      funext b
      by_cases c1 : b = dx
      · rw [c1, upd_same, upd_same]
      · rw [upd_ne c1, upd_ne c1]
        by_cases c2 : b = a
        · rw [c2, del_same, ha]
        · rw [del_ne c2, upd_ne c2, upd_ne c1, upd_ne c2]
    rw [e]
    exact h dx hd
end
end LR
set_option Elab.async false
set_option maxRecDepth 100000
set_option linter.all false
set_option maxHeartbeats 4000000
namespace LR
open PySem PySem.Spec PyProof.Rows L2
/-! ## defs, methods, classes whose calls may raise -/
structure CalX (P : Program) (w : World) (K : PySem.W.Frag) (mg : Str → Option Value) (base : Heap) (k : Nat) (x : Str) (sp : Sp) : Prop where
  ex : ∃ (f : Addr) (fd : FuncData) (ps : List Str), FnOk P w K mg base (L2.CX P w) k f fd ps sp ∧ mg x = some (.ref f) ∧ PySem.W.keepIn K (.ref f) = true ∧ Binds K fd ps []
structure MetX (P : Program) (w : World) (K : PySem.W.Frag) (mg : Str → Option Value) (base : Heap) (k : Nat) (C : Addr) (m : Str) (sp : Sp) : Prop where
  ex : ∃ (f : Addr) (fd : FuncData) (ps : List Str), Cls K C ∧ Meth K C m f ∧ FnOk P w K mg base (L2.CX P w) k f fd ps sp ∧ Binds K fd ps []
structure MakX (P : Program) (w : World) (K : PySem.W.Frag) (mg : Str → Option Value) (base : Heap) (k : Nat) (x : Str) (C : Addr) (sp : Sp) : Prop where
  ex : ∃ (f : Addr) (fd : FuncData) (ps : List Str), Mk K C f ∧ FnOk P w K mg base (L2.CX P w) k f fd ps sp ∧ mg x = some (.ref C) ∧ Binds K fd ps []
def tCallT (sp : Sp) (W : WX) (t : TA) : TE := fun σ H Q => t σ H fun vs H1 => sp vs H1 Q (WE W σ)
def tMethT (C : Addr) (m : Str) (sp : Sp) (W : WX) (ta : TE) (t : TA) : TE := fun σ H Q => ta σ H fun x H1 => ∃ a dx fs, x = .ref a ∧ H1 a = some (.ins C dx fs) ∧ fs.lookup m = none ∧ t σ H1 fun vs H2 => sp (x :: vs) H2 Q (WE W σ)
def tMakeT (C : Addr) (sp : Sp) (W : WX) (t : TA) : TE := fun σ H Q => t σ H fun vs H1 => ∀ x dx, H1 x = none → H1 dx = none → dx ≠ x → sp (.ref x :: vs) (upd (upd H1 dx (.own x)) x (.ins C dx [])) (fun v H2 => v = .non ∧ Q (.ref x) H2) (WE W σ)
section
variable {X : Cx} {k j : Nat} {C : Addr} {x m : Str} {sp : Sp} {W : WX} {p pos apos : Pos} {e o : Expr} {es : List Expr} {ta : TE} {t : TA}
theorem pe_cT (c : CalX X.prog X.w X.K X.mg X.base k x sp) (hr : Room j X.A) (hk : k ≤ j) (tk : Takes X W) (hg : Gl X x) (ha : PA X (e :: es) t)
    (hdb : (x == ("__debug__" : Str)) = false := by decide) (he : starEach (e :: es) X.env = (false, eval e X.env) :: starEach es X.env := by rfl) (hpl : (backTo pos (starEach es X.env)).any (·.1) = false := by rfl) :
    PE X (.Call (.Name x p) (e :: es) [] pos) (tCallT sp W t) := by
  obtain ⟨f, fd, ps, F, hm, kp, b⟩ := c.ex
  exact pe_callS F (hr.mono hk) hg hm kp b (passAt tk) ha hdb he hpl
theorem pe_mtT {pl : Sem Bool} (c : MetX X.prog X.w X.K X.mg X.base k C m sp) (hr : Room j X.A) (hk : k ≤ j) (tk : Takes X W) (he : PE X o ta) (ha : PA X (e :: es) t)
    (hst : starEach (e :: es) X.env = (false, eval e X.env) :: starEach es X.env := by rfl) (hpl : (backTo pos (starEach es X.env)).any (·.1) = false := by rfl)
    (ht : eval (.Call (.Attribute o m apos) (e :: es) [] pos) X.env = (do
      let ov ← eval o X.env
      standAt apos.atName
      let (f, first) ← holding [ov] (getMethod ov m pl)
      callWith pos f first (backTo pos (starEach (e :: es) X.env)) (backToKw pos (keywordEach [] X.env))) := by rfl) :
    PE X (.Call (.Attribute o m apos) (e :: es) [] pos) (tMethT C m sp W ta t) := by
  obtain ⟨f, fd, ps, hc, hm, F, b⟩ := c.ex
  refine ⟨fun pins s σ H Q I h => PySem.W.methodCall_KW (pl := pl) (thn (he.run pins s σ H _ I h) fun u s1 hh => ?_) ht⟩
  obtain ⟨y, H1, I1, ry, a, dx, fs, rfl, ea, l, q⟩ := hh
  cases (show u = Value.ref a from ry)
  refine getmeth_ok I1 ea hc hm l (PySem.W.callWith_K (first := [.ref a]) (h₀ := X.base) I.ok.mod.kin hm.kp (thn (ha.run pos pins s1 σ H1 _ I1 q) fun us s2 h2 => ?_) hst hpl)
  obtain ⟨vs, H2, I2, r, q2⟩ := h2
  exact ⟨I2.kIn, run_fnS (E := WE W) F (hr.mono hk) b (passAt tk σ) I2 (.cons (show RelV (V.ref a) (.ref a) from rfl) r) q2⟩
theorem run_mkT {pins : List (Addr × Obj)} {σ : L2.St} {H : Hp} {s : Shared} {Q : VK} {us : List Value} {vs : List V} {f : Addr} {fd : FuncData} {ps : List Str} (M : Mk X.K C f) (F : FnOk X.prog X.w X.K X.mg X.base (L2.CX X.prog X.w) k f fd ps sp) (hr : Room (k + 1) X.A) (b : Binds X.K fd ps []) (tk : Takes X W)
    (I : Inv X pins σ H s) (r : Vals vs us)
    (h : ∀ x dx, H x = none → H dx = none → dx ≠ x → sp (.ref x :: vs) (upd (upd H dx (.own x)) x (.ins C dx [])) (fun v H2 => v = .non ∧ Q (.ref x) H2) (WE W σ)) :
    wpAny (model X.prog X.w) X.A (call (.ref C) us) (EP X pins σ Q) X.xe s := by
  have hq := h (s.heap.objs.size + 1) s.heap.objs.size (I.hok.fresh (Nat.le_succ _)) (I.hok.fresh (Nat.le_refl _)) (Nat.ne_of_lt (Nat.lt_succ_self _))
  have J := Inv.made (C := C) I
  have r2 : Vals (V.ref (s.heap.objs.size + 1) :: vs) (Value.ref (s.heap.objs.size + 1) :: us) := .cons rfl r
  have hl := r2.length.symm.trans (F.len _ _ _ _ hq)
  have bb := b _ _ J.kIn (by rw [List.append_nil]; exact hl)
  rw [List.append_nil] at bb
  refine wpAny_call (make_map (f := f) I.kIn M.makes M.init (beq_iff_eq.mp M.fn) (codeAny_mono (F.run _ X.stack _ _ _ _ _ _ (WE W σ) (hr.make C us []) (J.env0.make C us []) bb r2 hq) fun rr s' hq' => ?_))
  cases rr with
  | error e => exact passAt tk σ pins _ _ e s' J hq'
  | ok fl =>
    cases fl with
    | ret u =>
      obtain ⟨v, H', I3, rv, ev, q3⟩ := J.after hq'
      subst ev
      exact ⟨rv, V.ref (s.heap.objs.size + 1), H', I3, rfl, q3⟩
    | next => exact hq'.elim
    | brk => exact hq'.elim
    | cont => exact hq'.elim
theorem pe_mkT (c : MakX X.prog X.w X.K X.mg X.base k x C sp) (hr : Room j X.A) (hk : k + 1 ≤ j) (tk : Takes X W) (hg : Gl X x) (ha : PA X (e :: es) t)
    (hdb : (x == ("__debug__" : Str)) = false := by decide) (he : starEach (e :: es) X.env = (false, eval e X.env) :: starEach es X.env := by rfl) (hpl : (backTo pos (starEach es X.env)).any (·.1) = false := by rfl) :
    PE X (.Call (.Name x p) (e :: es) [] pos) (tMakeT C sp W t) := by
  obtain ⟨f, fd, ps, M, F, hm, b⟩ := c.ex
  refine ⟨fun pins s σ H Q I h => wpAny_Call_Name_kw (ld_glob I hg hm ?_ hdb)⟩
  refine PySem.W.callWith_K (h₀ := X.base) I.ok.mod.kin M.kp (thn (ha.run pos pins s σ H _ I h) fun us s1 hh => ?_) he hpl
  obtain ⟨vs, H1, I1, r, q⟩ := hh
  exact ⟨I1.kIn, run_mkT M F (hr.mono hk) b tk I1 r q⟩
end
section
variable {P : Program} {w : World} {K : PySem.W.Frag} {mg : Str → Option Value} {base : Heap}
theorem DefIn.calX {x : Str} {st : Stmt} {N ps : List Str} {k : Nat} {sp : Sp} (D : DefIn K mg x st ps) (S : FnScope N ps (defScope st)) (len : ∀ vs H Q E, sp vs H Q E → vs.length = ps.length)
    (hbody : ∀ (f : Addr) (cdv : Value) (A : Around) (outer : List Env) (s : Shared) (H : Hp) (vs : List V) (Q : VK) (E : XK), Room k (A.deeper (envOfC x (defScope st) s.heap.objs.size f cdv)) → sp vs H Q E →
      ∃ t, PSs (cxOf (L2.CX P w) P w K mg base N x (defScope st) f cdv A outer s H E) (defBody st) t ∧ t { nx := fun _ H' => Q .non H', rt := Q } (L2.start N vs) H) : CalX P w K mg base (k + 1) x sp := by
  obtain ⟨f, fd, F, hm, b⟩ := D.ex
  exact ⟨f, fd, ps, F.okX S len (hbody f), hm, F.kp, b⟩
theorem MetIn.metX {C : Addr} {m qual : Str} {st : Stmt} {N ps : List Str} {k : Nat} {sp : Sp} (c : Cls K C) (D : MetIn K C m qual st ps) (S : FnScope N ps (defScope st)) (len : ∀ vs H Q E, sp vs H Q E → vs.length = ps.length)
    (hbody : ∀ (f : Addr) (cdv : Value) (A : Around) (outer : List Env) (s : Shared) (H : Hp) (vs : List V) (Q : VK) (E : XK), Room k (A.deeper (envOfC qual (defScope st) s.heap.objs.size f cdv)) → sp vs H Q E →
      ∃ t, PSs (cxOf (L2.CX P w) P w K mg base N qual (defScope st) f cdv A outer s H E) (defBody st) t ∧ t { nx := fun _ H' => Q .non H', rt := Q } (L2.start N vs) H) : MetX P w K mg base (k + 1) C m sp := by
  obtain ⟨f, fd, F, hm, b⟩ := D.ex
  exact ⟨f, fd, ps, c, hm, F.okX S len (hbody f), b⟩
end
end LR
set_option Elab.async false
set_option maxRecDepth 100000
set_option linter.all false
set_option maxHeartbeats 4000000
namespace LR
open PySem PySem.Spec PyProof.Rows L2
/-! ## enumerate over a tuple -/
set_option maxHeartbeats 1000000 in
theorem meets_enum1 {v : Value} {o : Obj} {H : Heap → Prop} (B : Begins v o H) :
    Meets (Builtin.«enumerate.__new__» ⟨[.type "enumerate", v], []⟩) (fun _ R s => H s.heap ∧
      R (.ok (.ret (.ref (s.heap.push o).objs.size))) { s with heap := (s.heap.push o).push { cls := .type "enumerate", data := .fields #[.none, .bool false, .ref s.heap.objs.size, rawInt 0, .none, .none] } }) :=
  .of_wp fun prog w A R s h => by
    obtain ⟨hp, g, d, tk, os⟩ := s; obtain ⟨h1, h⟩ := h
    have hsub := sub_enumerate
    have q1 : ∀ {A' : Around} {E : Value → Shared → Prop} {Q : Value → Shared → Prop}, Q (.ref hp.objs.size) ⟨hp.push o, g, d, tk, os⟩ → wpAny (model prog w) A' (pyIter v) Q E ⟨hp, g, d, tk, os⟩ :=
      fun q => B.iter prog w _ _ ⟨hp, g, d, tk, os⟩ _ h1 q
    wp_walk using q1
    refine wpAny_stack_any fun st => wpAny_pure ?_
    split
    · rename_i c _ _ _ _ _
      cases (c == Value.type "enumerate")
      · wp_walk using q1
        exact ⟨_, rfl, h⟩
      · wp_walk using q1
        exact ⟨_, rfl, h⟩
    · wp_walk using q1
      exact ⟨_, rfl, h⟩
theorem enum_new1 {prog : Program} {w : World} {A : Around} {E : Value → Shared → Prop} {s : Shared} {v : Value} {o : Obj} {H : Heap → Prop} {Q : Value → Shared → Prop} (B : Begins v o H) (h1 : H s.heap)
    (h : ∀ h', IsEnum h' (s.heap.objs.size + 1) s.heap.objs.size 0 .none → h'.get? s.heap.objs.size = some o → h'.objs.size = s.heap.objs.size + 2 →
      (∀ b o, s.heap.get? b = some o → h'.get? b = some o) → Q (.ref (s.heap.objs.size + 1)) { s with heap := h' }) :
    wpAny (model prog w) A (call (.type "enumerate") [v]) Q E s := by
  refine callType_new F.called_enumerate (by decide) (F.typeCall_enumerate_1 _) (F.newCall_enumerate_1 _) (fun obj => F.args_object_init_2 obj _) F.entry_enumerate_new
    (meets_enum1 B) ⟨h1, ?_⟩
  have hz : (s.heap.push o).objs.size = s.heap.objs.size + 1 := Heap.size_push ..
  show _ ∧ _
  rw [hz]
  have he : IsEnum ((s.heap.push o).push { cls := .type "enumerate", data := .fields #[.none, .bool false, .ref s.heap.objs.size, rawInt 0, .none, .none] }) (s.heap.objs.size + 1) s.heap.objs.size 0 .none := by
    have := Heap.get?_push_size (s.heap.push o) (o := { cls := .type "enumerate", data := .fields #[.none, .bool false, .ref s.heap.objs.size, rawInt 0, .none, .none] }) rfl
    rw [hz] at this; exact this
  refine ⟨⟨_, he, rfl⟩, h _ he (Heap.get?_push_of_some _ (Heap.get?_push_size _ B.free)) (by rw [Heap.size_push, hz]) fun b o x => Heap.get?_push_of_some _ (Heap.get?_push_of_some _ x)⟩
/-- the tuple at a as it stands at each turn, the items in new pairs -/
def IteT (K : PySem.W.Frag) (a : Addr) : It :=
  ⟨fun i H => ∃ (xs : List V) (x : V), SqT K H a xs ∧ xs[i]? = some x, fun i H v H' => ∃ T x, v = .ref T ∧ H T = none ∧ H' = upd H T (.tup [.int (i : Nat), x]) ∧ ∀ xs, SqT K H a xs → xs[i]? = some x, fun i H => ∃ xs : List V, SqT K H a xs ∧ xs.length = i⟩
theorem turn_enumT {P : Program} {w : World} {K : PySem.W.Frag} {elts : List Expr} {kk : Nat} {tpos : Pos} (a e it : Addr) :
    Turn P w K (.Tuple elts kk tpos) (IteT K a) [e, it] e (fun i h => (∃ old, IsEnum h e it ((i : Nat) : Int) old) ∧ h.IsTupleIter it a i ∧ e ≠ it) where
  mem := by simp
  obj := fun i h st b hb => by
    obtain ⟨⟨old, he⟩, ⟨o, ho, hc, hd⟩, _⟩ := st
    have e' : b = e ∨ b = it := by simpa using hb
    rcases e' with z | z
    · rw [z]; exact ⟨_, he, fun v q => nomatch q⟩
    · rw [z]; exact ⟨o, ho, fun v q => by rw [hd] at q; cases q⟩
  keep := fun i h h' st k => let ⟨⟨old, he⟩, hi, hne⟩ := st; ⟨⟨old, k e (by simp) _ he⟩, hi.at fun o q => k it (by simp) o q, hne⟩
  item := by
    intro X hP hw hK hc i pins s σ H E I hf st hg
    subst hP hw hK
    obtain ⟨⟨old, he⟩, hit, hne⟩ := st
    obtain ⟨xs, x, hq, hx⟩ := hg
    obtain ⟨its, rv, p, hz⟩ := I.tuple hq
    obtain ⟨u, hu, ru⟩ := rv.get hx
    have hel : e < s.heap.objs.size := Heap.lt_size he
    have hil : it < s.heap.objs.size := by obtain ⟨_, q, _⟩ := hit; exact Heap.lt_size q
    have hT0 : s.heap.IsTuple a its.toArray := p
    have nea : a ≠ e := fun z => by
      obtain ⟨o, h1, h2, _⟩ := hT0
      rw [z, he] at h1; cases h1; injection h2 with q; exact absurd q (by decide)
    have nia : a ≠ it := fun z => by
      obtain ⟨o, h1, h2, _⟩ := hT0
      obtain ⟨o2, h3, h4, _⟩ := hit
      rw [z, h3] at h1; cases h1; rw [h4] at h2; injection h2 with q; exact absurd q (by decide)
    have D := Draws.tuple (prog := X.prog) (w := X.w) (A := X.A.in1) (I.ok.hd hc) it a nia its.toArray
    have hlt : i < its.toArray.size := by
      have := (List.getElem?_eq_some_iff.mp hu).1
      simpa using this
    refine wpAny_pyNext_enum_itemD D he ⟨hit, hT0⟩ hlt hne (by simp; exact ⟨hne, nea.symm⟩) fun x' h' tk hx' ho hst hT hsz hk => ?_
    have hx' : x' = u := by
      have : its.toArray[i]? = some u := by simpa using hu
      rw [this] at hx'; cases hx'; rfl
    subst hx'
    refine ⟨_, rfl, wpAny_letOwnedTupleGo_enum (s := { s with heap := h', toks := tk + 1 }) ho fun h'' he' sb => ?_⟩
    have hT2 : h''.get? s.heap.objs.size = some { cls := .type "tuple", data := .seq #[.int i tk, x'] } := (sb.2 _ (Nat.ne_of_gt hel)).trans hT
    have new : ObjOk X.prog X.w (upd H s.heap.objs.size (.tup [.int (i : Nat), x])) h'' s.heap.objs.size (.tup [.int (i : Nat), x]) :=
      ⟨by show 2 ≤ sizeLine; decide, [.int i tk, x'], .cons ⟨_, rfl⟩ (.cons ru .nil), ⟨_, hT2, rfl, _, rfl⟩⟩
    have I1 : Inv X pins σ (upd H s.heap.objs.size (.tup [.int (i : Nat), x])) { s with heap := h'', toks := tk + 1 } :=
      I.turnedNew (ch := [e, it]) (fun b ob hb q => (sb.2 b (fun z => hb (by simp [z]))).trans (hk b ob (fun z => hb (by simp [z])) (fun z => hb (by simp [z])) q)) hf (Nat.le_refl _) new
    refine ⟨.ref s.heap.objs.size, _, I1, rfl, ⟨_, x, rfl, I.hok.fresh (Nat.le_refl _), rfl, fun ys hy => by rw [I.tuple_inj hy hq]; exact hx⟩, ⟨⟨x', ?_⟩, hst.1.at fun o q => (sb.2 it (Ne.symm hne)).trans q, hne⟩, fun b hb => ?_⟩
    · have e1 : ((i + 1 : Nat) : Int) = (i : Int) + 1 := by omega
      rw [e1]; exact he'
    · have hb' : b < s.heap.objs.size := by
        have e' : b = e ∨ b = it := by simpa using hb
        rcases e' with z | z
        · rw [z]; exact hel
        · rw [z]; exact hil
      rw [upd_ne (Nat.ne_of_lt hb')]
      exact (hf b hb).1
  done := by
    intro X hP hw hK hc i pins s σ H E I hf st hg
    subst hP hw hK
    obtain ⟨⟨old, he⟩, hit, hne⟩ := st
    obtain ⟨xs, hq, hx⟩ := hg
    obtain ⟨its, rv, p, hz⟩ := I.tuple hq
    obtain ⟨f0, f1, f2, f3, f4, f5⟩ := hf it (by simp)
    have hl := rv.length
    have hT0 : s.heap.IsTuple a its.toArray := p
    have nia : a ≠ it := fun z => by
      obtain ⟨o, h1, h2, _⟩ := hT0
      obtain ⟨o2, h3, h4, _⟩ := hit
      rw [z, h3] at h1; cases h1; rw [h4] at h2; injection h2 with q; exact absurd q (by decide)
    have D := Draws.tuple (prog := X.prog) (w := X.w) (A := X.A.in1) (I.ok.hd hc) it a nia its.toArray
    have hn : its.toArray.size = i := by simp; omega
    exact wpAny_pyNext_enum_endD D he (by rw [hn]; exact ⟨hit, hT0⟩) fun h' eb => ⟨rfl, I.turned (t' := s.toks) (fun b o hb q => eb b o hb q) f0 f1 f3 f4 f5⟩
  self := fun A i s Q E st h => let ⟨⟨_, he⟩, _⟩ := st; wpAny_pyIter_enum he h
theorem walk_enumT {K : PySem.W.Frag} {a : Addr} {xs : List V} : Walk (IteT K a) xs.length (fun H => SqT K H a xs) (YPair (fun i => some (.int (i : Nat))) (fun i => xs[i]?)) := by
  refine ⟨fun i _ hi q => ⟨xs, xs[i], q, by simp [hi]⟩, fun _ q => ⟨xs, q, rfl⟩, fun i H v H' _ q y => ?_⟩
  obtain ⟨T, x, h1, h2, h3, h4⟩ := y
  exact ⟨T, .int (i : Nat), x, h1, h2, h3, rfl, h4 xs q⟩
/-- R of the iterator, kept whole -/
def RunIt (R : It → Hp → Prop) (J : It) (H : Hp) : Prop := R J H
def iEnumS (K : PySem.W.Frag) (ta : TA) : TI := fun σ H R => ta σ H fun vs H1 => ∃ a, vs = [.ref a] ∧ (((∃ xs, SqL K H1 a xs) ∧ RunIt R (Ite K a) H1) ∨ ((∃ xs, SqT K H1 a xs) ∧ RunIt R (IteT K a) H1))
theorem pi_enumS {X : Cx} {e : Expr} {ta : TA} {p pos tpos : Pos} {elts : List Expr} {kk : Nat} (hg : Gl X "enumerate") (hm : X.mg "enumerate" = none) (ha : PA X [e] ta) (hs : starEach [e] X.env = [(false, eval e X.env)] := by rfl) :
    PI X (.Tuple elts kk tpos) (.Call (.Name "enumerate" p) [e] [] pos) (iEnumS X.K ta) := by
  refine ⟨fun pins s σ H R I h => ?_⟩
  refine Call_ (ld_blt I hg hm boot_enumerate (PyProof.Rows.callWith_type1 (thn (ha.run pos pins s σ H _ I h) fun us s1 ⟨vs, H1, I1, r1, q1⟩ => ?_) hs rfl))
  obtain ⟨a, ex, q⟩ := q1
  subst ex
  cases r1 with
  | cons r rr =>
    cases rr
    cases r
    rcases q with ⟨⟨xs, hq⟩, q⟩ | ⟨⟨xs, hq⟩, q⟩
    · obtain ⟨its, rv, p', hz⟩ := I1.list hq
      refine call_enumerate_list p'.isList fun h' he hit hsz hk => wpAny_pyIter_enum he ?_
      have I2 : Inv X pins σ H1 { s1 with heap := h' } := I1.kept (t' := s1.toks) hk
      refine ⟨s1.heap.objs.size + 1, [s1.heap.objs.size + 1, s1.heap.objs.size], _, _, H1, rfl, I2, turn_enum a (s1.heap.objs.size + 1) s1.heap.objs.size, ⟨⟨.none, he⟩, hit, Nat.succ_ne_self _⟩, fun b hb => ?_, q⟩
      have e' : b = s1.heap.objs.size + 1 ∨ b = s1.heap.objs.size := by simpa using hb
      have hle : s1.heap.objs.size ≤ b := by
        rcases e' with z | z
        · rw [z]; exact Nat.le_add_right _ _
        · rw [z]; exact Nat.le_refl _
      exact I1.fpOk hle (I1.hok.fresh hle)
    · obtain ⟨its, rv, p', hz⟩ := I1.tuple hq
      refine enum_new1 (begins_tuple a its.toArray) (show s1.heap.IsTuple a its.toArray from p') fun h' he hit hsz hk => wpAny_pyIter_enum he ?_
      have I2 : Inv X pins σ H1 { s1 with heap := h' } := I1.kept (t' := s1.toks) hk
      refine ⟨s1.heap.objs.size + 1, [s1.heap.objs.size + 1, s1.heap.objs.size], _, _, H1, rfl, I2, turn_enumT a (s1.heap.objs.size + 1) s1.heap.objs.size, ⟨⟨.none, he⟩, ⟨_, hit, rfl, rfl⟩, Nat.succ_ne_self _⟩, fun b hb => ?_, q⟩
      have e' : b = s1.heap.objs.size + 1 ∨ b = s1.heap.objs.size := by simpa using hb
      have hle : s1.heap.objs.size ≤ b := by
        rcases e' with z | z
        · rw [z]; exact Nat.le_add_right _ _
        · rw [z]; exact Nat.le_refl _
      exact I1.fpOk hle (I1.hok.fresh hle)
/-! ## for over a list or a tuple -/
def iSeq (K : PySem.W.Frag) (tl : TE) : TI := fun σ H R => tl σ H fun x H1 => ∃ a, x = .ref a ∧ (((∃ xs, SqL K H1 a xs) ∧ RunIt R (Itl K a) H1) ∨ ((∃ xs, SqT K H1 a xs) ∧ RunIt R (Itt K a) H1))
theorem pi_seq {X : Cx} {tg l : Expr} {tl : TE} (hl : PE X l tl) : PI X tg l (iSeq X.K tl) := by
  refine ⟨fun pins s σ H R I h => ?_⟩
  refine thn (hl.run pins s σ H _ I h) fun v s1 ⟨x, H1, I1, r1, q1⟩ => ?_
  obtain ⟨a, e, q⟩ := q1
  subst e
  cases r1
  rcases q with ⟨⟨xs, hq⟩, q⟩ | ⟨⟨xs, hq⟩, q⟩
  · obtain ⟨its, rv, p, hz⟩ := I1.list hq
    refine wpAny_pyIter_list p.isList ?_
    refine ⟨s1.heap.objs.size, [s1.heap.objs.size], _, _, H1, rfl, I1.kept (t' := s1.toks) fun b o e => Heap.get?_push_of_some _ e, turn_list a _, ⟨_, Heap.get?_push_size _ rfl, rfl, rfl⟩, fun b hb => ?_, q⟩
    have e : b = s1.heap.objs.size := by simpa using hb
    subst e
    exact I1.fpOk (Nat.le_refl _) (I1.hok.fresh (Nat.le_refl _))
  · obtain ⟨its, rv, p, hz⟩ := I1.tuple hq
    refine wpAny_pyIter_tuple (show s1.heap.IsTuple a its.toArray from p) ?_
    refine ⟨s1.heap.objs.size, [s1.heap.objs.size], _, _, H1, rfl, I1.kept (t' := s1.toks) fun b o e => Heap.get?_push_of_some _ e, turn_tuple a _, ⟨_, Heap.get?_push_size _ rfl, rfl, rfl⟩, fun b hb => ?_, q⟩
    have e : b = s1.heap.objs.size := by simpa using hb
    subst e
    exact I1.fpOk (Nat.le_refl _) (I1.hok.fresh (Nat.le_refl _))
/-- a list or a tuple -/
def Sq (K : PySem.W.Frag) (H : Hp) (a : Addr) (xs : List V) : Prop := SqL K H a xs ∨ SqT K H a xs
theorem Sq.keep {K : PySem.W.Frag} {H H' : Hp} {a p : Addr} {xs : List V} (k : Keep p H H') (n : a ≠ p) (h : Sq K H a xs) : Sq K H' a xs := by
  rcases h with h | h
  · exact .inl (k.seq h n)
  · exact .inr (k.seqT h n)
theorem Sq.same {K : PySem.W.Frag} {H H' : Hp} {a : Addr} {xs : List V} (s : Same H H') (h : Sq K H a xs) : Sq K H' a xs :=
  h.keep (p := a + 1) (fun b _ o e => s b o e) (Nat.ne_of_lt (Nat.lt_succ_self a))
theorem seqT_after {K : PySem.W.Frag} {H H' : Hp} {a p : Addr} {xs : List V} (h : SqT K H a xs) (hp : H p = none) (k : Keep p H H') : SqT K H' a xs := by
  rcases h with (h | ⟨o, h⟩) | h
  · exact .inl (.inl (k _ (ne_of_none h hp) _ h))
  · exact .inl (.inr ⟨o, k _ (ne_of_none h hp) _ h⟩)
  · exact .inr h
theorem Sq.after {K : PySem.W.Frag} {H H' : Hp} {a p : Addr} {xs : List V} (h : Sq K H a xs) (hp : H p = none) (k : Keep p H H') : Sq K H' a xs := by
  rcases h with h | h
  · exact .inl (seq_after h hp k)
  · exact .inr (seqT_after h hp k)
/-- the walk over a list or a tuple, in one -/
theorem Sq.walk {K : PySem.W.Frag} {H0 H : Hp} {a : Addr} {xs : List V} {R : It → Hp → Prop} (h : Sq K H0 a xs) (s0 : Same H0 H) (k : ∀ (J : It) (G : Hp → Prop), Walk J xs.length G (YAt xs) → (∀ H', Same H0 H' → G H') → (∀ H' p, H0 p = none → Keep p H0 H' → G H') → R J H) :
    ((∃ xs, SqL K H a xs) ∧ RunIt R (Itl K a) H) ∨ ((∃ xs, SqT K H a xs) ∧ RunIt R (Itt K a) H) := by
  rcases h with h | h
  · exact .inl ⟨⟨_, s0.seq h⟩, k _ _ walk_list (fun H' s => s.seq h) fun H' p n q => seq_after h n q⟩
  · exact .inr ⟨⟨_, s0.seqT h⟩, k _ _ walk_tup (fun H' s => s.seqT h) fun H' p n q => seqT_after h n q⟩
theorem Sq.enum {K : PySem.W.Frag} {H0 H : Hp} {a : Addr} {xs : List V} {R : It → Hp → Prop} (h : Sq K H0 a xs) (s0 : Same H0 H) (k : ∀ (J : It) (G : Hp → Prop), Walk J xs.length G (YPair (fun i => some (.int (i : Nat))) (fun i => xs[i]?)) → (∀ H', Same H0 H' → G H') → (∀ H' p, H0 p = none → Keep p H0 H' → G H') → R J H) :
    ((∃ xs, SqL K H a xs) ∧ RunIt R (Ite K a) H) ∨ ((∃ xs, SqT K H a xs) ∧ RunIt R (IteT K a) H) := by
  rcases h with h | h
  · exact .inl ⟨⟨_, s0.seq h⟩, k _ _ walk_enum (fun H' s => s.seq h) fun H' p n q => seq_after h n q⟩
  · exact .inr ⟨⟨_, s0.seqT h⟩, k _ _ walk_enumT (fun H' s => s.seqT h) fun H' p n q => seqT_after h n q⟩
end LR
set_option Elab.async false
set_option maxRecDepth 100000
set_option linter.all false
set_option maxHeartbeats 4000000
namespace LR
open PySem PySem.Spec PyProof.Rows L2
/-! ## max(t, default=d), t a tuple of whole numbers -/
def mx (a b : Int) : Int := if a < b then b else a
def maxOr (d : Int) : List Int → Int
  | [] => d
  | x :: r => r.foldl mx x
theorem reads_ints (h : Heap) : ∀ {ls : List Int} {vs : List Value}, Vals (ls.map V.int) vs → PySem.ReadsAll h vs (ls.map PyData.int) []
  | [], [], _ => .nil
  | l :: r, v :: vs, .cons r1 r2 => by
    obtain ⟨t, rfl⟩ := (show ∃ t, v = Value.int l t from r1)
    exact PySem.ReadsAll.cons (as := []) (bs := []) (.int l t) (reads_ints h r2)
theorem maxD_ints : ∀ (r : List Int) (x : Int), PySem.W.maxD (.int x) (r.map PyData.int) = .int (r.foldl mx x)
  | [], _ => rfl
  | y :: r, x => by
    have ih := maxD_ints r (mx x y)
    unfold PySem.W.maxD at ih ⊢
    rw [List.map_cons, List.foldl_cons, List.foldl_cons, ← ih, PySem.W.dataLt_int]
    congr 1
    unfold mx
    by_cases c : x < y
    · rw [decide_eq_true c, if_pos rfl, if_pos c]
    · rw [decide_eq_false c, if_neg (by decide), if_neg c]
theorem depth_ints : ∀ ls : List Int, PyData.depthAll (ls.map PyData.int) = 0
  | [] => by simp [PyData.depthAll]
  | l :: r => by
    rw [List.map_cons]
    simp [PyData.depthAll, PyData.depth, depth_ints r]
def rMaxD (K : PySem.W.Frag) : List V → List V → Hp → VK → Prop := fun xs zs H Q => ∃ (p : Addr) (ls : List Int) (d : Int), xs = [.ref p] ∧ zs = [.int d] ∧ SqT K H p (ls.map V.int) ∧ Q (.int (maxOr d ls)) H
theorem cr_maxD {X : Cx} (hc : X.calm = true) (hu : X.A.units + 1 < cLine) : CallRK X (.builtin "max") [Str.ofString "default"] (rMaxD X.K) := by
  intro pins s σ H xs zs us ws Q I r rz h
  obtain ⟨p, ls, d, rfl, rfl, hs, q⟩ := h
  obtain rfl := Vals.ref1 r
  obtain ⟨u, rfl, t, rfl⟩ : ∃ u, ws = [u] ∧ ∃ t, u = Value.int d t := by
    cases rz with
    | cons r1 r2 => cases r2; exact ⟨_, rfl, r1⟩
  obtain ⟨its, rv, ht, hz⟩ := I.tuple hs
  refine PySem.W.max_tuple_default (vs := its.toArray) (xs := ls.map PyData.int) (as := []) (I.ok.hd hc) ht (reads_ints _ rv) ⟨?_, ?_⟩ (by rw [depth_ints]; exact hu) (fun e h' tk k => ?_) (fun y ys i v h' tk bs e hv rd k => ?_)
  · intro x hx y hy
    obtain ⟨a, _, rfl⟩ := List.mem_map.mp hx
    obtain ⟨b, _, rfl⟩ := List.mem_map.mp hy
    rfl
  · intro x hx
    obtain ⟨a, _, rfl⟩ := List.mem_map.mp hx
    exact fun z => nomatch z
  · cases ls with
    | nil => exact ⟨.int d, H, I.kept k, ⟨t, rfl⟩, q⟩
    | cons => simp at e
  · cases ls with
    | nil => simp at e
    | cons x l =>
      rw [List.map_cons] at e
      injection e with e1 e2
      subst e1 e2
      rw [maxD_ints] at rd
      cases rd with
      | int _ t2 => exact ⟨.int _, H, I.kept k, ⟨t2, rfl⟩, q⟩
theorem sIx_in {n d : Nat} {v : Int} (h0 : 0 ≤ v) (h1 : v ≤ n) : HT.sIx n d (some v) = v.toNat := by
  unfold HT.sIx
  show (if v < 0 then _ else _) = _
  rw [if_neg (by omega)]
  omega
def loI (u w : Int) : Int := if w < u then w else u
def hiI (u w : Int) : Int := if w > u then w else u
/-- the levels between two steps, and the greatest of them -/
def gapL (ls : List Int) (u w : Int) : List Int := (ls.drop (loI u w).toNat).take ((hiI u w).toNat - (loI u w).toNat)
def gapI (ls : List Int) (u w : Int) : Int := maxOr 0 (gapL ls u w)
theorem lo_in {n u w : Int} (hu : 0 ≤ u ∧ u ≤ n) (hw : 0 ≤ w ∧ w ≤ n) : 0 ≤ loI u w ∧ loI u w ≤ n := by
  unfold loI; split <;> omega
theorem hi_in {n u w : Int} (hu : 0 ≤ u ∧ u ≤ n) (hw : 0 ≤ w ∧ w ≤ n) : 0 ≤ hiI u w ∧ hiI u w ≤ n := by
  unfold hiI; split <;> omega
theorem cut_gap {ls : List Int} {u w : Int} (hu : 0 ≤ u ∧ u ≤ ls.length) (hw : 0 ≤ w ∧ w ≤ ls.length) : cutV (ls.map V.int) (some (loI u w)) (some (hiI u w)) = (gapL ls u w).map V.int := by
  have e : (ls.map V.int).length = ls.length := List.length_map ..
  have l := lo_in hu hw
  have g := hi_in hu hw
  unfold cutV gapL
  rw [e, sIx_in l.1 l.2, sIx_in g.1 g.2, List.map_take, List.map_drop]
theorem whole_gap {ls : List Int} {u w : Int} (hu : 0 ≤ u ∧ u ≤ ls.length) (hw : 0 ≤ w ∧ w ≤ ls.length) (h : HT.sIx (ls.map V.int).length 0 (some (loI u w)) = 0 ∧ HT.sIx (ls.map V.int).length (ls.map V.int).length (some (hiI u w)) = (ls.map V.int).length) : gapL ls u w = ls := by
  have e : (ls.map V.int).length = ls.length := List.length_map ..
  have l := lo_in hu hw
  have g := hi_in hu hw
  rw [e, sIx_in l.1 l.2, sIx_in g.1 g.2] at h
  unfold gapL
  rw [h.1, h.2, List.drop_zero, Nat.sub_zero, List.take_length]
end LR
set_option Elab.async false
set_option maxRecDepth 100000
set_option linter.all false
set_option maxHeartbeats 4000000
set_option Elab.async false
set_option maxRecDepth 100000
set_option linter.all false
set_option maxHeartbeats 4000000
namespace LR
open PySem PySem.Spec PyProof.Rows L2
theorem foldl_mx : ∀ (r : List Int) (x : Int), x ≤ r.foldl mx x ∧ (∀ y ∈ r, y ≤ r.foldl mx x) ∧ (r.foldl mx x = x ∨ r.foldl mx x ∈ r)
  | [], x => ⟨Int.le_refl _, (fun y h => nomatch h), .inl rfl⟩
  | a :: r, x => by
    obtain ⟨h1, h2, h3⟩ := foldl_mx r (mx x a)
    rw [List.foldl_cons]
    have m1 : x ≤ mx x a := by unfold mx; split <;> omega
    have m2 : a ≤ mx x a := by unfold mx; split <;> omega
    have m3 : mx x a = x ∨ mx x a = a := by unfold mx; split; exact .inr rfl; exact .inl rfl
    refine ⟨Int.le_trans m1 h1, fun y hy => ?_, ?_⟩
    · rcases List.mem_cons.mp hy with rfl | hy
      · exact Int.le_trans m2 h1
      · exact h2 y hy
    · rcases h3 with h3 | h3
      · rcases m3 with m3 | m3
        · exact .inl (h3.trans m3)
        · exact .inr (by rw [h3, m3]; exact List.mem_cons_self)
      · exact .inr (List.mem_cons_of_mem _ h3)
theorem loI_nat {u w : Int} (hu : 0 ≤ u) (hw : 0 ≤ w) : (loI u w).toNat = min u.toNat w.toNat := by unfold loI; split <;> omega
theorem hiI_nat {u w : Int} (hu : 0 ≤ u) (hw : 0 ≤ w) : (hiI u w).toNat = max u.toNat w.toNat := by unfold hiI; split <;> omega
theorem isGap_gapI {ls : List Int} {u w : Int} (hb : ∀ l ∈ ls, 1 ≤ l) (hu : 0 ≤ u) (hw : 0 ≤ w) : IsGap ls (min u.toNat w.toNat) (max u.toNat w.toNat) (gapI ls u w) := by
  unfold gapI gapL
  rw [loI_nat hu hw, hiI_nat hu hw]
  generalize min u.toNat w.toNat = lo
  generalize max u.toNat w.toNat = hi
  have get : ∀ j, j < hi - lo → ((ls.drop lo).take (hi - lo))[j]? = ls[lo + j]? := fun j hj => by rw [List.getElem?_take, if_pos hj, List.getElem?_drop]
  have mem : ∀ m z, lo ≤ m → m < hi → ls[m]? = some z → z ∈ (ls.drop lo).take (hi - lo) := fun m z a b e => by
    have := get (m - lo) (by omega)
    rw [show lo + (m - lo) = m by omega, e] at this
    exact List.mem_of_getElem? this
  cases hl : (ls.drop lo).take (hi - lo) with
  | nil =>
    refine ⟨Int.le_refl _, fun m z a b e => ?_, .inl rfl⟩
    have := mem m z a b e
    rw [hl] at this; cases this
  | cons x r =>
    obtain ⟨h1, h2, h3⟩ := foldl_mx r x
    have inl : ∀ y ∈ x :: r, y ≤ r.foldl mx x := fun y hy => by
      rcases List.mem_cons.mp hy with rfl | hy
      · exact h1
      · exact h2 y hy
    have inm : r.foldl mx x ∈ (ls.drop lo).take (hi - lo) := by
      rw [hl]
      rcases h3 with h3 | h3
      · rw [h3]; exact List.mem_cons_self
      · exact List.mem_cons_of_mem _ h3
    show IsGap ls lo hi (r.foldl mx x)
    obtain ⟨j, hj, ej⟩ := List.mem_iff_getElem.mp inm
    have hj' : j < hi - lo := by rw [List.length_take] at hj; omega
    have e2 : ls[lo + j]? = some (r.foldl mx x) := by rw [← get j hj', List.getElem?_eq_getElem hj, ej]
    have := hb _ (List.mem_of_getElem? e2)
    refine ⟨by omega, fun m z a b e => ?_, .inr ⟨lo + j, by omega, by omega, e2⟩⟩
    have := mem m z a b e
    rw [hl] at this
    exact inl z this
theorem IsGap.one {ls : List Int} {lo hi : Nat} {g k : Int} (a : IsGap ls lo hi g) (b : IsGap ls lo hi k) : g = k := by
  have key : ∀ {x y : Int}, IsGap ls lo hi x → IsGap ls lo hi y → x ≤ y := fun {x y} a b => by
    obtain ⟨a0, a1, a2⟩ := a
    obtain ⟨b0, b1, b2⟩ := b
    rcases a2 with e | ⟨m, h1, h2, e⟩
    · omega
    · exact b1 m x h1 h2 e
  exact Int.le_antisymm (key a b) (key b a)
/-! ## answers of the law -/
abbrev Chk := Str × Int × Int × Int
def Chk.ok (e : Chk) : Prop := e.2.2.1 ≤ e.2.1 ∧ e.2.1 ≤ e.2.2.2
end LR
set_option Elab.async false
set_option maxRecDepth 100000
set_option linter.all false
set_option maxHeartbeats 4000000
namespace LR
open PySem PySem.Spec PyProof.Rows L2
/-! ## rules inside the block of a comprehension: K is that of the def -/
theorem ix_tupK {X : Cx} {K : PySem.W.Frag} (hk : X.K = K) : IxR X (rIxT K) := hk ▸ ix_tup
/-! ## operators of an own class: == by __eq__, + by __add__ -/
/-- an own error class without __init__ over ValueError -/
structure RseIn (K : PySem.W.Frag) (mg : Str → Option Value) (x : Str) (C : Addr) : Prop where
  xP : PySem.W.excIn K C [.type "ValueError", .type "Exception", .type "BaseException", .type "object"] "ValueError.__new__" = true
  gC : mg x = some (.ref C)
  kP : PySem.W.keepIn K (.ref C) = true
  bP : PySem.W.subIn K (.ref C) (.type "BaseException") = some true
  tP : PySem.W.typeIn K (.ref C) = some (.type "type")
  E : ErrC K C
end LR
set_option Elab.async false
set_option maxRecDepth 100000
set_option linter.all false
set_option maxHeartbeats 4000000
/-! t[::-1] of a tuple: always a new one -/
set_option Elab.async false
set_option maxRecDepth 100000
set_option linter.all false
set_option maxHeartbeats 4000000
/-! pieces, flips, sums of ladders -/
namespace LR
open PySem PySem.Spec PyProof.Rows L2
/-- what lies ahead of the pieces behind P, and behind those ahead of S -/
def pre (h : Int) (P : List (List Int)) : List Int := P.flatMap fun q => q ++ [h]
theorem get_split {α : Type} {l : List α} {k : Nat} {a : α} (h : l[k]? = some a) : l = l.take k ++ a :: l.drop (k + 1) := by
  obtain ⟨hk, e⟩ := List.getElem?_eq_some_iff.mp h
  rw [← e, List.getElem_cons_drop, List.take_append_drop]
/-- the length of the pieces ahead of place k, with the levels behind each of them -/
def off (h : Int) (ps : List (List Int)) (k : Nat) : Nat := (pre h (ps.take k)).length
theorem gapI_of {ls : List Int} {u w g : Int} (hb : ∀ l ∈ ls, 1 ≤ l) (hu : 0 ≤ u) (hw : 0 ≤ w) (h : IsGap ls (min u.toNat w.toNat) (max u.toNat w.toNat) g) : gapI ls u w = g := (isGap_gapI hb hu hw).one h
theorem gap_rev {ls : List Int} {lo hi : Nat} {g : Int} (hh : hi ≤ ls.length) (h : IsGap ls lo hi g) : IsGap ls.reverse (ls.length - hi) (ls.length - lo) g := by
  obtain ⟨g0, g1, g2⟩ := h
  refine ⟨g0, fun m z a b e => ?_, ?_⟩
  · have hm : m < ls.length := by
      have := (List.getElem?_eq_some_iff.mp e).1
      rwa [List.length_reverse] at this
    rw [List.getElem?_reverse hm] at e
    exact g1 _ _ (by omega) (by omega) e
  · rcases g2 with g2 | ⟨m, a, b, e⟩
    · exact .inl g2
    · refine .inr ⟨ls.length - 1 - m, by omega, by omega, ?_⟩
      rw [List.getElem?_reverse (by omega)]
      rw [show ls.length - 1 - (ls.length - 1 - m) = m by omega, e]
/-- places a to b of the row -/
def cut (ls : List Int) (a b : Nat) : List Int := (ls.drop a).take (b - a)
theorem sIx_nat {n d a : Nat} (h : a ≤ n) : HT.sIx n d (some (a : Int)) = a := by
  unfold HT.sIx
  simp only []
  rw [if_neg (by omega)]; omega
/-- lists of tuples in the heap -/
def PartsAt (H : Hp) (a : Addr) (ps : List (List Int)) : Prop := ∃ ts : List Addr, H a = some (.lst (ts.map V.ref)) ∧ ts.length = ps.length ∧ ∀ (k : Nat) (t : Addr) (p : List Int), ts[k]? = some t → ps[k]? = some p → H t = some (.tup (p.map V.int))
theorem PartsAt.same {H H' a ps} (s : Same H H') (h : PartsAt H a ps) : PartsAt H' a ps := by
  obtain ⟨ts, h1, h2, h3⟩ := h
  exact ⟨ts, s _ _ h1, h2, fun k t p e1 e2 => s _ _ (h3 k t p e1 e2)⟩
theorem PartsAt.keep {H H' a ps q} (s : Keep q H H') (hq : ∃ l, H q = some (.lst l)) (n : a ≠ q) (h : PartsAt H a ps) : PartsAt H' a ps := by
  obtain ⟨ts, h1, h2, h3⟩ := h
  obtain ⟨l, hq⟩ := hq
  exact ⟨ts, s _ n _ h1, h2, fun k t p e1 e2 => s _ (ne_of (h3 k t p e1 e2) hq (by intro z; cases z)) _ (h3 k t p e1 e2)⟩
theorem PartsAt.push {H D ps q p} (h : PartsAt H D ps) (hq : H q = some (.tup (p.map V.int))) : ∃ xs, H D = some (.lst xs) ∧ xs.length = ps.length ∧ PartsAt (upd H D (.lst (xs ++ [.ref q]))) D (ps ++ [p]) := by
  obtain ⟨ts, h1, h2, h3⟩ := h
  refine ⟨_, h1, by rw [List.length_map, h2], ts ++ [q], by rw [upd_same, List.map_append]; rfl, by rw [List.length_append, List.length_append, h2]; rfl, fun k t r e1 e2 => ?_⟩
  have key : H t = some (.tup (r.map V.int)) := by
    by_cases c : k < ts.length
    · rw [List.getElem?_append_left c] at e1
      rw [List.getElem?_append_left (by omega)] at e2
      exact h3 k t r e1 e2
    · rw [List.getElem?_append_right (by omega)] at e1
      rw [List.getElem?_append_right (by omega)] at e2
      have : k = ts.length := by
        have := (List.getElem?_eq_some_iff.mp e1).1
        simp at this; omega
      subst this
      rw [Nat.sub_self] at e1
      rw [h2, Nat.sub_self] at e2
      cases e1; cases e2
      exact hq
  rw [upd_ne (ne_of key h1 (by intro z; cases z))]
  exact key
def tupD (p : List Int) : Dt := .tup (p.map Dt.int)
theorem ats_of {H : Hp} : ∀ {ts : List Addr} {ps : List (List Int)}, ts.length = ps.length → (∀ p ∈ ps, p.length ≤ 100000) → (∀ (k : Nat) (t : Addr) (p : List Int), ts[k]? = some t → ps[k]? = some p → H t = some (.tup (p.map V.int))) → Ats H (ts.map V.ref) (ps.map tupD)
  | [], [], _, _, _ => .nil
  | t :: ts, p :: ps, hl, hz, h => .cons (.tup (h 0 t p rfl rfl) (ats_ints H p) (by rw [List.length_map]; exact hz p List.mem_cons_self)) (ats_of (by simpa using hl) (fun q hq => hz q (List.mem_cons_of_mem _ hq)) fun k t' p' e1 e2 => h (k + 1) t' p' (by simpa using e1) (by simpa using e2))
  | [], _ :: _, hl, _, _ => by simp at hl
  | _ :: _, [], hl, _, _ => by simp at hl
theorem PartsAt.at {H a ps} (h : PartsAt H a ps) (hz : ps.length ≤ 100000) (hp : ∀ p ∈ ps, p.length ≤ 100000) : At H (.ref a) (.lst (ps.map tupD)) := by
  obtain ⟨ts, h1, h2, h3⟩ := h
  exact .lst h1 (ats_of h2 hp h3) (by rw [List.length_map, h2]; exact hz)
theorem PartsAt.get {H a ps} (h : PartsAt H a ps) {k : Nat} {p : List Int} (e : ps[k]? = some p) : ∃ t xs, H a = some (.lst xs) ∧ xs.length = ps.length ∧ xs[k]? = some (.ref t) ∧ H t = some (.tup (p.map V.int)) := by
  obtain ⟨ts, h1, h2, h3⟩ := h
  have hk : k < ts.length := by rw [h2]; exact (List.getElem?_eq_some_iff.mp e).1
  exact ⟨ts[k], _, h1, by rw [List.length_map, h2], by rw [List.getElem?_map, List.getElem?_eq_getElem hk]; rfl, h3 k _ p (List.getElem?_eq_getElem hk) e⟩
theorem PartsAt.len {H a ps} (h : PartsAt H a ps) : ∃ xs, H a = some (.lst xs) ∧ xs.length = ps.length := by
  obtain ⟨ts, h1, h2, _⟩ := h
  exact ⟨_, h1, by rw [List.length_map, h2]⟩
end LR
set_option Elab.async false
set_option maxRecDepth 100000
set_option linter.all false
set_option maxHeartbeats 4000000
/-! sets of tuples of ints: asked, added to, made empty; sorted of a tuple of such -/
namespace LR
open PySem PySem.Spec PyProof.Rows L2
theorem nth_dum (m : Nat) : ∀ (n : Nat) (p : SetTable.Probe), p.dummy = none → (nth m p n).dummy = none
  | 0, _, h => h
  | n + 1, p, h => nth_dum m n _ (by unfold adv; split <;> exact h)
section
variable {P : Program} {w : World} {A : Around} {E : Value → Shared → Prop} {s : Shared} {a : Addr} {L : List (Addr × List Int)} {es : Array (Int × Value)} {ep : Nat} {t : SetTable}
/-- the search that adds nothing, from the c-th place of the way on -/
theorem seek (R : SetTR P w s.heap a L es ep t) {x : Addr} {k : List Int} (hx : IsT P w s.heap k x) (hu : A.units < cLine) {K : Nat} {p0 : SetTable.Probe} (start : t.probeStart (thash P w k) = p0) (d0 : p0.dummy = none)
    (lim : K < 10 * SetTable.turns t.mask) (stop : (nth t.mask p0 K).j ∉ t.place.toList) (full : ∀ c, c < K → (nth t.mask p0 c).j ∈ t.place.toList) {Q : SetFound → Shared → Prop}
    (yes : k ∈ L.map (·.2) → ∀ i, Q (.there (some i)) s) (no : k ∉ L.map (·.2) → ∀ j, Q (.free j false) s) :
    ∀ (f c : Nat) (st : Option SetTable.Probe), st.getD p0 = nth t.mask p0 c → c ≤ K → K - c < f →
      (∀ (i : Nat) q, L[i]? = some q → q.2 = k → ∃ d, c ≤ d ∧ d < K ∧ t.place.toList[i]? = some (nth t.mask p0 d).j) →
      wpAny (model P w) A (setSearchFrom a (.ref x) (thash P w k) false f st) Q E s := by
  intro f
  induction f with
  | zero => intro c st _ _ z _; omega
  | succ f ih =>
    intro c st hst cK lt left
    obtain ⟨ob, hob, _, dob⟩ := R.ob
    have to : ∀ q, nth t.mask (nth t.mask p0 c) q = nth t.mask p0 (c + q) := fun q => (nth_add t.mask c p0 q).symm
    have hashOf : ∀ (i : Nat) q, L[i]? = some q → (es[i]?.map (·.1)).getD 0 = thash P w q.2 := fun i q e => by rw [R.entry e]; rfl
    have gs := go_spec t R.tab.ris R.tab.dm (fun i => (es[i]?.map (·.1)).getD 0) (thash P w k) (10 * SetTable.turns t.mask) (K - c) (nth t.mask p0 c) (nth_dum _ _ _ d0) (by omega)
      (fun q hq => by rw [to]; exact full _ (by omega)) (by rw [to, Nat.add_sub_cancel' cK]; exact stop)
    rw [setSearchFrom_succ]
    refine wpAny_bind (wpAny_setState_of hob dob R.fits ?_)
    show wpAny _ _ (if t.gaveWay = true then _ else _) _ _ _
    refine wp_if_neg R.gw ?_
    simp only [start, hst]
    rcases gs with ⟨q, i, q1, pi, hi, before, pr⟩ | ⟨before, pr⟩
    · rw [show t.probe (fun i => (es[i]?.map (·.1)).getD 0) (thash P w k) (nth t.mask p0 c) = _ from pr]
      rw [to] at pi
      have il : i < L.length := by
        have z1 := (List.getElem?_eq_some_iff.mp pi).1
        have z2 := R.tab.sz
        rw [List.length_map] at z2
        rw [Array.length_toList] at z1
        omega
      obtain ⟨e, he⟩ : ∃ e, L[i]? = some e := ⟨_, List.getElem?_eq_getElem il⟩
      have em := List.mem_of_getElem? he
      have main : wpAny (model P w) A (searchRest a (.ref x) (thash P w k) false f es t (nth t.mask p0 (c + q)).j i (nth t.mask p0 (c + (q + 1)))) Q E s := by
        unfold searchRest
        rw [R.entry he]
        refine wpAny_bind (wpAny_holding (wpAny_eqBool_tuple hu (R.tup e em) hx ?_))
        refine wpAny_bind (wpAny_setState_of hob dob R.fits ?_)
        refine wp_if_neg (by simp) ?_
        refine wpAny_bind (wpAny_pure ?_)
        rw [sameMem]
        have live : t.slot (nth t.mask p0 (c + q)).j = .live i := slot_live R.tab.ris pi
        simp only [if_true, live, R.entry he]
        refine wpAny_bind (wpAny_isSame_ref_self (wpAny_bind (wpAny_pure ?_)))
        simp only [if_true]
        by_cases same : e.2 = k
        · exact wp_if_pos (by simp [same]) (wpAny_pure (yes (List.mem_map.mpr ⟨e, em, same⟩) i))
        · refine wp_if_neg (by simp [same]) (ih (c + (q + 1)) _ rfl (by omega) (by omega) fun i' e' h1 h2 => ?_)
          obtain ⟨d, d1, d2, d3⟩ := left i' e' h1 h2
          refine ⟨d, ?_, d2, d3⟩
          apply Classical.byContradiction
          intro small
          by_cases at_ : d = c + q
          · have s1 := slot_live R.tab.ris d3
            rw [at_, live] at s1
            cases s1
            rw [he] at h1; cases h1
            exact same h2
          · refine before (d - c) i' (by omega) (by rw [to, Nat.add_sub_cancel' d1]; exact d3) ?_
            rw [hashOf i' e' h1, h2]
      rw [to, to]
      by_cases led : t.led = true
      · refine wp_if_neg (by rw [led]; decide) ?_
        exact wpAny_bind (wpAny_pure main)
      · refine wp_if_pos (by simpa using led) (wpAny_bind (seen_tup hx (fun y hy => ?_) (wp_if_neg (by decide) (wpAny_bind (wpAny_pure main)))))
        obtain ⟨v, hv, rfl⟩ := List.mem_map.mp hy
        have v2 : v ∈ es.toList := by
          simp at hv
          simpa using hv.1
        rw [R.rows] at v2
        obtain ⟨u, hu2, rfl⟩ := List.mem_map.mp v2
        exact ⟨u.2, u.1, rfl, R.tup u hu2⟩
    · rw [show t.probe (fun i => (es[i]?.map (·.1)).getD 0) (thash P w k) (nth t.mask p0 c) = _ from pr]
      refine wpAny_pure (no (fun hm => ?_) _)
      obtain ⟨e, em, ek⟩ := List.mem_map.mp hm
      obtain ⟨i, hi, ei⟩ := List.getElem_of_mem em
      have h1 : L[i]? = some e := by rw [List.getElem?_eq_getElem hi, ei]
      obtain ⟨d, d1, d2, d3⟩ := left i e h1 ek
      refine before (d - c) i (by omega) (by rw [to, Nat.add_sub_cancel' d1]; exact d3) ?_
      rw [hashOf i e h1, ek]
theorem find_t (R : SetTR P w s.heap a L es ep t) {x : Addr} {k : List Int} (hx : IsT P w s.heap k x) (hu : A.units < cLine) {Q : Option Nat → Shared → Prop}
    (yes : k ∈ L.map (·.2) → ∀ i, Q (some i) s) (no : k ∉ L.map (·.2) → Q none s) : wpAny (model P w) A (setFind a (.ref x) (thash P w k)) Q E s := by
  obtain ⟨ob, hob, _, dob⟩ := R.ob
  have room := R.room
  obtain ⟨K, lim, stop, full⟩ := R.tab.first (by rw [List.length_map]; omega) (thash P w k)
  have lim2 : K < 100000 := by
    have : SetTable.turns t.mask ≤ 142 := by
      unfold SetTable.turns
      rcases R.tab.mok with e | e | e <;> omega
    omega
  show wpAny (model P w) A (setFindIn a (.ref x) (thash P w k) (99999 + 1)) Q E s
  unfold setFindIn
  refine wpAny_bind (wpAny_setState_of hob dob R.fits (wp_if_neg (by simp [byScan, Value.scannable]) ?_))
  refine wpAny_bind ?_
  refine seek R hx hu (start_run t _) rfl lim stop full (fun m i => wpAny_pure (yes m i)) (fun m j => wpAny_pure (no m)) 100000 0 none rfl (Nat.zero_le _) (by omega) fun i q e ek => ?_
  have hi : (L.map fun p => thash P w p.2)[i]? = some (thash P w k) := by rw [List.getElem?_map, e, ← ek]; rfl
  have il : i < t.place.toList.length := by
    have z1 := (List.getElem?_eq_some_iff.mp e).1
    have z2 := R.tab.sz
    rw [List.length_map] at z2
    rw [Array.length_toList]; omega
  have pj := List.getElem?_eq_getElem il
  obtain ⟨d, d1, d2⟩ := R.tab.before stop hi pj
  exact ⟨d, Nat.zero_le _, d1, pj.trans (congrArg some d2.symm)⟩
end
section
variable {P : Program} {w : World} {A : Around} {E : Value → Shared → Prop} {s : Shared}
/-- the items of a list or a tuple, gathered -/
theorem gather {p : Addr} {T : String} {o : Obj} {vs : List Value} {n : Nat} {Q : List Value → Shared → Prop} (hT : T = "list" ∨ T = "tuple") (ho : s.heap.get? p = some o) (hc : o.cls = .type T) (hd : o.data = .seq vs.toArray n) (hz : vs.length ≤ sizeLine)
    (h : ∀ h', (∀ b u, s.heap.get? b = some u → h'.get? b = some u) → s.heap.objs.size ≤ h'.objs.size → Q vs { s with heap := h' }) : wpAny (model P w) A (collect (.ref p)) Q E s := by
  have new0 : (s.heap.push (seqObj "list" #[] 0)).get? s.heap.objs.size = some (seqObj "list" #[] 0) := Heap.get?_push_size _ rfl
  have old : (s.heap.push (seqObj "list" #[] 0)).get? p = some o := Heap.get?_push_of_some _ ho
  have keep : ∀ b u, s.heap.get? b = some u → ((s.heap.push (seqObj "list" #[] 0)).update s.heap.objs.size (Obj.mapSeq (· ++ vs.toArray))).get? b = some u := fun b u e =>
    (Heap.get?_update_other _ _ (Ne.symm (Nat.ne_of_lt (Heap.lt_size e)))).trans (Heap.get?_push_of_some _ e)
  unfold collect
  refine wpAny_bind (wpAny_runValue (codeAny_builtin entry_proto_collect' ?_))
  refine wpAny_bind (wpAny_newList (wpAny_pure ⟨Code.quiet_builtin _ (by decide +kernel), codeAny_builtin entry_list_iadd' ?_⟩))
  show wpAny (model P w) _ (Builtin.List.listExtendWith (.ref s.heap.objs.size) (.ref p) (.ref s.heap.objs.size)) _ _ { s with heap := s.heap.push (seqObj "list" #[] 0) }
  unfold Builtin.List.listExtendWith
  refine wpAny_bind (wpAny_typeOf (T := T) ⟨o, old, hc⟩ ?_)
  rw [if_pos (by rcases hT with rfl | rfl <;> simp)]
  refine wpAny_bind (listItems_at old hd (wpAny_bind (listItems_at (xs := #[]) (n := 0) new0 rfl ?_)))
  rw [if_neg (by simp)]
  refine wpAny_bind (listUpdate_at (xs := #[]) (n := 0) new0 rfl ?_ (Nat.zero_le _) (by show (#[] ++ vs.toArray).size ≤ sizeLine + 1; simp only [Array.size_append, List.size_toArray, List.length_nil]; omega))
  refine wpAny_pure (wpAny_bind (wpAny_load (get?_update_seq new0 _) ?_))
  show wpAny (model P w) _ (pure ((#[] : Array Value) ++ vs.toArray).toList) Q E _
  rw [show ((#[] : Array Value) ++ vs.toArray).toList = vs by simp]
  exact wpAny_pure (h _ keep (by rw [Heap.size_update, size_push']; omega))
/-- sorted(xs) of a list or a tuple of tuples of ints -/
theorem sorted_seq {p : Addr} {T : String} {o : Obj} {vs : List Value} {n d : Nat} {B : Int} {Q : Value → Shared → Prop} (hT : T = "list" ∨ T = "tuple") (ho : s.heap.get? p = some o) (hc : o.cls = .type T) (hd : o.data = .seq vs.toArray n) (h64 : vs.length < 64) (hd1 : 1 ≤ d) (x : TS.TupsOk s.heap d B vs)
    (h : ∀ h' q (out : Array Value) c, (∀ b u, s.heap.get? b = some u → h'.get? b = some u) → h'.get? q = some (seqObj "list" out c) → s.heap.objs.size ≤ q → out.toList.Perm vs → out.toList.Pairwise (fun u v => TS.code B (TS.intsOf s.heap u) ≤ TS.code B (TS.intsOf s.heap v)) → Q (.ref q) { s with heap := h' }) :
    wpAny (model P w) A (call (.builtin "sorted") [.ref p]) Q E s := by
  refine Calls.call_function_entry kind_sorted plain_sorted entry_sorted (args_sorted1 _) ?_
  unfold Builtin.«sorted»
  refine wpAny_bind (m := checkCount "sorted" 1 1 _) (wpAny_pure (wpAny_bind (gather hT ho hc hd (by rw [sizeLine_eq]; omega) fun h1 k1 z1 => wpAny_bind (wpAny_newList ?_ (by rw [sizeLine_eq]; omega)))))
  have at1 : (h1.push (seqObj "list" vs.toArray 0)).get? h1.objs.size = some (seqObj "list" vs.toArray 0) := Heap.get?_push_size _ rfl
  have k2 : ∀ b u, s.heap.get? b = some u → (h1.push (seqObj "list" vs.toArray 0)).get? b = some u := fun b u e => Heap.get?_push_of_some _ (k1 b u e)
  have x2 : TS.TupsOk (h1.push (seqObj "list" vs.toArray 0)) d B vs := x.keeps fun b u e _ => k2 b u e
  refine wpAny_bind (wpAny_holding (TS.call_sort_tups (s := { s with heap := h1.push (seqObj "list" vs.toArray 0) }) at1 h64 hd1 x2 fun out o1 o2 => ?_))
  obtain ⟨c, hcq⟩ := sortedHeap_at (vs := vs) (out := out) at1
  refine wpAny_pure ⟨_, rfl, h _ h1.objs.size out c (fun b u e => ?_) hcq z1 o1 ?_⟩
  · have lt := Heap.lt_size (k1 b u e)
    rw [sortedHeap_old (Nat.ne_of_lt lt) (by rw [size_push']; exact Nat.lt_succ_of_lt lt)]
    exact k2 b u e
  · refine List.Pairwise.imp_of_mem (fun {u v} mu mv le => ?_) o2
    have same : ∀ v ∈ out.toList, TS.intsOf (h1.push (seqObj "list" vs.toArray 0)) v = TS.intsOf s.heap v := fun v mv => by
      obtain ⟨ns, tn, _⟩ := x v (o1.mem_iff.mp mv)
      rw [tn.ints, (tn.keeps fun b u e _ => k2 b u e).ints]
    rw [← same u mu, ← same v mv]
    exact le
end
section
variable {X : Cx}
/-- set() that will hold tuples of ints -/
def rSet0T (P : Program) (w : World) : List V → Hp → VK → Prop := fun xs H Q => xs = [] ∧ ∀ p, H p = none → Q (.ref p) (upd H p (SetTO P w p []))
theorem cr_set0T : CallR X (.type "set") (rSet0T X.prog X.w) := by
  intro pins s σ H xs us Q I r h
  obtain ⟨rfl, q⟩ := h
  cases r
  refine setR_new fun _ => ?_
  exact ⟨.ref _, _, I.laid (t' := s.toks) (fun b u e => Heap.get?_push_of_some _ e) (Nat.le_refl _) (setTO_new (setTR_fresh (w := X.w) (P := X.prog) (Heap.get?_push_size _ rfl)).t0), rfl, q _ (I.hok.fresh (Nat.le_refl _))⟩
theorem setT_full {pins : List (Addr × Obj)} {σ : L2.St} {H : Hp} {s : Shared} (I : Inv X pins σ H s) {a : Addr} {L : List (Addr × List Int)} (ha : H a = some (SetTO X.prog X.w a L)) (hL : ∀ p ∈ L, SqT X.K H p.1 (p.2.map V.int)) : ∃ es ep t, SetTR X.prog X.w s.heap a L es ep t :=
  SetT0.full (I.hok a _ ha).1 fun p m => I.isT (hL p m)
/-- x in a, x a tuple of ints, a a set of such -/
def rInT (K : PySem.W.Frag) (P : Program) (w : World) : R2 := fun x y H Q => ∃ (b a : Addr) (k : List Int) (L : List (Addr × List Int)), x = V.ref b ∧ y = V.ref a ∧ SqT K H b (k.map V.int) ∧ H a = some (SetTO P w a L) ∧ (∀ p ∈ L, SqT K H p.1 (p.2.map V.int)) ∧ Q (.bl (decide (k ∈ L.map (·.2)))) H
theorem or_inT (hu : X.A.units + 64 < cLine) : OpR X (compareOp .In) (rInT X.K X.prog X.w) := by
  intro pins s σ H x y v u Q I rx ry h
  obtain ⟨b, a, k, L, rfl, rfl, hb, ha, hL, q⟩ := h
  cases rx
  cases ry
  obtain ⟨es, ep, t, R⟩ := setT_full I ha hL
  obtain ⟨ob, hob, hex, hd⟩ := R.ob
  have isSet : s.TypeIs (.ref a) "set" := ⟨ob, hob, hex.1⟩
  show wpAny (model X.prog X.w) X.A (do return Value.bool (← contains (.ref a) (.ref b))) _ _ s
  refine wpAny_bind ?_
  unfold contains
  try with_reducible refine wpAny_holding ?_
  refine wpAny_bind (wpAny_specialOf isSet F.slot_set_contains.lookup ?_)
  show wpAny _ _ (if (some (Value.builtin "set.__contains__") == some Value.none) = true then _ else _) _ _ s
  rw [if_neg (by rw [beq_builtin_none]; exact Bool.false_ne_true)]
  refine wpAny_bind (wpAny_callSpecialUnlessNone?_slot (name := Str.ofString "__contains__") isSet F.slot_set_contains (wpAny_call_entry F.slot_set_contains isSet entry_set_contains ?_ (F.args_set_contains_2 _ _)))
  unfold Builtin.«frozenset.__contains__» Builtin.Frozenset.oneOther
  simp only [List.isEmpty_nil, bind_assoc]
  unfold Builtin.Frozenset.addrOf Builtin.Frozenset.withSetAsKey setContains
  refine wpAny_bind (wpAny_pure (wpAny_bind (wpAny_pure (wpAny_bind (wpAny_tryCatch (wpAny_holding ?_))))))
  have small : X.A.in1.units < cLine := by show X.A.units + 1 < cLine; omega
  refine wpAny_bind (wpAny_pyHash_tuple small (I.isT hb) ?_)
  have R2 : SetTR X.prog X.w ({ s with toks := s.toks + (k.length + 1) } : Shared).heap a L es ep t := R
  have fin : ∀ r : Bool, r = decide (k ∈ L.map (·.2)) → EP X pins σ Q (Value.bool r) { s with toks := s.toks + (k.length + 1) } := fun r e => ⟨.bl r, H, I.tok _, rfl, by rw [e]; exact q⟩
  refine wpAny_bind (find_t R2 (I.isT hb) small (fun m i => wpAny_pure ?_) fun m => wpAny_pure ?_)
  · exact wpAny_pure ⟨_, rfl, wpAny_truthy_bool (wpAny_pure (fin true (decide_eq_true m).symm))⟩
  · exact wpAny_pure ⟨_, rfl, wpAny_truthy_bool (wpAny_pure (fin false (decide_eq_false m).symm))⟩
/-- a.add(x) -/
def rAddT (K : PySem.W.Frag) (P : Program) (w : World) : V → List V → Hp → VK → Prop := fun x xs H Q => ∃ (a b : Addr) (k : List Int) (L : List (Addr × List Int)), x = V.ref a ∧ xs = [V.ref b] ∧ SqT K H b (k.map V.int) ∧ H a = some (SetTO P w a L) ∧ (∀ p ∈ L, SqT K H p.1 (p.2.map V.int)) ∧ L.length + 1 < 64 ∧
  ∀ L', (k ∈ L.map (·.2) → L' = L) → (k ∉ L.map (·.2) → L'.Perm ((b, k) :: L)) → Q .non (upd H a (SetTO P w a L'))
theorem mt_addT (hu : X.A.units + 64 < cLine) : MtR X "set.add" (rAddT X.K X.prog X.w) := by
  intro pins s σ H x xs v us Q I rx rxs h
  obtain ⟨a, b, k, L, rfl, rfl, hb, ha, hL, few, q⟩ := h
  cases rx
  obtain rfl := Vals.ref1 rxs
  obtain ⟨es, ep, t, R⟩ := setT_full I ha hL
  obtain ⟨ob, hob, hex, hd⟩ := R.ob
  refine wpAny_call_entry F.slot_set_add ⟨ob, hob, hex.1⟩ F.entry_set_add ?_ (F.args_set_add_2 _ _)
  unfold Builtin.«set.add» Builtin.Frozenset.oneOther
  simp only [List.isEmpty_nil, bind_assoc]
  unfold Builtin.Frozenset.addrOf setAdd
  have small : X.A.in1.units < cLine := by show X.A.units + 1 < cLine; omega
  refine wpAny_bind (wpAny_pure (wpAny_bind (wpAny_pure (wpAny_bind (wpAny_holding (wpAny_bind (wpAny_pyHash_tuple small (I.isT hb) ?_)))))))
  refine add_at (s := { s with toks := s.toks + (k.length + 1) }) R (I.isT hb) small few fun r h' L' es' ep' t' sb R' e1 e2 => ?_
  have he : ∃ u, h'.get? a = some u := by
    obtain ⟨o, ho, _⟩ := R'.ob
    exact ⟨o, ho⟩
  exact wpAny_pure ⟨_, rfl, .non, _, I.write (e := a) (t' := s.toks + (k.length + 1)) (by rw [ha]; trivial) (.inl rfl) (fun b u hb hu => (sb.2 b hb).trans hu) he (setTO_new R'.t0), rfl, q L' e1 e2⟩
/-- sorted(xs), xs a list or a tuple of tuples of ints -/
def rSortQ (K : PySem.W.Frag) (d : Nat) (B : Int) : List V → Hp → VK → Prop := fun vs H Q => ∃ (a : Addr) (xs : List V), vs = [V.ref a] ∧ (SqL K H a xs ∨ SqT K H a xs) ∧ xs.length < 64 ∧ (∀ x ∈ xs, ∃ ns, TupI K H x ns ∧ ns.length = d ∧ TS.Bd B ns) ∧
  ∀ (ys : List V) (p : Addr), ys.Perm xs → ys.Pairwise (fun x y => ∀ n m, TupI K H x n → TupI K H y m → TS.code B n ≤ TS.code B m) → H p = none → Q (.ref p) (upd H p (.lst ys))
theorem cr_sortQ {d : Nat} {B : Int} (hd : 1 ≤ d) : CallR X (.builtin "sorted") (rSortQ X.K d B) := by
  intro pins s σ H vs us Q I r h
  obtain ⟨a, xs, rfl, hs, h64, hx, q⟩ := h
  obtain rfl := Vals.ref1 r
  have main : ∀ (its : List Value) (T : String) (o : Obj) (n : Nat), Vals xs its → xs.length ≤ sizeLine → (T = "list" ∨ T = "tuple") → s.heap.get? a = some o → o.cls = .type T → o.data = .seq its.toArray n → wpAny (model X.prog X.w) X.A (call (.builtin "sorted") [.ref a]) (EP X pins σ Q) X.xe s := by
    intro its T o n rv hz hT ho hc hdt
    obtain ⟨e1, e2⟩ := bkV_refs rv fun x m => by
      obtain ⟨ns, ⟨t, e, _⟩, _⟩ := hx x m
      exact ⟨t, e⟩
    refine sorted_seq (d := d) (B := B) hT ho hc hdt (by rw [← rv.length]; exact h64) hd (fun v hv => ?_) fun h' p out c keep at_ big o1 o2 => ?_
    · obtain ⟨t, rfl⟩ := e2 v hv
      obtain ⟨ns, ⟨t', e, ht⟩, hn, hb⟩ := hx (V.ref t) (by rw [e1]; exact List.mem_map.mpr ⟨_, hv, rfl⟩)
      cases e
      exact ⟨ns, tupI_raw I ht, hn, hb⟩
    · have o3 : ∀ u ∈ out.toList, ∃ a, u = Value.ref a := fun u hu => e2 u (o1.mem_iff.mp hu)
      have perm : (out.toList.map bkV).Perm xs := by rw [e1]; exact o1.map bkV
      have fresh : H p = none := I.hok.fresh big
      refine ⟨.ref p, upd H p (.lst (out.toList.map bkV)), I.laid (t' := s.toks) keep big ⟨by rw [perm.length_eq]; exact hz, out.toList, c, bkV_vals o3, at_⟩, rfl, q _ _ perm ?_ fresh⟩
      rw [List.pairwise_map]
      refine List.Pairwise.imp (fun {u v} le n m hn hm => ?_) o2
      obtain ⟨t1, q1, w1⟩ := hn
      obtain ⟨t2, q2, w2⟩ := hm
      rw [bkV_ref q1, bkV_ref q2, (tupI_raw I w1).ints, (tupI_raw I w2).ints] at le
      exact le
  rcases hs with hs | hs
  · obtain ⟨its, rv, pl, hz⟩ := I.list hs
    obtain ⟨o, ho, hc, n, hdt⟩ := pl.isList
    exact main its "list" o n rv hz (.inl rfl) ho hc hdt
  · obtain ⟨its, rv, pl, hz⟩ := I.tuple hs
    obtain ⟨o, ho, hc, n, hdt⟩ := pl
    exact main its "tuple" o n rv hz (.inr rfl) ho hc hdt
def tAddT (K : PySem.W.Frag) (P : Program) (w : World) (to : TE) (t : TA) : TE := fun σ H Q => to σ H fun x H1 => (∃ a L, x = V.ref a ∧ H1 a = some (SetTO P w a L)) ∧ t σ H1 fun xs H2 => rAddT K P w x xs H2 Q
theorem pe_addT {o e : Expr} {es : List Expr} {to : TE} {t : TA} {apos cpos : Pos} (hu : X.A.units + 64 < cLine) (ho : PE X o to) (ha : PA X (e :: es) t) (base : attributeBase o "add" X.env (eval o X.env) = eval o X.env := by rfl)
    (few : ((backTo cpos (starEach (e :: es) X.env)).all (fun x => !x.1) && (backToKw cpos (keywordEach [] X.env)).all (fun x => x.1.isSome) && decide ((e :: es).length + ([] : List Keyword).length + (if ([] : List Keyword).isEmpty then 0 else 1) < 30)) = true := by rfl)
    (line : (apos.endLine == cpos.line) = true := by rfl) (star : starEach (e :: es) X.env = (false, eval e X.env) :: starEach es X.env := by rfl) (plain : (backTo cpos (starEach es X.env)).any (·.1) = false := by rfl) :
    PE X (.Call (.Attribute o "add" apos) (e :: es) [] cpos) (tAddT X.K X.prog X.w to t) := by
  refine ⟨fun pins s σ H Q I h => wpAny_Call_method_late base few line rfl (thn (ho.run pins s σ H _ I h) fun v s1 ⟨x, H1, I1, r1, ⟨a, L, ex, hL⟩, q1⟩ => ?_)⟩
  subst ex
  cases r1
  have S0 : SetT0 X.prog X.w s1.heap a L := (I1.hok a _ hL).1
  obtain ⟨_, _, _, ⟨ob, hob, hex, hd⟩, _⟩ := S0.ex
  refine ⟨"set", "set.add", F.plainAttrs_set, F.slot_set_add, F.type_set_add, ⟨ob, hob, hex.1⟩, (fun b e => by injection e with e; subst e; exact ⟨ob, hob, hex.2.1⟩), ?_⟩
  have args := ha.run cpos pins s1 σ H1 _ I1 q1
  rw [star] at args ⊢
  refine Calls.callWith_builtin (by show (false || (backTo cpos (starEach es X.env)).any (·.1)) = false; rw [plain]; rfl) (Calls.evalArgs_plain (thn args fun us s2 ⟨vs, H2, I2, r2, q2⟩ => ?_))
  exact mt_addT hu pins s2 σ H2 (.ref a) vs (.ref a) us Q I2 rfl r2 q2
end
end LR
set_option Elab.async false
set_option maxRecDepth 100000
set_option linter.all false
set_option maxHeartbeats 4000000
/-! webs: edges as rows of three ints -/
namespace LR
open PySem PySem.Spec PyProof.Rows L2
theorem Room.u65 {k : Nat} {A : Around} (r : Room k A) : A.units + 65 < cLine := by have := r.un; omega
theorem b_sorted : bootBuiltins "sorted" = some (.builtin "sorted") := by decide +kernel
theorem b_set : bootBuiltins "set" = some (.type "set") := by decide +kernel
/-- an edge in range -/
def EdgeOk (h n : Int) (e : List Int) : Prop := ∃ s r t, e = [s, r, t] ∧ (0 ≤ s ∧ s < n) ∧ (0 ≤ r ∧ r ≤ 2 * h) ∧ (0 ≤ t ∧ t < n)
/-- the order of edges -/
def elt (e f : List Int) : Prop := ∃ s r t s' r' t', e = [s, r, t] ∧ f = [s', r', t'] ∧ (s < s' ∨ (s = s' ∧ (r < r' ∨ (r = r' ∧ t < t'))))
theorem code3 (s r t : Int) : TS.code 64 [s, r, t] = s * 4096 + (r * 64 + t) := by
  show s * 64 ^ 2 + (r * 64 ^ 1 + (t * 64 ^ 0 + 0)) = _
  rw [show (64 : Int) ^ 2 = 4096 by decide, show (64 : Int) ^ 1 = 64 by decide, show (64 : Int) ^ 0 = 1 by decide]
  omega
theorem elt_code {h n : Int} {e f : List Int} (hh : h ≤ 3) (hn : n ≤ 9) (a : EdgeOk h n e) (b : EdgeOk h n f) (le : TS.code 64 e ≤ TS.code 64 f) (ne : e ≠ f) : elt e f := by
  obtain ⟨s, r, t, rfl, hs, hr, ht⟩ := a
  obtain ⟨s', r', t', rfl, hs', hr', ht'⟩ := b
  rw [code3, code3] at le
  refine ⟨s, r, t, s', r', t', rfl, rfl, ?_⟩
  by_cases c1 : s < s'
  · exact .inl c1
  have c2 : s = s' := by omega
  refine .inr ⟨c2, ?_⟩
  by_cases c3 : r < r'
  · exact .inl c3
  have c4 : r = r' := by omega
  refine .inr ⟨c4, ?_⟩
  by_cases c5 : t < t'
  · exact c5
  have c6 : t = t' := by omega
  subst c2 c4 c6
  exact absurd rfl ne
theorem edge_bd {h n : Int} {e : List Int} (hh : h ≤ 3) (hn : n ≤ 9) (a : EdgeOk h n e) : e.length = 3 ∧ TS.Bd 64 e := by
  obtain ⟨s, r, t, rfl, hs, hr, ht⟩ := a
  refine ⟨rfl, fun m hm => ?_⟩
  rcases List.mem_cons.mp hm with q | hm
  · subst q; omega
  rcases List.mem_cons.mp hm with q | hm
  · subst q; omega
  rcases List.mem_cons.mp hm with q | hm
  · subst q; omega
  cases hm
/-- at these addresses lie these tuples -/
def RowsH (H : Hp) (ts : List Addr) (es : List (List Int)) : Prop := ts.length = es.length ∧ ∀ (k : Nat) (t : Addr) (e : List Int), ts[k]? = some t → es[k]? = some e → H t = some (.tup (e.map V.int))
theorem RowsH.same {H H' ts es} (s : Same H H') (h : RowsH H ts es) : RowsH H' ts es := ⟨h.1, fun k t e a b => s _ _ (h.2 k t e a b)⟩
theorem RowsH.keep {H H' ts es q} (s : Keep q H H') (hq : ∃ l, H q = some (.lst l)) (h : RowsH H ts es) : RowsH H' ts es := by
  obtain ⟨l, hq⟩ := hq
  exact ⟨h.1, fun k t e a b => s _ (ne_of (h.2 k t e a b) hq (by intro z; cases z)) _ (h.2 k t e a b)⟩
theorem RowsH.nil {H : Hp} : RowsH H [] [] := ⟨rfl, fun k t e a _ => by simp at a⟩
theorem RowsH.snoc {H ts es t e} (h : RowsH H ts es) (ht : H t = some (.tup (e.map V.int))) : RowsH H (ts ++ [t]) (es ++ [e]) := by
  refine ⟨by rw [List.length_append, List.length_append, h.1]; rfl, fun k t' e' a b => ?_⟩
  by_cases c : k < ts.length
  · rw [List.getElem?_append_left c] at a
    rw [List.getElem?_append_left (by have := h.1; omega)] at b
    exact h.2 k t' e' a b
  · rw [List.getElem?_append_right (by omega)] at a
    rw [List.getElem?_append_right (by have := h.1; omega), ← h.1] at b
    have : k = ts.length := by
      have := (List.getElem?_eq_some_iff.mp a).1
      simp at this; omega
    subst this
    rw [Nat.sub_self] at a b
    cases a; cases b
    exact ht
theorem RowsH.get {H ts es} (h : RowsH H ts es) {k : Nat} {e : List Int} (a : es[k]? = some e) : ∃ t, ts[k]? = some t ∧ H t = some (.tup (e.map V.int)) := by
  have hk : k < ts.length := by rw [h.1]; exact (List.getElem?_eq_some_iff.mp a).1
  exact ⟨_, List.getElem?_eq_getElem hk, h.2 k _ e (List.getElem?_eq_getElem hk) a⟩
theorem RowsH.getT {H ts es} (h : RowsH H ts es) {k : Nat} {t : Addr} (a : ts[k]? = some t) : ∃ e, es[k]? = some e ∧ H t = some (.tup (e.map V.int)) := by
  have hk : k < es.length := by rw [← h.1]; exact (List.getElem?_eq_some_iff.mp a).1
  exact ⟨_, List.getElem?_eq_getElem hk, h.2 k t _ a (List.getElem?_eq_getElem hk)⟩
def unI : V → Int
  | .int i => i
  | _ => 0
def unR : V → Addr
  | .ref a => a
  | _ => 0
def rowH (H : Hp) (t : Addr) : List Int := match H t with
  | some (.tup xs) => xs.map unI
  | _ => []
theorem rowH_of {H : Hp} {t : Addr} {e : List Int} (h : H t = some (.tup (e.map V.int))) : rowH H t = e := by
  unfold rowH
  rw [h]
  show (e.map V.int).map unI = e
  rw [List.map_map]
  exact List.map_id' e
theorem RowsH.rows {H ts es} (h : RowsH H ts es) : es = ts.map (rowH H) := by
  apply List.ext_getElem?
  intro k
  rw [List.getElem?_map]
  cases a : ts[k]? with
  | none =>
    have : ts.length ≤ k := List.getElem?_eq_none_iff.mp a
    rw [h.1] at this
    rw [List.getElem?_eq_none_iff.mpr this]; rfl
  | some t =>
    obtain ⟨e, b, c⟩ := h.getT a
    rw [b]
    show some e = some (rowH H t)
    rw [rowH_of c]
theorem RowsH.of {H ts es} (h : RowsH H ts es) {us : List Addr} (hu : ∀ u ∈ us, u ∈ ts) : RowsH H us (us.map (rowH H)) := by
  refine ⟨by rw [List.length_map], fun k t e a b => ?_⟩
  rw [List.getElem?_map, a] at b
  cases b
  have hm := hu t (List.mem_of_getElem? a)
  obtain ⟨j, hj⟩ := List.mem_iff_getElem?.mp hm
  obtain ⟨e, _, c⟩ := h.getT hj
  rw [rowH_of c]; exact c
/-- what sorted leaves: the same addresses in another order -/
theorem RowsH.perm {H ts es} (h : RowsH H ts es) {ys : List V} (p : ys.Perm (ts.map V.ref)) : ∃ us, ys = us.map V.ref ∧ us.Perm ts ∧ RowsH H us (us.map (rowH H)) ∧ (us.map (rowH H)).Perm es := by
  have e1 : (ts.map V.ref).map unR = ts := by rw [List.map_map]; exact List.map_id' ts
  have p1 : (ys.map unR).Perm ts := by have := p.map unR; rwa [e1] at this
  have e2 : ys = (ys.map unR).map V.ref := by
    rw [List.map_map]
    refine (List.map_congr_left (fun y hy => ?_)).trans (List.map_id' ys) |>.symm
    obtain ⟨t, _, rfl⟩ := List.mem_map.mp (p.mem_iff.mp hy)
    rfl
  refine ⟨ys.map unR, e2, p1, h.of fun u hu => p1.mem_iff.mp hu, ?_⟩
  have := p1.map (rowH H)
  rwa [← h.rows] at this
/-- a web of height h, n nodes and these edges stands at x; ss: its edges in order -/
def WebAt (C : Addr) (H : Hp) (x : Addr) (h n : Int) (ss : List (List Int)) : Prop := ∃ dx te us, H x = some (.ins C dx [("height", .int h), ("size", .int n), ("edges", .ref te)]) ∧ H te = some (.tup (us.map V.ref)) ∧ RowsH H us ss
theorem WebAt.same {C H H' x h n ss} (s : Same H H') (a : WebAt C H x h n ss) : WebAt C H' x h n ss := by
  obtain ⟨dx, te, us, h1, h2, h3⟩ := a
  exact ⟨dx, te, us, s _ _ h1, s _ _ h2, h3.same s⟩
theorem WebAt.keep {C H H' x h n ss q} (s : Keep q H H') (hq : ∃ l, H q = some (.lst l)) (a : WebAt C H x h n ss) : WebAt C H' x h n ss := by
  obtain ⟨dx, te, us, h1, h2, h3⟩ := a
  obtain ⟨l, hl⟩ := id hq
  exact ⟨dx, te, us, s _ (ne_of h1 hl (by intro z; cases z)) _ h1, s _ (ne_of h2 hl (by intro z; cases z)) _ h2, h3.keep s hq⟩
theorem dp_rows {K : PySem.W.Frag} {H : Hp} : ∀ {ts : List Addr} {es : List (List Int)}, ts.length = es.length → (∀ (k : Nat) (t : Addr) (e : List Int), ts[k]? = some t → es[k]? = some e → H t = some (.tup (e.map V.int))) → DpAll K H (ts.map V.ref) (es.map fun e => PyData.tuple (e.map PyData.int))
  | [], [], _, _ => .nil
  | t :: ts, e :: es, hl, h => .cons (.tup (SqT.of (h 0 t e rfl rfl)) (dp_intsW e)) (dp_rows (by simpa using hl) fun k t' e' a b => h (k + 1) t' e' (by simpa using a) (by simpa using b))
  | [], _ :: _, hl, _ => by simp at hl
  | _ :: _, [], hl, _ => by simp at hl
where
  dp_intsW {K : PySem.W.Frag} {H : Hp} : ∀ l : List Int, DpAll K H (l.map V.int) (l.map PyData.int)
    | [] => .nil
    | i :: r => .cons (.int i) (dp_intsW r)
def edgeP (e : List Int) : PyData := .tuple (e.map PyData.int)
theorem RowsH.dp {K : PySem.W.Frag} {H ts es} (h : RowsH H ts es) {a : Addr} (ha : H a = some (.lst (ts.map V.ref))) : Dp K H (.ref a) (.list (es.map edgeP)) := .lst (SqL.of ha) (dp_rows h.1 h.2)
theorem nodup_take {α : Type} {es : List α} (nd : es.Nodup) {i : Nat} {e : α} (h : es[i]? = some e) : e ∉ es.take i := by
  intro hm
  have := get_split h
  rw [this] at nd
  exact (List.nodup_append.mp nd).2.2 e hm e List.mem_cons_self rfl
theorem take_mem {α : Type} {es : List α} {i : Nat} {e k : α} (h : es[i]? = some e) : k ∈ es.take (i + 1) ↔ k = e ∨ k ∈ es.take i := by
  rw [List.take_succ, h]
  show k ∈ es.take i ++ [e] ↔ _
  rw [List.mem_append, List.mem_singleton]
  exact Or.comm
end LR
set_option Elab.async false
set_option maxRecDepth 100000
set_option linter.all false
set_option maxHeartbeats 4000000
/-! super().m(..) where a def of the program is meant -/
namespace LR
open PySem PySem.Spec PyProof.Rows L2
/-- the def that super().m means in the class at D, for an instance of the class at C -/
structure SupTo (P : Program) (w : World) (K : PySem.W.Frag) (mg : Str → Option Value) (base : Heap) (CX : CXT) (k : Nat) (C D : Addr) (m : Str) (sp : Sp) : Prop where
  ex : ∃ (f : Addr) (fd : FuncData) (ps : List Str), PySem.W.ks_superIn K C D m = some (some (.ref f)) ∧ PySem.W.typeIn K (.ref f) = some (.type "function") ∧ PySem.W.fnIn K f = true ∧ FnOk P w K mg base CX k f fd ps sp ∧ Binds K fd ps []
  sub : PySem.W.mroIn K C (.ref D) = some true
  at_ : (m == ("__class__" : Str)) = false
structure SupAt (K : PySem.W.Frag) (C D : Addr) (m qual name : Str) (st : Stmt) (ps : List Str) : Prop where
  ex : ∃ (f : Addr) (fd : FuncData), PySem.W.ks_superIn K C D m = some (some (.ref f)) ∧ PySem.W.typeIn K (.ref f) = some (.type "function") ∧ PySem.W.fnIn K f = true ∧ Fun K name qual st f fd ∧ Binds K fd ps []
  sub : PySem.W.mroIn K C (.ref D) = some true
  at_ : (m == ("__class__" : Str)) = false
def tSupM (C : Addr) (i : Nat) (sp : Sp) (E : XK) (ta : TA) : TE := fun σ H Q => ∃ (x dx : Addr) (fs : List (Str × V)), σ[i]? = some (some (.ref x)) ∧ H x = some (.ins C dx fs) ∧ ta σ H fun vs H1 => sp (.ref x :: vs) H1 Q E
section
variable {X : Cx} {body : List Stmt} {f cc cda D C : Addr} {fd : FuncData} {me m : Str} {p0 p1 pos apos : Pos} {i k j : Nat} {e : Expr} {es : List Expr} {ta : TA} {pl : Sem Bool} {sp : Sp} {CX : CXT} {E : XK}
theorem ne_supM (S : SupIn X.prog X.K X.mg f cc cda D fd me) (T : SupTo X.prog X.w X.K X.mg X.base CX k C D m sp) (hr : Room j X.A) (hk : k ≤ j) (hx : Passes CX X E) (ha : PA X (e :: es) ta)
    (hi : X.N[i]? = some me := by rfl) (hka : X.env.kindOf me = some .local := by rfl)
    (hks : X.env.kindOf "super" = some .globalImplicit := by rfl) (hkc : X.env.kindOf "__class__" = some .free := by rfl) (hfu : X.env.func = some f := by rfl) (hco : X.env.code = .ref cda := by rfl) (hcl : X.env.cells.lookup ("__class__" : Str) = some cc := by rfl)
    (hst : starEach (e :: es) X.env = (false, eval e X.env) :: starEach es X.env := by rfl) (hpl : (backTo pos (starEach es X.env)).any (·.1) = false := by rfl)
    (ht : eval (.Call (.Attribute (.Call (.Name "super" p0) [] [] p1) m apos) (e :: es) [] pos) X.env = (do
      let ov ← attributeBase (.Call (.Name "super" p0) [] [] p1) m X.env (eval (.Call (.Name "super" p0) [] [] p1) X.env)
      standAt apos.atName
      let (f, first) ← holding [ov] (getMethod ov m pl)
      callWith pos f first (backTo pos (starEach (e :: es) X.env)) []) := by rfl) :
    NE X body (.Call (.Attribute (.Call (.Name "super" p0) [] [] p1) m apos) (e :: es) [] pos) (tSupM C i sp E ta) := by
  refine ⟨fun pins s σ H Q I h => ?_⟩
  obtain ⟨x, dx, fs, hσ, hxI, q⟩ := h
  obtain ⟨g, fd2, ps2, sIn, sTy, sFn, F, sB⟩ := T.ex
  obtain ⟨mA, J0, _⟩ := ins_get I.hok hxI
  obtain ⟨od, J0, _⟩ := J0.look
  refine PySem.ks_wpAt_MethodCall (pl := pl) (super_base S I J0.at_ J0.cls (fun c z => ?_) T.sub hi hσ hka hks hkc hfu hco hcl T.at_ (fun so h' hso J k2 => ?_)) ht
  · have := J0.no
    unfold PySem.W.notCls at this
    rw [z] at this
    cases this
  have KX := J.kIn
  obtain ⟨mB, J1, _⟩ := ins_get J.hok hxI
  obtain ⟨od2, IA, _⟩ := J1.look
  cases hc : PySem.W.clsIn X.K C with
  | none => unfold PySem.W.ks_superIn at sIn; rw [hc] at sIn; cases sIn
  | some cd =>
    unfold PySem.W.ks_superIn at sIn
    rw [hc] at sIn
    obtain ⟨ofn, hofn, hcfn⟩ : ∃ ofn, h'.get? g = some ofn ∧ ofn.cls = .type "function" := by
      have t1 : (X.K.lookup g).map (·.cls) = some (.type "function") := sTy
      cases z : X.K.lookup g with
      | none => rw [z] at t1; cases t1
      | some ofn => rw [z] at t1; exact ⟨ofn, KX _ _ z, Option.some.inj t1⟩
    obtain ⟨hh, gg, d, t, os⟩ := s
    refine PySem.ks_wpAny_getMethod_super hso (PySem.W.looks_opaque KX S.any) (l₀ := cd.mro) (fun A Q E s k q => wpAny_bind ((PySem.W.looks_clsIn KX hc) A _ E s k (wpAny_pure q))) rfl KX sIn hofn hcfn (PySem.W.ks_ne KX IA hc) T.at_ ?_
    have J2 := pin_newA (t' := t + 1) J (fun b u z => Heap.get?_push_of_some (PySem.W.methodObj (.ref g) (.ref x)) z) (Nat.le_refl _) (Heap.get?_push_at rfl rfl) (fun v z => by cases z)
    have hq := ClX.pin_at J2
    have hL : h'.objs.size ≠ X.env.locals := (J2.pin (h'.objs.size, PySem.W.methodObj (.ref g) (.ref x)) (List.mem_append_right _ List.mem_cons_self)).2.2.1
    refine PySem.W.callWith_M (K := X.K) (h₀ := X.base) (first := []) I.ok.mod.kin (news_at hL (ClX.base_none J (Nat.le_refl _)) hq) List.mem_cons_self sFn (thn (ha.run pos _ _ σ H _ J2 q) fun us s3 ⟨vs, H1, I3, rv, q1⟩ => ⟨⟨ClX.pin_at I3, I3.kIn⟩, ?_⟩) hst hpl
    have z : wpAny (model X.prog X.w) X.A (call (.ref h'.objs.size) us) (EP X ((h'.objs.size, PySem.W.methodObj (.ref g) (.ref x)) :: (so, PySem.W.ks_superObj D x C) :: pins) σ Q) X.xe s3 :=
      wpAny_call (PySem.W.method_call (ClX.pin_at I3) (codeAny_mono (F.run X.A X.stack s3 H1 ⟨.ref x :: us, []⟩ (.ref x :: us) (.ref x :: vs) Q E (hr.mono hk) I3.env0 ?_ (.cons rfl rv) q1) fun r s' hq' => ?_))
    · refine thn z fun v s4 hh => ?_
      obtain ⟨y, H4, I4, ry, q4⟩ := hh
      exact ⟨y, H4, ClX.unpin (ClX.unpin I4), ry, q4⟩
    · have hl := F.len _ _ _ _ q1
      have rl : (Value.ref x :: us).length = ps2.length := by rw [← hl, List.length_cons, List.length_cons, rv.length]
      have b := sB s3 (.ref x :: us) I3.kIn (by rw [List.append_nil]; exact rl)
      rw [List.append_nil] at b
      exact b
    · cases r with
      | error e => exact hx _ σ _ _ e s' I3 hq'
      | ok fl =>
        cases fl with
        | ret u => exact I3.after hq'
        | next => exact hq'.elim
        | brk => exact hq'.elim
        | cont => exact hq'.elim
end
structure MakInC (P : Program) (K : PySem.W.Frag) (mg : Str → Option Value) (x : Str) (C : Addr) (qual : Str) (st : Stmt) (ps : List Str) : Prop where
  ini : ∃ (f cc cda : Addr) (fd : FuncData), SupIn P K mg f cc cda C fd "self" ∧ Mk K C f ∧ mg x = some (.ref C) ∧ Binds K fd ps [] ∧
    ∃ (oc : Value) (od an : Option Addr) (kV doc pm ct : Value) (osl : Array (Option Value)), fd = PySem.W.ksFn "__init__" qual (defArgs st) (defBody st) (defScope st) .none kV doc pm an (.ref cda) ct cc ∧ K.lookup f = some ⟨oc, od, .func fd, osl⟩ ∧ PySem.W.codeIn K (.ref cda) qual = true
structure MetInC (P : Program) (K : PySem.W.Frag) (mg : Str → Option Value) (C : Addr) (m qual : Str) (st : Stmt) (ps : List Str) : Prop where
  ini : ∃ (f cc cda : Addr) (fd : FuncData), SupIn P K mg f cc cda C fd "self" ∧ Meth K C m f ∧ Binds K fd ps [] ∧
    ∃ (oc : Value) (od an : Option Addr) (kV doc pm ct : Value) (osl : Array (Option Value)), fd = PySem.W.ksFn m qual (defArgs st) (defBody st) (defScope st) .none kV doc pm an (.ref cda) ct cc ∧ K.lookup f = some ⟨oc, od, .func fd, osl⟩ ∧ PySem.W.codeIn K (.ref cda) qual = true
section
variable {P : Program} {w : World} {K : PySem.W.Frag} {mg : Str → Option Value} {base : Heap}
theorem MakInC.mak {x qual : Str} {C : Addr} {st : Stmt} {N ps : List Str} {k : Nat} {sp : Sp} (D : MakInC P K mg x C qual st ps) (S : CScope N ps (defScope st)) (len : ∀ vs H Q E, sp vs H Q E → vs.length = ps.length)
    (hbody : ∀ (f cc cda : Addr) (fd : FuncData) (A : Around) (outer : List Env) (s : Shared) (H : Hp) (vs : List V) (Q : VK) (E : XK), SupIn P K mg f cc cda C fd "self" → Room k (A.deeper (PySem.W.ksEnv qual (defScope st) s.heap.objs.size f (.ref cda) cc)) → sp vs H Q E →
      ∃ t, NSs (cxC CX0 P w K mg base N qual (defScope st) f (.ref cda) cc A outer s H E) (defBody st) (defBody st) t ∧ t { nx := fun _ H' => Q .non H', rt := Q } (L2.start N vs) H) : Mak P w K mg base (k + 1) x C sp := by
  obtain ⟨f, cc, cda, fd, S1, M, hm, b, oc, od, an, kV, doc, pm, ct, osl, rfl, lk, hcd⟩ := D.ini
  obtain ⟨cl, cld, csl, hcell⟩ := S1.cell
  exact ⟨f, _, ps, M, fn_ofC lk hcell hcd S len (fun A outer s H vs Q E hr h => hbody f cc cda _ A outer s H vs Q E S1 hr h), hm, b⟩
theorem MetInC.met {m qual : Str} {C : Addr} {st : Stmt} {N ps : List Str} {k : Nat} {sp : Sp} (c : Cls K C) (D : MetInC P K mg C m qual st ps) (S : CScope N ps (defScope st)) (len : ∀ vs H Q E, sp vs H Q E → vs.length = ps.length)
    (hbody : ∀ (f cc cda : Addr) (fd : FuncData) (A : Around) (outer : List Env) (s : Shared) (H : Hp) (vs : List V) (Q : VK) (E : XK), SupIn P K mg f cc cda C fd "self" → Room k (A.deeper (PySem.W.ksEnv qual (defScope st) s.heap.objs.size f (.ref cda) cc)) → sp vs H Q E →
      ∃ t, NSs (cxC CX0 P w K mg base N qual (defScope st) f (.ref cda) cc A outer s H E) (defBody st) (defBody st) t ∧ t { nx := fun _ H' => Q .non H', rt := Q } (L2.start N vs) H) : Met P w K mg base (k + 1) C m sp := by
  obtain ⟨f, cc, cda, fd, S1, M, b, oc, od, an, kV, doc, pm, ct, osl, rfl, lk, hcd⟩ := D.ini
  obtain ⟨cl, cld, csl, hcell⟩ := S1.cell
  exact ⟨f, _, ps, c, M, fn_ofC lk hcell hcd S len (fun A outer s H vs Q E hr h => hbody f cc cda _ A outer s H vs Q E S1 hr h), b⟩
theorem SupAt.to {m qual name : Str} {C D : Addr} {st : Stmt} {N ps : List Str} {k : Nat} {sp : Sp} (T : SupAt K C D m qual name st ps) (S : FnScope N ps (defScope st)) (len : ∀ vs H Q E, sp vs H Q E → vs.length = ps.length)
    (hbody : ∀ (f : Addr) (cdv : Value) (A : Around) (outer : List Env) (s : Shared) (H : Hp) (vs : List V) (Q : VK) (E : XK), Room k (A.deeper (envOfC qual (defScope st) s.heap.objs.size f cdv)) → sp vs H Q E →
      ∃ t, PSs (cxOf CX0 P w K mg base N qual (defScope st) f cdv A outer s H E).nox (defBody st) t ∧ t { nx := fun _ H' => Q .non H', rt := Q } (L2.start N vs) H) : SupTo P w K mg base CX0 (k + 1) C D m sp := by
  obtain ⟨f, fd, s1, s2, s3, F, b⟩ := T.ex
  exact ⟨⟨f, fd, ps, s1, s2, s3, F.ok S len (hbody f), b⟩, T.sub, T.at_⟩
end
end LR
set_option Elab.async false
set_option maxRecDepth 100000
set_option linter.all false
set_option maxHeartbeats 4000000
/-! games: a web with owners; true stands for A -/
namespace LR
open PySem PySem.Spec PyProof.Rows L2
theorem op_notInK {X : Cx} {K : PySem.W.Frag} (hk : X.K = K) : OpR X (compareOp .NotIn) (rIn K true) := hk ▸ op_notIn_seq
theorem b_any : bootBuiltins "any" = some (.builtin "any") := by decide +kernel
theorem b_all : bootBuiltins "all" = some (.builtin "all") := by decide +kernel
def ltr (b : Bool) : Nat := if b then 65 else 66
def strO (os : List Bool) : Str := ⟨(os.map ltr).toArray⟩
theorem strO_len (os : List Bool) : (strO os).length = os.length := by
  show (strO os).cps.size = _
  unfold strO
  simp
theorem strO_getN {os : List Bool} {i : Nat} {c : Nat} (h : (strO os).cps[i]? = some c) : ∃ b, os[i]? = some b ∧ c = ltr b := by
  have h : (os.map ltr)[i]? = some c := by
    have h1 : (os.map ltr).toArray[i]? = some c := h
    rwa [List.getElem?_toArray] at h1
  rw [List.getElem?_map] at h
  obtain ⟨b, h1, h2⟩ := Option.map_eq_some_iff.mp h
  exact ⟨b, h1, h2.symm⟩
def GameAt (C : Addr) (H : Hp) (x : Addr) (h : Int) (os : List Bool) (ss : List (List Int)) : Prop := ∃ dx te us, H x = some (.ins C dx [("height", .int h), ("size", .int os.length), ("edges", .ref te), ("owners", .str (strO os))]) ∧ H te = some (.tup (us.map V.ref)) ∧ RowsH H us ss
theorem GameAt.same {C H H' x h n ss} (s : Same H H') (a : GameAt C H x h n ss) : GameAt C H' x h n ss := by
  obtain ⟨dx, te, us, h1, h2, h3⟩ := a
  exact ⟨dx, te, us, s _ _ h1, s _ _ h2, h3.same s⟩
theorem GameAt.keep {C H H' x h n ss q} (s : Keep q H H') (hq : ∃ l, H q = some (.lst l)) (a : GameAt C H x h n ss) : GameAt C H' x h n ss := by
  obtain ⟨dx, te, us, h1, h2, h3⟩ := a
  obtain ⟨l, hl⟩ := id hq
  exact ⟨dx, te, us, s _ (ne_of h1 hl (by intro z; cases z)) _ h1, s _ (ne_of h2 hl (by intro z; cases z)) _ h2, h3.keep s hq⟩
end LR
set_option Elab.async false
set_option maxRecDepth 100000
set_option linter.all false
set_option maxHeartbeats 4000000
namespace LR
open PySem PySem.Spec PyProof.Rows L2
/-! # the data layer: values as data, a def's slots as an environment of data -/
inductive D where
  | non | bl (b : Bool) | int (i : Int) | str (x : Str) | lst (l : List D) | tup (l : List D)
  | ins (C : Addr) (ks : List Str) (ds : List D) | cls (a : Addr) | ty (n : String) | dic (ks : List Int) (ds : List D)
mutual
inductive Is (K : PySem.W.Frag) (B : Hp) : V → D → Prop
  | non : Is K B .non .non
  | bl (b : Bool) : Is K B (.bl b) (.bl b)
  | int (i : Int) : Is K B (.int i) (.int i)
  | str (x : Str) : Is K B (.str x) (.str x)
  | lst {p : Addr} {xs : List V} {ds : List D} (h : B p = some (.lst xs)) (a : Iss K B xs ds) (z : xs.length ≤ 100000) : Is K B (.ref p) (.lst ds)
  | tup {p : Addr} {xs : List V} {ds : List D} (h : B p = some (.tup xs)) (a : Iss K B xs ds) (z : xs.length ≤ 100000) : Is K B (.ref p) (.tup ds)
  | ins {p C dx : Addr} {fs : List (Str × V)} {ks : List Str} {ds : List D} (h : B p = some (.ins C dx fs)) (k : fs.map (·.1) = ks) (a : Iss K B (fs.map (·.2)) ds) (cl : Cls K C) (na : ∀ f ∈ ks, NoAttr K C f) : Is K B (.ref p) (.ins C ks ds)
  | cls (a : Addr) : Is K B (.ref a) (.cls a)
  | ty (n : String) : Is K B (.ty n) (.ty n)
  | dic {p : Addr} {kvs : List (Key × V)} {ks : List Int} {ds : List D} (h : B p = some (.dK kvs)) (k : kvs.map (·.1) = ks.map Sum.inl) (a : Iss K B (kvs.map (·.2)) ds) (z : kvs.length ≤ 100000) : Is K B (.ref p) (.dic ks ds)
inductive Iss (K : PySem.W.Frag) (B : Hp) : List V → List D → Prop
  | nil : Iss K B [] []
  | cons {x : V} {d : D} {xs : List V} {ds : List D} (h : Is K B x d) (t : Iss K B xs ds) : Iss K B (x :: xs) (d :: ds)
end
section
variable {K : PySem.W.Frag} {B B' : Hp}
mutual
theorem Is.mono (s : Same B B') : ∀ {x d}, Is K B x d → Is K B' x d
  | _, _, .non => .non
  | _, _, .bl b => .bl b
  | _, _, .int i => .int i
  | _, _, .str x => .str x
  | _, _, .lst h a z => .lst (s _ _ h) (a.mono s) z
  | _, _, .tup h a z => .tup (s _ _ h) (a.mono s) z
  | _, _, .ins h k a c n => .ins (s _ _ h) k (a.mono s) c n
  | _, _, .cls a => .cls a
  | _, _, .ty n => .ty n
  | _, _, .dic h k a z => .dic (s _ _ h) k (a.mono s) z
theorem Iss.mono (s : Same B B') : ∀ {xs ds}, Iss K B xs ds → Iss K B' xs ds
  | _, _, .nil => .nil
  | _, _, .cons h t => .cons (h.mono s) (t.mono s)
end
theorem Iss.length {xs ds} (h : Iss K B xs ds) : xs.length = ds.length := by
  revert ds; induction xs with
  | nil => intro ds h; cases h; rfl
  | cons x xs ih => intro ds h; cases h with | cons a t => rw [List.length_cons, List.length_cons, ih t]
theorem Iss.get : ∀ {xs ds} (h : Iss K B xs ds) {i : Nat} {x : V}, xs[i]? = some x → ∃ d, ds[i]? = some d ∧ Is K B x d := by
  intro xs; induction xs with
  | nil => intro ds h i x e; simp at e
  | cons y xs ih =>
    intro ds h i x e
    cases h with
    | cons a t =>
      cases i with
      | zero => exact ⟨_, rfl, by simp at e; subst e; exact a⟩
      | succ i => exact ih t (by simpa using e)
theorem Iss.getD {xs ds} (h : Iss K B xs ds) {i : Nat} {d : D} (e : ds[i]? = some d) : ∃ x, xs[i]? = some x ∧ Is K B x d := by
  have hl := h.length
  have hi : i < xs.length := by rw [hl]; exact (List.getElem?_eq_some_iff.mp e).1
  obtain ⟨d', e', a⟩ := h.get (List.getElem?_eq_getElem hi)
  rw [e] at e'; cases e'
  exact ⟨_, List.getElem?_eq_getElem hi, a⟩
theorem Iss.append : ∀ {xs ds ys es}, Iss K B xs ds → Iss K B ys es → Iss K B (xs ++ ys) (ds ++ es)
  | _, _, _, _, .nil, h => h
  | _, _, _, _, .cons a t, h => .cons a (t.append h)
theorem Iss.one {x d} (h : Is K B x d) : Iss K B [x] [d] := .cons h .nil
theorem Iss.take {xs ds} (n : Nat) (h : Iss K B xs ds) : Iss K B (xs.take n) (ds.take n) := by
  induction n generalizing xs ds with
  | zero => exact .nil
  | succ n ih => cases h with
    | nil => exact .nil
    | cons a t => exact .cons a (ih t)
theorem Iss.drop {xs ds} (n : Nat) (h : Iss K B xs ds) : Iss K B (xs.drop n) (ds.drop n) := by
  induction n generalizing xs ds with
  | zero => exact h
  | succ n ih => cases h with
    | nil => exact .nil
    | cons a t => exact ih t
theorem Iss.set {xs ds} (h : Iss K B xs ds) {y e} (n : Nat) (a : Is K B y e) : Iss K B (xs.set n y) (ds.set n e) := by
  induction n generalizing xs ds with
  | zero => cases h with
    | nil => exact .nil
    | cons b t => exact .cons a t
  | succ n ih => cases h with
    | nil => exact .nil
    | cons b t => exact .cons b (ih t)
theorem Iss.reverse {xs ds} (h : Iss K B xs ds) : Iss K B xs.reverse ds.reverse := by
  induction xs generalizing ds with
  | nil => cases h; exact .nil
  | cons x xs ih => cases h with
    | cons a t => rw [List.reverse_cons, List.reverse_cons]; exact (ih t).append (.one a)
theorem iss_ints : ∀ l : List Int, Iss K B (l.map V.int) (l.map D.int)
  | [] => .nil
  | i :: r => .cons (.int i) (iss_ints r)
theorem Is.lstE {v l} (h : Is K B v (.lst l)) : ∃ p xs, v = .ref p ∧ B p = some (.lst xs) ∧ Iss K B xs l ∧ xs.length ≤ 100000 := by
  cases h with | lst h a z => exact ⟨_, _, rfl, h, a, z⟩
theorem Is.tupE {v l} (h : Is K B v (.tup l)) : ∃ p xs, v = .ref p ∧ B p = some (.tup xs) ∧ Iss K B xs l ∧ xs.length ≤ 100000 := by
  cases h with | tup h a z => exact ⟨_, _, rfl, h, a, z⟩
theorem Is.intE {v i} (h : Is K B v (.int i)) : v = .int i := by cases h; rfl
theorem Is.blE {v b} (h : Is K B v (.bl b)) : v = .bl b := by cases h; rfl
theorem Is.strE {v b} (h : Is K B v (.str b)) : v = .str b := by cases h; rfl
theorem Is.nonE {v} (h : Is K B v .non) : v = .non := by cases h; rfl
end
/-! ## the environment -/
/-- what a def may change: a list, a dict with ints for keys, nested lists (da: a part that is data, tr: a list, tu: a tuple that holds lists) -/
inductive Ow where
  | ls (xs : List D) | dk (ks : List Int) (ds : List D) | da (x : D) | tr (ts : List Ow) | tu (ts : List Ow)
mutual
def Ow.d : Ow → D
  | .ls l => .lst l
  | .dk ks ds => .dic ks ds
  | .da x => x
  | .tr ts => .lst (owds ts)
  | .tu ts => .tup (owds ts)
def owds : List Ow → List D
  | [] => []
  | t :: ts => t.d :: owds ts
end
mutual
inductive OwIs (K : PySem.W.Frag) (B H : Hp) : V → Ow → List Addr → Prop
  | l {p : Addr} {xs : List V} {l : List D} (h : H p = some (.lst xs)) (i : Iss K B xs l) (z : xs.length ≤ 100000) : OwIs K B H (.ref p) (.ls l) [p]
  | dk {p : Addr} {kvs : List (Key × V)} {ks : List Int} {ds : List D} (h : H p = some (.dK kvs)) (k : kvs.map (·.1) = ks.map Sum.inl) (i : Iss K B (kvs.map (·.2)) ds) (z : kvs.length ≤ 100000) : OwIs K B H (.ref p) (.dk ks ds) [p]
  | da {v : V} {x : D} (i : Is K B v x) : OwIs K B H v (.da x) []
  | tr {p : Addr} {vs : List V} {ts : List Ow} {fs : List Addr} (h : H p = some (.lst vs)) (a : OwIss K B H vs ts fs) (z : vs.length ≤ 100000) : OwIs K B H (.ref p) (.tr ts) (p :: fs)
  | tu {p : Addr} {vs : List V} {ts : List Ow} {fs : List Addr} (h : B p = some (.tup vs)) (a : OwIss K B H vs ts fs) (z : vs.length ≤ 100000) : OwIs K B H (.ref p) (.tu ts) fs
inductive OwIss (K : PySem.W.Frag) (B H : Hp) : List V → List Ow → List Addr → Prop
  | nil : OwIss K B H [] [] []
  | cons {v : V} {t : Ow} {fs : List Addr} {vs : List V} {ts : List Ow} {gs : List Addr} (h : OwIs K B H v t fs) (r : OwIss K B H vs ts gs) : OwIss K B H (v :: vs) (t :: ts) (fs ++ gs)
end
section
variable {K : PySem.W.Frag} {B B' H H' : Hp}
mutual
theorem OwIs.mono (s : Same B B') : ∀ {v o fs}, OwIs K B H v o fs → (∀ a ∈ fs, H' a = H a) → OwIs K B' H' v o fs
  | _, _, _, .l h i z, k => .l (by rw [k _ List.mem_cons_self]; exact h) (i.mono s) z
  | _, _, _, .dk h q i z, k => .dk (by rw [k _ List.mem_cons_self]; exact h) q (i.mono s) z
  | _, _, _, .da i, _ => .da (i.mono s)
  | _, _, _, .tr h a z, k => .tr (by rw [k _ List.mem_cons_self]; exact h) (a.mono s fun b hb => k b (List.mem_cons_of_mem _ hb)) z
  | _, _, _, .tu h a z, k => .tu (s _ _ h) (a.mono s k) z
theorem OwIss.mono (s : Same B B') : ∀ {v o fs}, OwIss K B H v o fs → (∀ a ∈ fs, H' a = H a) → OwIss K B' H' v o fs
  | _, _, _, .nil, _ => .nil
  | _, _, _, .cons h r, k => .cons (h.mono s fun b hb => k b (List.mem_append_left _ hb)) (r.mono s fun b hb => k b (List.mem_append_right _ hb))
end
mutual
theorem OwIs.is_ (s : Same B B') : ∀ {v o fs}, OwIs K B H v o fs → (∀ a ∈ fs, B' a = H a) → Is K B' v o.d
  | _, _, _, .l h i z, k => .lst (by rw [k _ List.mem_cons_self]; exact h) (i.mono s) z
  | _, _, _, .dk h q i z, k => .dic (by rw [k _ List.mem_cons_self]; exact h) q (i.mono s) z
  | _, _, _, .da i, _ => i.mono s
  | _, _, _, .tr h a z, k => .lst (by rw [k _ List.mem_cons_self]; exact h) (a.is_ s fun b hb => k b (List.mem_cons_of_mem _ hb)) z
  | _, _, _, .tu h a z, k => .tup (s _ _ h) (a.is_ s k) z
theorem OwIss.is_ (s : Same B B') : ∀ {v o fs}, OwIss K B H v o fs → (∀ a ∈ fs, B' a = H a) → Iss K B' v (owds o)
  | _, _, _, .nil, _ => .nil
  | _, _, _, .cons h r, k => .cons (h.is_ s fun b hb => k b (List.mem_append_left _ hb)) (r.is_ s fun b hb => k b (List.mem_append_right _ hb))
end
mutual
theorem OwIs.cell : ∀ {v o fs}, OwIs K B H v o fs → ∀ a ∈ fs, (∃ l, H a = some (.lst l)) ∨ ∃ l, H a = some (.dK l)
  | _, _, _, .l h _ _, a, m => by rw [List.mem_singleton.mp m]; exact .inl ⟨_, h⟩
  | _, _, _, .dk h _ _ _, a, m => by rw [List.mem_singleton.mp m]; exact .inr ⟨_, h⟩
  | _, _, _, .da _, a, m => nomatch m
  | _, _, _, .tr h r _, a, m => (List.mem_cons.mp m).elim (fun e => by rw [e]; exact .inl ⟨_, h⟩) (r.cell a)
  | _, _, _, .tu _ r _, a, m => r.cell a m
theorem OwIss.cell : ∀ {v o fs}, OwIss K B H v o fs → ∀ a ∈ fs, (∃ l, H a = some (.lst l)) ∨ ∃ l, H a = some (.dK l)
  | _, _, _, .nil, a, m => nomatch m
  | _, _, _, .cons h r, a, m => (List.mem_append.mp m).elim (h.cell a) (r.cell a)
end
theorem OwIs.lE {v l fs} (h : OwIs K B H v (.ls l) fs) : ∃ p xs, v = .ref p ∧ fs = [p] ∧ H p = some (.lst xs) ∧ Iss K B xs l ∧ xs.length ≤ 100000 := by
  cases h with
  | l h i z => exact ⟨_, _, rfl, rfl, h, i, z⟩
theorem OwIs.trE {v ts fs} (h : OwIs K B H v (.tr ts) fs) : ∃ p vs gs, v = .ref p ∧ fs = p :: gs ∧ H p = some (.lst vs) ∧ OwIss K B H vs ts gs ∧ vs.length ≤ 100000 := by
  cases h with
  | tr h a z => exact ⟨_, _, _, rfl, rfl, h, a, z⟩
theorem OwIss.length : ∀ {v o fs}, OwIss K B H v o fs → v.length = o.length
  | _, _, _, .nil => rfl
  | _, _, _, .cons _ r => congrArg (· + 1) r.length
theorem OwIss.append : ∀ {v o fs v' o' fs'}, OwIss K B H v o fs → OwIss K B H v' o' fs' → OwIss K B H (v ++ v') (o ++ o') (fs ++ fs')
  | _, _, _, _, _, _, .nil, h => h
  | _, _, _, _, _, _, .cons a t, h => by rw [List.append_assoc]; exact .cons a (t.append h)
theorem OwIss.ofD : ∀ {vs l}, Iss K B vs l → OwIss K B H vs (l.map .da) []
  | _, _, .nil => .nil
  | _, _, .cons h t => .cons (fs := []) (.da h) (OwIss.ofD t)
end
inductive Ev where
  | any | d (x : D) | own (o : Ow) (lent : Option Nat := none) | pool | scr (ns : List Int) | err (a : Addr) (dd : Option Addr) (fs : List (Str × V)) | raw (v : V)
def nth : List Ev → Nat → Ev
  | [], _ => .any
  | e :: _, 0 => e
  | _ :: r, n + 1 => nth r n
def sth : List Ev → Nat → Ev → List Ev
  | [], _, _ => []
  | _ :: r, 0, x => x :: r
  | e :: r, n + 1, x => e :: sth r n x
theorem nth_sth_eq : ∀ {env : List Ev} {i : Nat} {x : Ev}, i < env.length → nth (sth env i x) i = x
  | [], _, _, h => absurd h (Nat.not_lt_zero _)
  | _ :: _, 0, _, _ => rfl
  | _ :: r, n + 1, _, h => nth_sth_eq (env := r) (Nat.lt_of_succ_lt_succ h)
theorem nth_sth_ne : ∀ {env : List Ev} {i j : Nat} {x : Ev}, j ≠ i → nth (sth env i x) j = nth env j
  | [], _, _, _, _ => rfl
  | _ :: _, 0, 0, _, h => absurd rfl h
  | _ :: _, 0, _ + 1, _, _ => rfl
  | _ :: _, _ + 1, 0, _, _ => rfl
  | _ :: r, n + 1, m + 1, _, h => nth_sth_ne (env := r) (fun e => h (congrArg _ e))
theorem sth_len : ∀ {env : List Ev} {i : Nat} {x : Ev}, (sth env i x).length = env.length
  | [], _, _ => rfl
  | _ :: _, 0, _ => rfl
  | _ :: r, n + 1, _ => congrArg (· + 1) (sth_len (env := r))
theorem sth_out : ∀ {env : List Ev} {i : Nat} {x : Ev}, env.length ≤ i → sth env i x = env
  | [], _, _, _ => rfl
  | _ :: _, 0, _, h => absurd h (Nat.not_succ_le_zero _)
  | e :: r, n + 1, _, h => congrArg (e :: ·) (sth_out (env := r) (Nat.le_of_succ_le_succ h))
theorem nth_out : ∀ {env : List Ev} {i : Nat}, env.length ≤ i → nth env i = .any
  | [], _, _ => rfl
  | _ :: _, 0, h => absurd h (Nat.not_succ_le_zero _)
  | _ :: r, n + 1, h => nth_out (env := r) (Nat.le_of_succ_le_succ h)
/-- what the proof knows of the heaps: at the def's entry, pools then and now, the data's part of the heap -/
structure G where
  H0 : Hp
  M0 : Addr → Prop
  M : Addr → Prop
  B : Hp
  /-- cells under way that no slot holds -/
  P : Hp
  /-- the data's part at the def's entry -/
  B0 : Hp
  /-- cells of the entry that the def may change -/
  X : Nat → Option Addr
  /-- the cells of each slot -/
  F : Nat → List Addr
/-- what of the entry the def may change -/
def G.XA (g : G) (a : Addr) : Prop := ∃ i, g.X i = some a
structure G.Le (g g' : G) : Prop where
  h0 : g'.H0 = g.H0
  m0 : g'.M0 = g.M0
  m : ∀ a, g.M a → g'.M a
  b : Same g.B g'.B
  p : g'.P = g.P
  b0 : g'.B0 = g.B0
  x : g'.X = g.X
theorem _root_.L2.Same.rfl' {H : Hp} : Same H H := fun _ _ h => h
theorem G.Le.rfl {g : G} : G.Le g g := ⟨Eq.refl _, Eq.refl _, fun _ h => h, Same.rfl', Eq.refl _, Eq.refl _, Eq.refl _⟩
theorem G.Le.xa {g g' : G} (l : G.Le g g') : g'.XA = g.XA := by unfold G.XA; rw [l.x]
theorem G.Le.trans {a b c : G} (x : G.Le a b) (y : G.Le b c) : G.Le a c := ⟨y.h0.trans x.h0, y.m0.trans x.m0, fun p h => y.m p (x.m p h), x.b.trans y.b, y.p.trans x.p, y.b0.trans x.b0, y.x.trans x.x⟩
def Imm : HO → Prop
  | .tup _ => True
  | .ins _ _ _ => True
  | _ => False
structure WOk (g : G) (H : Hp) : Prop where
  sb : Same g.B H
  pl : ∀ a, g.M a → IsPool H a ∧ g.B a = none
  im : ∀ a o, H a = some o → Imm o → g.B a = some o
  fr : ∀ a o, ¬ g.M0 a → ¬ g.XA a → g.H0 a = some o → H a = some o
  nw : ∀ a, g.M a → g.M0 a ∨ g.H0 a = none
  pv : ∀ a o, g.P a = some o → H a = some o ∧ g.B a = none ∧ ¬ g.M a
  m0 : ∀ a, g.M0 a → g.M a
  bn : ∀ a o, ¬ g.XA a → g.H0 a = some o → g.B0 a = none → g.B a = none
  xp : ∀ a, g.XA a → (∃ o, H a = some o) ∧ (∃ o, g.H0 a = some o) ∧ g.B0 a = none
/-- a cell of the def's own -/
structure Priv (g : G) (b : Option Nat) (a : Addr) : Prop where
  nb : g.B a = none
  nm : ¬ g.M a
  n0 : g.H0 a = none ∨ (b.isSome = true ∧ g.XA a)
  np : g.P a = none
/-- what the def owns at v, its cells -/
structure OwnAt (K : PySem.W.Frag) (g : G) (H : Hp) (b : Option Nat) (v : V) (o : Ow) (fs : List Addr) : Prop where
  is_ : OwIs K g.B H v o fs
  nd : fs.Nodup
  pv : ∀ a ∈ fs, Priv g b a
  pin : ∀ u, b = some u → ∃ p, g.X u = some p ∧ v = .ref p
/-- the script at a -/
def ScrAt (K : PySem.W.Frag) (H0 : Hp) (M0 : Addr → Prop) (a : Addr) (xs : List V) : Prop := (∀ H, SqL K H a xs) ∨ ∃ o, H0 a = some o ∧ (∀ H : Hp, H a = some o → SqL K H a xs) ∧ ¬ M0 a
theorem ScrAt.of {K : PySem.W.Frag} {H : Hp} {M : Addr → Prop} {a : Addr} {xs : List V} (h : SqL K H a xs) (m : ∀ b, M b → IsPool H b) (n : ∀ b, M b → b ≠ a) : ScrAt K H M a xs := by
  rcases h with (h | ⟨o, h⟩) | h
  · exact .inr ⟨_, h, fun _ e => .inl (.inl e), fun q => n _ q rfl⟩
  · exact .inr ⟨_, h, fun _ e => .inl (.inr ⟨o, e⟩), fun q => n _ q rfl⟩
  · exact .inl fun _ => .inr h
def Sl (K : PySem.W.Frag) (g : G) (H : Hp) (o : Option (Option V)) (fs : List Addr) : Ev → Prop
  | .any => True
  | .d x => ∃ v, o = some (some v) ∧ Is K g.B v x
  | .own l b => ∃ v, o = some (some v) ∧ OwnAt K g H b v l fs
  | .pool => ∃ p, o = some (some (.ref p)) ∧ g.M p
  | .scr ns => ∃ a, o = some (some (.ref a)) ∧ ScrAt K g.H0 (fun a => g.M0 a ∨ g.XA a) a (ns.map V.int)
  | .err a dd fs => o = some (some (.ref a)) ∧ ∀ d, dd = some d → g.B d = some (.xd fs)
  | .raw v => o = some (some v)
def isOwn : Ev → Bool
  | .own _ _ => true
  | _ => false
structure Rep (K : PySem.W.Frag) (g : G) (σ : L2.St) (H : Hp) (env : List Ev) : Prop where
  ok : WOk g H
  ln : σ.length = env.length
  sl : ∀ i, Sl K g H σ[i]? (g.F i) (nth env i)
  nf : ∀ i, isOwn (nth env i) = false → g.F i = []
  di : ∀ i j a, i ≠ j → a ∈ g.F i → a ∈ g.F j → False
/-- an argument, a result -/
inductive Ar where
  | d (x : D) | pool | fr (o : Ow) | scr (ns : List Int)
/-- cells that no slot holds -/
def Off (g : G) (fs : List Addr) : Prop := ∀ i, ∀ a ∈ fs, a ∉ g.F i
def IsR (K : PySem.W.Frag) (g : G) (H : Hp) (v : V) : Ar → Prop
  | .d x => Is K g.B v x
  | .pool => ∃ p, v = .ref p ∧ g.M p
  | .scr ns => ∃ a, v = .ref a ∧ ScrAt K g.H0 (fun a => g.M0 a ∨ g.XA a) a (ns.map V.int)
  | .fr o => ∃ fs, OwnAt K g H none v o fs ∧ Off g fs
section
variable {K : PySem.W.Frag} {g g' : G} {σ σ' : L2.St} {H H' : Hp} {env : List Ev} {b : Option Nat} {v : V} {o : Ow} {fs : List Addr}
theorem OwnAt.ex (a : OwnAt K g H b v o fs) : ∀ p ∈ fs, ∃ u, H p = some u := fun p m => (a.is_.cell p m).elim (fun ⟨_, h⟩ => ⟨_, h⟩) fun ⟨_, h⟩ => ⟨_, h⟩
theorem OwnAt.notImm (a : OwnAt K g H b v o fs) : ∀ p ∈ fs, ∀ u, H p = some u → ¬ Imm u := fun p m u e => (a.is_.cell p m).elim (fun ⟨_, h⟩ => by rw [h] at e; cases e; exact fun z => z) fun ⟨_, h⟩ => by rw [h] at e; cases e; exact fun z => z
theorem OwnAt.ne (a : OwnAt K g H b v o fs) {q} (hq : H q = none) : ∀ p ∈ fs, p ≠ q := fun p m e => by obtain ⟨u, h⟩ := a.ex p m; rw [e, hq] at h; cases h
theorem OwnAt.keep (a : OwnAt K g H b v o fs) (x : g'.X = g.X) (s : Same g.B g'.B) (h : ∀ p ∈ fs, H' p = H p) (k : ∀ p ∈ fs, Priv g b p → Priv g' b p) : OwnAt K g' H' b v o fs := ⟨a.is_.mono s h, a.nd, fun p m => k p m (a.pv p m), fun u e => by rw [x]; exact a.pin u e⟩
theorem Rep.lt_of_F (r : Rep K g σ H env) {i a} (h : a ∈ g.F i) : isOwn (nth env i) = true := by
  cases c : isOwn (nth env i) with
  | true => rfl
  | false => rw [r.nf i c] at h; cases h
theorem Rep.ownC (r : Rep K g σ H env) {i a} (h : a ∈ g.F i) : ∃ v o b, nth env i = .own o b ∧ σ[i]? = some (some v) ∧ OwnAt K g H b v o (g.F i) := by
  have c := r.lt_of_F h
  have s := r.sl i
  cases e : nth env i with
  | own o b => rw [e] at s; obtain ⟨v, e1, a⟩ := s; exact ⟨v, o, b, rfl, e1, a⟩
  | _ => rw [e] at c; cases c
theorem Sl.mono {q e} (le : G.Le g g') (hk : ∀ b v o, OwnAt K g H b v o fs → OwnAt K g' H' b v o fs) (s : Sl K g H q fs e) : Sl K g' H' q fs e := by
  cases e with
  | any => trivial
  | d x => obtain ⟨v, e, h⟩ := s; exact ⟨v, e, h.mono le.b⟩
  | own l b => obtain ⟨v, e, h⟩ := s; exact ⟨v, e, hk _ _ _ h⟩
  | pool => obtain ⟨p, e, h⟩ := s; exact ⟨p, e, le.m _ h⟩
  | scr ns => obtain ⟨a, e, h⟩ := s; exact ⟨a, e, by rw [le.h0, le.m0, le.xa]; exact h⟩
  | err a dd fs => exact ⟨s.1, fun d h => le.b _ _ (s.2 d h)⟩
  | raw v => exact s
/-- all slots stay as they are -/
theorem Rep.move (r : Rep K g σ H env) (ok : WOk g' H') (le : G.Le g g') (hF : g'.F = g.F) (hk : ∀ i, ∀ a ∈ g.F i, (∀ b, Priv g b a → Priv g' b a) ∧ H' a = H a) : Rep K g' σ H' env :=
  ⟨ok, r.ln, fun i => by
    rw [hF]
    exact (r.sl i).mono le fun b v o a => a.keep le.x le.b (fun p m => (hk i p m).2) fun p m => (hk i p m).1 b, by rw [hF]; exact r.nf, by rw [hF]; exact r.di⟩
def setF (F : Nat → List Addr) (i : Nat) (fs : List Addr) : Nat → List Addr := fun j => if j = i then fs else F j
theorem setF_eq {F i fs} : setF F i fs i = fs := by unfold setF; rw [if_pos rfl]
theorem setF_ne {F i fs j} (h : j ≠ i) : setF F i fs j = F j := by unfold setF; rw [if_neg h]
def G.setF (g : G) (i : Nat) (fs : List Addr) : G := { g with F := LR.setF g.F i fs }
theorem G.setF_le {i fs} : G.Le g (g.setF i fs) := ⟨rfl, rfl, fun _ h => h, Same.rfl', rfl, rfl, rfl⟩
theorem WOk.setF (w : WOk g H) {i fs} : WOk (g.setF i fs) H := ⟨w.sb, w.pl, w.im, w.fr, w.nw, w.pv, w.m0, w.bn, w.xp⟩
theorem Priv.setF {i a} (p : Priv g b a) : Priv (g.setF i fs) b a := ⟨p.nb, p.nm, p.n0, p.np⟩
theorem OwnAt.setF (a : OwnAt K g H b v o fs) {i gs} : OwnAt K (g.setF i gs) H b v o fs := ⟨a.is_, a.nd, fun p m => (a.pv p m).setF, a.pin⟩
/-- one slot changes -/
theorem Rep.moveS (r : Rep K g σ H env) {i : Nat} (hi : i < env.length) (e : Ev) {fs : List Addr} (ok : WOk g' H') (le : G.Le g g') (hF : g'.F = LR.setF g.F i fs) (hl : σ'.length = σ.length) (hσ : ∀ j, j ≠ i → σ'[j]? = σ[j]?)
    (s : Sl K g' H' σ'[i]? fs e) (nf : isOwn e = false → fs = []) (dj : ∀ j, j ≠ i → ∀ a ∈ fs, a ∉ g.F j) (hk : ∀ j, j ≠ i → ∀ a ∈ g.F j, (∀ b, Priv g b a → Priv g' b a) ∧ H' a = H a) : Rep K g' σ' H' (sth env i e) := by
  refine ⟨ok, by rw [sth_len, hl]; exact r.ln, fun j => ?_, fun j hj => ?_, fun j k a n hj hk' => ?_⟩
  · by_cases n : j = i
    · subst n; rw [nth_sth_eq hi, hF, setF_eq]; exact s
    · rw [nth_sth_ne n, hσ j n, hF, setF_ne n]
      exact (r.sl j).mono le fun b v o a => a.keep le.x le.b (fun p m => (hk j n p m).2) fun p m => (hk j n p m).1 b
  · by_cases n : j = i
    · subst n; rw [nth_sth_eq hi] at hj; rw [hF, setF_eq]; exact nf hj
    · rw [nth_sth_ne n] at hj; rw [hF, setF_ne n]; exact r.nf j hj
  · rw [hF] at hj hk'
    by_cases n1 : j = i
    · subst n1
      rw [setF_eq] at hj
      rw [setF_ne (Ne.symm n)] at hk'
      exact dj k (Ne.symm n) a hj hk'
    · rw [setF_ne n1] at hj
      by_cases n2 : k = i
      · subst n2
        rw [setF_eq] at hk'
        exact dj j n1 a hk' hj
      · rw [setF_ne n2] at hk'
        exact r.di j k a n hj hk'
/-- a new object that is data -/
def G.new (g : G) (p : Addr) (o : HO) : G := { g with B := upd g.B p o }
theorem G.new_le (w : WOk g H) {p o} (h : H p = Option.none) : G.Le g (g.new p o) :=
  ⟨rfl, rfl, fun _ h => h, fun a u e => by show upd g.B p o a = .some u; rw [upd_ne (ne_of_none (w.sb _ _ e) h)]; exact e, rfl, rfl, rfl⟩
/-- what is new now was not there at the entry -/
theorem WOk.entry_none (w : WOk g H) {p} (h : H p = Option.none) : g.H0 p = Option.none := by
  cases e : g.H0 p with
  | none => rfl
  | some o =>
    by_cases c : g.M0 p
    · obtain ⟨⟨_, _, _, _, q⟩, _⟩ := w.pl p (w.m0 p c)
      rw [q] at h; cases h
    · by_cases x : g.XA p
      · obtain ⟨⟨u, q⟩, _⟩ := w.xp p x
        rw [q] at h; cases h
      · rw [w.fr _ _ c x e] at h; cases h
theorem WOk.new (w : WOk g H) {p o} (h : H p = Option.none) : WOk (g.new p o) (upd H p o) := by
  refine ⟨fun a u e => ?_, fun a m => ?_, fun a u e i => ?_, fun a u n n2 e => ?_, w.nw, fun a u e => ?_, w.m0, fun a u nx e e2 => ?_, fun a x => ?_⟩
  · by_cases c : a = p
    · subst c
      have e : upd g.B a o a = some u := e
      rw [upd_same] at e ⊢; exact e
    · have e : upd g.B p o a = some u := e
      rw [upd_ne c] at e ⊢; exact w.sb _ _ e
  · obtain ⟨h1, h2⟩ := w.pl a m
    obtain ⟨x1, x2, x3, x4, hx⟩ := h1
    have n := ne_of_none hx h
    refine ⟨⟨x1, x2, x3, x4, by rw [upd_ne n]; exact hx⟩, by show upd g.B p o a = _; rw [upd_ne n]; exact h2⟩
  · show upd g.B p o a = some u
    by_cases c : a = p
    · subst c; rw [upd_same] at e ⊢; exact e
    · rw [upd_ne c] at e ⊢; exact w.im _ _ e i
  · have := w.fr a u n n2 e
    rw [upd_ne (ne_of_none this h)]; exact this
  · obtain ⟨h1, h2, h3⟩ := w.pv a u e
    have n := ne_of_none h1 h
    exact ⟨by rw [upd_ne n]; exact h1, by show upd g.B p o a = _; rw [upd_ne n]; exact h2, h3⟩
  · have e' : g.H0 a = some u := e
    have n : a ≠ p := fun z => by subst z; rw [w.entry_none h] at e'; cases e'
    show upd g.B p o a = _
    rw [upd_ne n]; exact w.bn a u nx e e2
  · obtain ⟨⟨u, e⟩, q⟩ := w.xp a x
    exact ⟨⟨u, by rw [upd_ne (ne_of_none e h)]; exact e⟩, q⟩
theorem Priv.new {a q u} (p : Priv g b a) (n : a ≠ q) : Priv (g.new q u) b a := ⟨by show upd g.B q u a = _; rw [upd_ne n]; exact p.nb, p.nm, p.n0, p.np⟩
theorem Rep.new (r : Rep K g σ H env) {p u} (h : H p = Option.none) : Rep K (g.new p u) σ (upd H p u) env :=
  r.move (r.ok.new h) (G.new_le r.ok h) rfl fun i a m => by
    obtain ⟨v, o, b, _, _, oa⟩ := r.ownC m
    have n := oa.ne h a m
    exact ⟨fun b q => q.new n, upd_ne n⟩
theorem Rep.le_new (r : Rep K g σ H env) {p o} (h : H p = Option.none) : G.Le g (g.new p o) := G.new_le r.ok h
/-- what one owns becomes data -/
def frzB (B H : Hp) (fs : List Addr) : Hp := fun a => if a ∈ fs then H a else B a
theorem frzB_in {B H : Hp} {fs a} (h : a ∈ fs) : frzB B H fs a = H a := by unfold frzB; rw [if_pos h]
theorem frzB_out {B H : Hp} {fs a} (h : a ∉ fs) : frzB B H fs a = B a := by unfold frzB; rw [if_neg h]
def G.frz (g : G) (H : Hp) (fs : List Addr) : G := { g with B := frzB g.B H fs }
theorem frz_same (pv : ∀ a ∈ fs, Priv g b a) : Same g.B (frzB g.B H fs) := fun a u e => by
  by_cases m : a ∈ fs
  · rw [(pv a m).nb] at e; cases e
  · rw [frzB_out m]; exact e
theorem G.frz_le (pv : ∀ a ∈ fs, Priv g b a) : G.Le g (g.frz H fs) := ⟨rfl, rfl, fun _ h => h, frz_same pv, rfl, rfl, rfl⟩
theorem WOk.frz (w : WOk g H) (pv : ∀ a ∈ fs, Priv g none a) : WOk (g.frz H fs) H := by
  have out : ∀ {a u}, g.H0 a = some u → a ∉ fs := fun {a u} e m => by
    rcases (pv a m).n0 with q | q
    · rw [q] at e; cases e
    · cases q.1
  refine ⟨fun c u e => ?_, fun c m => ?_, fun c u e i => frz_same pv c u (w.im c u e i), w.fr, w.nw, fun c u e => ?_, w.m0, fun c u nx e e2 => ?_, w.xp⟩
  · have e : frzB g.B H fs c = some u := e
    by_cases m : c ∈ fs
    · rw [frzB_in m] at e; exact e
    · rw [frzB_out m] at e; exact w.sb _ _ e
  · obtain ⟨h1, h2⟩ := w.pl c m
    refine ⟨h1, ?_⟩
    show frzB g.B H fs c = none
    rw [frzB_out fun q => (pv c q).nm m]; exact h2
  · obtain ⟨h1, h2, h3⟩ := w.pv c u e
    have e : g.P c = some u := e
    refine ⟨h1, ?_, h3⟩
    show frzB g.B H fs c = none
    rw [frzB_out fun q => by rw [(pv c q).np] at e; cases e]; exact h2
  · show frzB g.B H fs c = none
    rw [frzB_out (out e)]; exact w.bn c u nx e e2
theorem Priv.frz {a} (p : Priv g b a) (n : a ∉ fs) : Priv (g.frz H fs) b a := ⟨by show frzB g.B H fs a = _; rw [frzB_out n]; exact p.nb, p.nm, p.n0, p.np⟩
theorem Is.frz (a : OwnAt K g H b v o fs) : Is K (g.frz H fs).B v o.d := a.is_.is_ (frz_same a.pv) fun p m => frzB_in m
/-- .. a result that no slot holds -/
theorem Rep.frzR (r : Rep K g σ H env) (a : OwnAt K g H none v o fs) (ns : Off g fs) : Rep K (g.frz H fs) σ H env :=
  r.move (r.ok.frz a.pv) (G.frz_le a.pv) rfl fun i c m => ⟨fun b q => q.frz fun h => ns i c h m, rfl⟩
/-- the environment forgets -/
def fz : List Ev → Nat → List Ev
  | [], _ => []
  | .own l none :: r, 0 => .d l.d :: r
  | e :: r, 0 => e :: r
  | e :: r, n + 1 => e :: fz r n
theorem fz_sth : ∀ {env : List Ev} {i : Nat} {l : Ow}, nth env i = .own l none → fz env i = sth env i (.d l.d)
  | [], _, _, h => by cases h
  | e :: _, 0, l, h => by
    have h : e = .own l none := h
    subst h; rfl
  | e :: r, n + 1, _, h => by
    have := fz_sth (env := r) h
    cases e with
    | own l b => cases b <;> exact congrArg _ this
    | _ => exact congrArg _ this
theorem fz_not : ∀ {env : List Ev} {i : Nat}, (∀ l, nth env i ≠ .own l none) → fz env i = env
  | [], _, _ => rfl
  | e :: _, 0, h => by
    cases e with
    | own l b => cases b with
      | none => exact absurd rfl (h l)
      | some _ => rfl
    | _ => rfl
  | e :: r, n + 1, h => by
    have := fz_not (env := r) h
    cases e with
    | own l b => cases b <;> exact congrArg _ this
    | _ => exact congrArg _ this
theorem lt_of_own {env : List Ev} {i : Nat} {l : Ow} {b} (h : nth env i = .own l b) : i < env.length := by
  rcases Nat.lt_or_ge i env.length with z | z
  · exact z
  · rw [nth_out z] at h; cases h
theorem Rep.frz (r : Rep K g σ H env) (i : Nat) : ∃ g', G.Le g g' ∧ Rep K g' σ H (fz env i) := by
  by_cases c : ∃ l, nth env i = .own l none
  · obtain ⟨l, e⟩ := c
    have s := r.sl i
    rw [e] at s
    obtain ⟨v, es, a⟩ := s
    rw [fz_sth e]
    have le := G.frz_le (H := H) a.pv
    refine ⟨(g.frz H (g.F i)).setF i [], le.trans G.setF_le, r.moveS (lt_of_own e) _ ((r.ok.frz a.pv).setF) (le.trans G.setF_le) rfl rfl (fun _ _ => rfl) ⟨v, es, .frz a⟩ (fun _ => rfl) (fun _ _ a m => nomatch m) fun j n p m => ⟨fun b q => (q.frz fun h => r.di i j p (Ne.symm n) h m).setF, rfl⟩⟩
  · rw [fz_not fun l h => c ⟨l, h⟩]; exact ⟨g, .rfl, r⟩
theorem get_set_eq {σ : L2.St} {i : Nat} {v : Option V} (h : i < σ.length) : (σ.set i v)[i]? = some v := by simp [h]
theorem get_set_ne {σ : L2.St} {i j : Nat} {v : Option V} (h : j ≠ i) : (σ.set i v)[j]? = σ[j]? := by simp [List.getElem?_set, Ne.symm h]
theorem set_out {σ : L2.St} {i : Nat} {v : Option V} (h : σ.length ≤ i) : σ.set i v = σ := List.set_eq_of_length_le h
/-- a slot is forgotten -/
theorem Rep.dropS (r : Rep K g σ H env) (i : Nat) (hl : σ'.length = σ.length) (hσ : ∀ j, j ≠ i → σ'[j]? = σ[j]?) : Rep K (g.setF i []) σ' H (sth env i .any) := by
  rcases Nat.lt_or_ge i env.length with z | z
  · exact r.moveS z _ r.ok.setF G.setF_le rfl hl hσ trivial (fun _ => rfl) (fun _ _ a m => nomatch m) fun j n p m => ⟨fun b q => q.setF, rfl⟩
  · have nfi := r.nf i (by rw [nth_out z]; rfl)
    rw [sth_out z]
    refine ⟨r.ok.setF, by rw [hl]; exact r.ln, fun j => ?_, fun j hj => ?_, fun j k a n hj hk => ?_⟩
    · show Sl K (g.setF i []) H σ'[j]? (LR.setF g.F i [] j) (nth env j)
      by_cases n : j = i
      · subst n; rw [nth_out z]; trivial
      · rw [hσ j n, setF_ne n]
        exact (r.sl j).mono G.setF_le fun b v o a => a.setF
    · show LR.setF g.F i [] j = []
      by_cases n : j = i
      · subst n; rw [setF_eq]
      · rw [setF_ne n]; exact r.nf j hj
    · have : ∀ m, a ∈ (g.setF i []).F m → a ∈ g.F m := fun m h => by
        have h : a ∈ LR.setF g.F i [] m := h
        by_cases q : m = i
        · subst q; rw [setF_eq] at h; cases h
        · rw [setF_ne q] at h; exact h
      exact r.di j k a n (this j hj) (this k hk)
theorem Rep.drop (r : Rep K g σ H env) (i : Nat) : Rep K (g.setF i []) σ H (sth env i .any) := r.dropS i rfl fun _ _ => rfl
/-- what a stored value makes of its slot: as the def's own only where that is wanted -/
def toEv (w : Bool) : Ar → Ev
  | .d x => .d x
  | .pool => .pool
  | .scr ns => .scr ns
  | .fr l => if w then .own l else .d l.d
theorem Rep.setE (r : Rep K g σ H env) {i : Nat} {v : V} {e : Ev} (s : Sl K (g.setF i fs) H (some (some v)) fs e) (nf : isOwn e = false → fs = []) (ns : ∀ j, j ≠ i → ∀ a ∈ fs, a ∉ g.F j) : ∃ g', G.Le g g' ∧ g'.B = g.B ∧ Rep K g' (σ.set i (some v)) H (sth env i e) := by
  rcases Nat.lt_or_ge i env.length with z | z
  · exact ⟨g.setF i fs, G.setF_le, rfl, r.moveS z e r.ok.setF G.setF_le rfl List.length_set (fun j n => get_set_ne n) (by rw [get_set_eq (by rw [r.ln]; exact z)]; exact s) nf ns fun j n p m => ⟨fun b q => q.setF, rfl⟩⟩
  · rw [sth_out z, set_out (by rw [r.ln]; exact z)]; exact ⟨g, .rfl, rfl, r⟩
/-- .. by what is not the def's own -/
theorem Rep.setD (r : Rep K g σ H env) {i : Nat} {v : V} {e : Ev} (s : Sl K g H (some (some v)) [] e) (nf : isOwn e = false) : ∃ g', G.Le g g' ∧ g'.B = g.B ∧ Rep K g' (σ.set i (some v)) H (sth env i e) :=
  r.setE (fs := []) (s.mono G.setF_le fun b v o a => a.setF) (fun _ => rfl) fun j _ a m => nomatch m
/-- a value is stored -/
theorem Rep.set (r : Rep K g σ H env) {i : Nat} {v : V} {a : Ar} (w : Bool) (h : IsR K g H v a) : ∃ g', G.Le g g' ∧ Rep K g' (σ.set i (some v)) H (sth env i (toEv w a)) := by
  have fin : ∀ {e : Ev}, Sl K g H (some (some v)) [] e → isOwn e = false → ∃ g', G.Le g g' ∧ Rep K g' (σ.set i (some v)) H (sth env i e) := fun s n => by
    obtain ⟨g', l, _, R⟩ := r.setD (i := i) s n
    exact ⟨g', l, R⟩
  cases a with
  | d x => exact fin (e := .d x) ⟨v, rfl, h⟩ rfl
  | pool => obtain ⟨p, rfl, m⟩ := h; exact fin (e := .pool) ⟨p, rfl, m⟩ rfl
  | scr ns => obtain ⟨p, rfl, m⟩ := h; exact fin (e := .scr ns) ⟨p, rfl, m⟩ rfl
  | fr l =>
    obtain ⟨fs, o, ns⟩ := h
    cases w with
    | true =>
      obtain ⟨g', l', _, R⟩ := r.setE (i := i) (e := .own l) (fs := fs) ⟨v, rfl, o.setF⟩ (fun z => by cases z) fun j _ a m => ns j a m
      exact ⟨g', l', R⟩
    | false =>
      obtain ⟨g', l', _, R⟩ := (r.frzR o ns).setD (i := i) (e := .d l.d) ⟨v, rfl, .frz o⟩ rfl
      exact ⟨g', (G.frz_le o.pv).trans l', R⟩
/-- a result as data -/
def asD (k : D → Prop) : Ar → Prop
  | .d x => k x
  | .fr l => k l.d
  | .pool => False
  | .scr _ => False
theorem IsR.asD (r : Rep K g σ H env) {v : V} {a : Ar} {k : D → Prop} (h : IsR K g H v a) (q : asD k a) : ∃ x g', G.Le g g' ∧ Rep K g' σ H env ∧ Is K g'.B v x ∧ k x := by
  cases a with
  | d x => exact ⟨x, g, .rfl, r, h, q⟩
  | pool => exact q.elim
  | scr _ => exact q.elim
  | fr l => obtain ⟨fs, o, ns⟩ := h; exact ⟨l.d, _, G.frz_le o.pv, r.frzR o ns, .frz o, q⟩
/-- a cell of the def's own changes -/
theorem WOk.own (w : WOk g H) {p ys} (a : Priv g b p) (ni : ¬ Imm ys) (hp : ∃ u, H p = some u) : WOk g (upd H p ys) := by
  have n0 : ∀ {c u}, ¬ g.XA c → g.H0 c = some u → c ≠ p := fun {c u} x e z => by
    subst z
    rcases a.n0 with q | q
    · rw [q] at e; cases e
    · exact x q.2
  refine ⟨fun c o e => ?_, fun c m => ?_, fun c o e im => ?_, fun c o n n2 e => ?_, w.nw, fun c o e => ?_, w.m0, w.bn, fun c x => ?_⟩
  · have n : c ≠ p := fun z => by rw [z, a.nb] at e; cases e
    rw [upd_ne n]; exact w.sb c o e
  · obtain ⟨⟨x1, x2, x3, x4, h⟩, h2⟩ := w.pl c m
    have n : c ≠ p := fun z => a.nm (z ▸ m)
    exact ⟨⟨x1, x2, x3, x4, by rw [upd_ne n]; exact h⟩, h2⟩
  · by_cases q : c = p
    · subst q; rw [upd_same] at e; cases e; exact (ni im).elim
    · rw [upd_ne q] at e; exact w.im c o e im
  · have := w.fr c o n n2 e
    rw [upd_ne (n0 n2 e)]; exact this
  · obtain ⟨h1, h2, h3⟩ := w.pv c o e
    have n : c ≠ p := fun z => by rw [z, a.np] at e; cases e
    exact ⟨by rw [upd_ne n]; exact h1, h2, h3⟩
  · obtain ⟨⟨u, e⟩, q⟩ := w.xp c x
    by_cases n : c = p
    · subst n; exact ⟨⟨_, upd_same⟩, q⟩
    · exact ⟨⟨u, by rw [upd_ne n]; exact e⟩, q⟩
/-- a new cell is the def's own -/
theorem WOk.priv (w : WOk g H) {p : Addr} (hp : H p = none) : Priv g none p := by
  refine ⟨?_, fun m => ?_, .inl (w.entry_none hp), ?_⟩
  · cases e : g.B p with
    | none => rfl
    | some o => rw [w.sb _ _ e] at hp; cases hp
  · obtain ⟨⟨_, _, _, _, h⟩, _⟩ := w.pl p m
    rw [h] at hp; cases hp
  · cases e : g.P p with
    | none => rfl
    | some o => rw [(w.pv p o e).1] at hp; cases hp
theorem WOk.put (w : WOk g H) {p ys} (hp : H p = none) (ni : ¬ Imm ys) : WOk g (upd H p ys) := by
  have a := w.priv hp
  refine ⟨fun c o e => ?_, fun c m => ?_, fun c o e im => ?_, fun c o n n2 e => ?_, w.nw, fun c o e => ?_, w.m0, w.bn, fun c x => ?_⟩
  · have n : c ≠ p := fun z => by rw [z, a.nb] at e; cases e
    rw [upd_ne n]; exact w.sb c o e
  · obtain ⟨⟨x1, x2, x3, x4, h⟩, h2⟩ := w.pl c m
    have n : c ≠ p := fun z => a.nm (z ▸ m)
    exact ⟨⟨x1, x2, x3, x4, by rw [upd_ne n]; exact h⟩, h2⟩
  · by_cases q : c = p
    · subst q; rw [upd_same] at e; cases e; exact (ni im).elim
    · rw [upd_ne q] at e; exact w.im c o e im
  · have := w.fr c o n n2 e
    rw [upd_ne (ne_of_none this hp)]; exact this
  · obtain ⟨h1, h2, h3⟩ := w.pv c o e
    exact ⟨by rw [upd_ne (ne_of_none h1 hp)]; exact h1, h2, h3⟩
  · obtain ⟨⟨u, e⟩, q⟩ := w.xp c x
    exact ⟨⟨u, by rw [upd_ne (ne_of_none e hp)]; exact e⟩, q⟩
/-- .. a list or a dict, of data and of what no slot holds -/
theorem Rep.put (r : Rep K g σ H env) {p : Addr} {ho : HO} (hp : H p = none) (ni : ¬ Imm ho) : Rep K g σ (upd H p ho) env :=
  r.move (r.ok.put hp ni) .rfl rfl fun i a m => ⟨fun b q => q, by
    obtain ⟨v, o, b, _, _, oa⟩ := r.ownC m
    exact upd_ne (oa.ne hp a m)⟩
theorem Rep.off (r : Rep K g σ H env) {p : Addr} (hp : H p = none) : Off g [p] := fun i a m h => by
  rw [List.mem_singleton] at m
  subst m
  obtain ⟨v, o, b, _, _, oa⟩ := r.ownC h
  exact oa.ne hp _ h rfl
theorem upd_ls (r : Rep K g σ H env) {p : Addr} {xs : List V} {l : List D} (hp : H p = none) (i : Iss K g.B xs l) (z : xs.length ≤ 100000) :
    Rep K g σ (upd H p (.lst xs)) env ∧ OwnAt K g (upd H p (.lst xs)) none (.ref p) (.ls l) [p] ∧ Off g [p] :=
  ⟨r.put hp fun h => h, ⟨.l upd_same i z, (by simp), fun a m => (by rw [List.mem_singleton.mp m]; exact r.ok.priv hp), fun _ h => by cases h⟩, r.off hp⟩
theorem upd_own (r : Rep K g σ H env) {p : Addr} {xs : List V} {l : List D} (hp : H p = none) (i : Iss K g.B xs l) (z : xs.length ≤ 100000) :
    Rep K g σ (upd H p (.lst xs)) env ∧ IsR K g (upd H p (.lst xs)) (.ref p) (.fr (.ls l)) :=
  let ⟨R, o, ns⟩ := upd_ls r hp i z
  ⟨R, [p], o, ns⟩
end
end LR
set_option Elab.async false
set_option maxRecDepth 100000
set_option linter.all false
set_option maxHeartbeats 4000000
namespace LR
open PySem PySem.Spec PyProof.Rows L2
/-! # the data layer: what an expression asks of the data -/
structure Er where
  C : Addr
  fs : Option (List (Str × V))
def IsEr (B : Hp) (cls : Value) (dd : Option Addr) (e : Er) : Prop := cls = .ref e.C ∧ match e.fs with
  | none => dd = none
  | some fs => ∃ d, dd = some d ∧ B d = some (.xd fs)
abbrev DE := List Ev → (Er → Prop) → (Ar → Prop) → Prop
abbrev DT := List Ev → (Er → Prop) → (Bool → Prop) → Prop
abbrev DA := List Ev → (Er → Prop) → (List Ar → Prop) → Prop
inductive IsAs (K : PySem.W.Frag) (g : G) : List V → List Ar → Prop
  | nil : IsAs K g [] []
  | d {v x vs as} (h : Is K g.B v x) (t : IsAs K g vs as) : IsAs K g (v :: vs) (.d x :: as)
  | pool {p vs as} (h : g.M p) (t : IsAs K g vs as) : IsAs K g (.ref p :: vs) (.pool :: as)
  | scr {a ns vs as} (h : ScrAt K g.H0 (fun a => g.M0 a ∨ g.XA a) a (ns.map V.int)) (t : IsAs K g vs as) : IsAs K g (.ref a :: vs) (.scr ns :: as)
section
variable {K : PySem.W.Frag} {W : WX} {g g' : G} {σ : L2.St} {H H' : Hp} {env : List Ev} {Ed : Er → Prop}
theorem IsAs.mono (le : G.Le g g') : ∀ {vs as}, IsAs K g vs as → IsAs K g' vs as
  | _, _, .nil => .nil
  | _, _, .d h t => .d (h.mono le.b) (t.mono le)
  | _, _, .pool h t => .pool (le.m _ h) (t.mono le)
  | _, _, .scr h t => .scr (by rw [le.h0, le.m0, le.xa]; exact h) (t.mono le)
def KX (K : PySem.W.Frag) (W : WX) (g : G) (σ : L2.St) (env : List Ev) (Ed : Er → Prop) : Prop :=
  ∀ er cls dd H' g', G.Le g g' → Rep K g' σ H' env → IsEr g'.B cls dd er → Ed er → W cls dd σ H'
def KV (K : PySem.W.Frag) (g : G) (σ : L2.St) (env : List Ev) (Qd : Ar → Prop) (Q : VK) : Prop :=
  ∀ v r H' g', G.Le g g' → Rep K g' σ H' env → IsR K g' H' v r → Qd r → Q v H'
theorem KX.mono (k : KX K W g σ env Ed) (le : G.Le g g') : KX K W g' σ env Ed := fun er cls dd H' g'' l => k er cls dd H' g'' (le.trans l)
theorem KV.mono {Qd Q} (k : KV K g σ env Qd Q) (le : G.Le g g') : KV K g' σ env Qd Q := fun v r H' g'' l => k v r H' g'' (le.trans l)
end
def lift (K : PySem.W.Frag) (W : WX) (d : DE) : TE := fun σ H Q => ∃ g env Ed Qd, Rep K g σ H env ∧ d env Ed Qd ∧ KV K g σ env Qd Q ∧ KX K W g σ env Ed
def liftT (K : PySem.W.Frag) (W : WX) (d : DT) : TT := fun σ H Q => ∃ g env Ed Qd, Rep K g σ H env ∧ d env Ed Qd ∧ (∀ b H' g', G.Le g g' → Rep K g' σ H' env → Qd b → Q b H') ∧ KX K W g σ env Ed
def liftA (K : PySem.W.Frag) (W : WX) (d : DA) : TA := fun σ H Q => ∃ g env Ed Qd, Rep K g σ H env ∧ d env Ed Qd ∧ (∀ vs as H' g', G.Le g g' → Rep K g' σ H' env → IsAs K g' vs as → Qd as → Q vs H') ∧ KX K W g σ env Ed
def QE (X : Cx) (W : WX) (e : Expr) (d : DE) : Prop := PE X e (lift X.K W d)
def QT (X : Cx) (W : WX) (e : Expr) (d : DT) : Prop := PT X e (liftT X.K W d)
def QW (X : Cx) (W : WX) (e : Expr) (d : DT) : Prop := PW X e (liftT X.K W d)
def QA (X : Cx) (W : WX) (es : List Expr) (d : DA) : Prop := PA X es (liftA X.K W d)
abbrev PF := List Ev → Option D
def dP (p : PF) : DE := fun env _ Q => ∃ x, p env = some x ∧ Q (.d x)
def dPT (p : PF) : DT := fun env _ Q => ∃ b, p env = some (.bl b) ∧ Q b
def QP (X : Cx) (e : Expr) (p : PF) : Prop := ∀ W, QE X W e (dP p)
def QPT (X : Cx) (e : Expr) (p : PF) : Prop := ∀ W, QT X W e (dPT p)
theorem _root_.L2.PE.mono {X e t t'} (h : PE X e t) (m : ∀ σ H Q, t' σ H Q → t σ H Q) : PE X e t' := ⟨fun pins s σ H Q I q => h.run pins s σ H Q I (m _ _ _ q)⟩
theorem _root_.L2.PT.mono {X e t t'} (h : PT X e t) (m : ∀ σ H Q, t' σ H Q → t σ H Q) : PT X e t' := ⟨fun pins s σ H Q I q => h.run pins s σ H Q I (m _ _ _ q)⟩
theorem _root_.L2.PW.mono {X e t t'} (h : PW X e t) (m : ∀ σ H Q, t' σ H Q → t σ H Q) : PW X e t' := ⟨fun whole pins s σ H Q I q => h.run whole pins s σ H Q I (m _ _ _ q)⟩
theorem _root_.L2.PA.mono {X es t t'} (h : PA X es t) (m : ∀ σ H Q, t' σ H Q → t σ H Q) : PA X es t' := ⟨fun pos pins s σ H Q I q => h.run pos pins s σ H Q I (m _ _ _ q)⟩
section
variable {K : PySem.W.Frag} {W : WX} {g g' : G} {σ : L2.St} {H H' : Hp} {env : List Ev} {Ed : Er → Prop} {d : DE} {p : PF} {Q : VK}
theorem lift.use {Qd} (R : Rep K g σ H env) (h : d env Ed Qd) (kv : KV K g σ env Qd Q) (kx : KX K W g σ env Ed) : lift K W d σ H Q := ⟨g, env, Ed, Qd, R, h, kv, kx⟩
theorem lift.useD {k : D → Prop} (R : Rep K g σ H env) (h : d env Ed (asD k)) (kv : ∀ v x H' g', G.Le g g' → Rep K g' σ H' env → Is K g'.B v x → k x → Q v H') (kx : KX K W g σ env Ed) : lift K W d σ H Q :=
  ⟨g, env, Ed, asD k, R, h, fun v r H' g' le R' ir q => by
    obtain ⟨x, g'', le', R'', ix, q⟩ := ir.asD R' q
    exact kv v x H' g'' (le.trans le') R'' ix q, kx⟩
theorem lift.useP {x : D} (R : Rep K g σ H env) (h : p env = some x) (kv : ∀ v H' g', G.Le g g' → Rep K g' σ H' env → Is K g'.B v x → Q v H') : lift K W (dP p) σ H Q :=
  ⟨g, env, fun _ => False, asD (fun y => y = x), R, ⟨x, h, rfl⟩, fun v r H' g' le R' ir q => by
    obtain ⟨y, g'', le', R'', ix, rfl⟩ := ir.asD R' q
    exact kv v H' g'' (le.trans le') R'' ix, fun _ _ _ _ _ _ _ _ z => z.elim⟩
end
/-! ## names and constants -/
def pvar (i : Nat) : PF := fun env => match nth env i with
  | .d x => some x
  | _ => none
/-- any slot that is no list of the def's own -/
def dVar (i : Nat) : DE := fun env _ Q => match nth env i with
  | .d x => Q (.d x)
  | .pool => Q .pool
  | .scr ns => Q (.scr ns)
  | _ => False
def pc (x : D) : PF := fun _ => some x
section
variable {X : Cx} {W : WX} {e a b c : Expr} {i : Nat}
theorem qp_var (h : PE X e (tVar i)) : QP X e (pvar i) := fun W => h.mono fun σ H Q ⟨g, env, Ed, Qd, R, ⟨x, hx, q⟩, kv, kx⟩ => by
  have s := R.sl i
  unfold pvar at hx
  cases en : nth env i with
  | d y => rw [en] at s hx; cases hx; obtain ⟨v, e, iv⟩ := s; exact ⟨v, e, kv v (.d x) H g .rfl R iv q⟩
  | _ => rw [en] at hx; cases hx
theorem qe_var (h : PE X e (tVar i)) : QE X W e (dVar i) := h.mono fun σ H Q ⟨g, env, Ed, Qd, R, hx, kv, kx⟩ => by
  have s := R.sl i
  unfold dVar at hx
  cases en : nth env i with
  | d y => rw [en] at s hx; obtain ⟨v, e, iv⟩ := s; exact ⟨v, e, kv v (.d y) H g .rfl R iv hx⟩
  | pool => rw [en] at s hx; obtain ⟨v, e, iv⟩ := s; exact ⟨_, e, kv _ .pool H g .rfl R ⟨v, rfl, iv⟩ hx⟩
  | scr ns => rw [en] at s hx; obtain ⟨v, e, iv⟩ := s; exact ⟨_, e, kv _ (.scr ns) H g .rfl R ⟨v, rfl, iv⟩ hx⟩
  | _ => rw [en] at hx; exact hx.elim
theorem qp_c {v : V} {x : D} (h : PE X e (tC v)) (i : ∀ K B, Is K B v x) : QP X e (pc x) := fun W => h.mono fun σ H Q ⟨g, env, Ed, Qd, R, ⟨y, hx, q⟩, kv, kx⟩ => by
  cases hx
  exact kv v (.d x) H g .rfl R (i _ _) q
theorem qp_int {i : Int} {j pos} : QP X (.Constant (.int i) j pos) (pc (.int i)) := qp_c pe_int fun _ _ => .int i
theorem qp_bl {b j pos} : QP X (.Constant (.bool b) j pos) (pc (.bl b)) := qp_c pe_bl fun _ _ => .bl b
theorem qp_non {j pos} : QP X (.Constant .none j pos) (pc .non) := qp_c pe_non fun _ _ => .non
theorem qp_str {x : Str} {j pos} : QP X (.Constant (.str x) j pos) (pc (.str x)) := qp_c pe_str fun _ _ => .str x
theorem qp_cls {a : Addr} (h : PE X e (tC (.ref a))) : QP X e (pc (.cls a)) := qp_c h fun _ _ => .cls a
/-! ## operators -/
structure Op2 (K : PySem.W.Frag) (r : R2) (f : D → D → Option D) : Prop where
  ok : ∀ {g : G} {σ : L2.St} {H : Hp} {env : List Ev} {v u : V} {x y z : D} {Q : VK}, Rep K g σ H env → Is K g.B v x → Is K g.B u y → f x y = some z →
    (∀ v' H' g', G.Le g g' → Rep K g' σ H' env → Is K g'.B v' z → Q v' H') → r v u H Q
def p2 (f : D → D → Option D) (pa pb : PF) : PF := fun env => match pa env, pb env with
  | some x, some y => f x y
  | _, _ => none
def d2 (f : D → D → Option D) (da db : DE) : DE := fun env Ed Q => da env Ed (asD fun x => db env Ed (asD fun y => ∃ z, f x y = some z ∧ Q (.d z)))
theorem p2_some {f pa pb env z} (h : p2 f pa pb env = some z) : ∃ x y, pa env = some x ∧ pb env = some y ∧ f x y = some z := by
  unfold p2 at h
  cases ea : pa env with
  | none => rw [ea] at h; cases h
  | some x => cases eb : pb env with
    | none => rw [ea, eb] at h; cases h
    | some y => rw [ea, eb] at h; exact ⟨x, y, rfl, rfl, h⟩
theorem lift_op {K : PySem.W.Frag} {r : R2} {f : D → D → Option D} {da db : DE} {σ : L2.St} {H : Hp} {Q : VK} (hf : Op2 K r f) (h : lift K W (d2 f da db) σ H Q) : tOp r (lift K W da) (lift K W db) σ H Q := by
  obtain ⟨g, env, Ed, Qd, R, h, kv, kx⟩ := h
  exact lift.useD R h (fun v x H1 g1 l1 R1 i1 q1 => lift.useD R1 q1 (fun u y H2 g2 l2 R2 i2 ⟨z, ez, qz⟩ => hf.ok R2 (i1.mono l2.b) i2 ez fun v' H3 g3 l3 R3 i3 => kv v' (.d z) H3 g3 (l1.trans (l2.trans l3)) R3 i3 qz) (kx.mono l1)) kx
theorem lift_p2 {K : PySem.W.Frag} {r : R2} {f : D → D → Option D} {pa pb : PF} {σ : L2.St} {H : Hp} {Q : VK} (hf : Op2 K r f) (h : lift K W (dP (p2 f pa pb)) σ H Q) : tOp r (lift K W (dP pa)) (lift K W (dP pb)) σ H Q := by
  obtain ⟨g, env, Ed, Qd, R, ⟨z, hz, q⟩, kv, kx⟩ := h
  obtain ⟨x, y, ex, ey, ez⟩ := p2_some hz
  exact lift.useP R ex fun v H1 g1 l1 R1 i1 => lift.useP R1 ey fun u H2 g2 l2 R2 i2 => hf.ok R2 (i1.mono l2.b) i2 ez fun v' H3 g3 l3 R3 i3 => kv v' (.d z) H3 g3 (l1.trans (l2.trans l3)) R3 i3 q
theorem qe_op {op : Operator} {r : R2} {f da db pos} (ho : OpR X (binaryOp op) r) (hf : Op2 X.K r f) (ha : QE X W a da) (hb : QE X W b db) : QE X W (.BinOp a op b pos) (d2 f da db) := (pe_op ho ha hb).mono fun _ _ _ h => lift_op hf h
theorem qp_op {op : Operator} {r : R2} {f pa pb pos} (ho : OpR X (binaryOp op) r) (hf : Op2 X.K r f) (ha : QP X a pa) (hb : QP X b pb) : QP X (.BinOp a op b pos) (p2 f pa pb) := fun W => (pe_op ho (ha W) (hb W)).mono fun _ _ _ h => lift_p2 hf h
theorem qe_cmp {op : CmpOp} {r : R2} {f da db pos} (ho : OpR X (compareOp op) r) (hf : Op2 X.K r f) (ha : QE X W a da) (hb : QE X W b db) (hm : behindInMarks op b = false) : QE X W (.Compare a [op] [b] pos) (d2 f da db) := (pe_cmpR ho ha hb hm).mono fun _ _ _ h => lift_op hf h
theorem qp_cmp {op : CmpOp} {r : R2} {f pa pb pos} (ho : OpR X (compareOp op) r) (hf : Op2 X.K r f) (ha : QP X a pa) (hb : QP X b pb) (hm : behindInMarks op b = false) : QP X (.Compare a [op] [b] pos) (p2 f pa pb) := fun W => (pe_cmpR ho (ha W) (hb W) hm).mono fun _ _ _ h => lift_p2 hf h
theorem qp_ix {r : R2} {f pa pb pos} (ho : IxR X r) (hf : Op2 X.K r f) (ha : QP X a pa) (hb : QP X b pb) (hs : PlainIx b) : QP X (.Subscript a b pos) (p2 f pa pb) := fun W => (pe_ix ho (ha W) (hb W) hs).mono fun _ _ _ h => lift_p2 hf h
theorem qe_ix {r : R2} {f da db pos} (ho : IxR X r) (hf : Op2 X.K r f) (ha : QE X W a da) (hb : QE X W b db) (hs : PlainIx b) : QE X W (.Subscript a b pos) (d2 f da db) := (pe_ix ho ha hb hs).mono fun _ _ _ h => lift_op hf h
/-- as a test -/
def dB (d : DE) : DT := fun env Ed Q => d env Ed fun r => ∃ b, r = .d (.bl b) ∧ Q b
theorem lift_dB {K : PySem.W.Frag} {d : DE} {σ : L2.St} {H : Hp} {Q : Bool → Hp → Prop} (h : liftT K W (dB d) σ H Q) : lift K W d σ H (fun v H' => ∃ k, v = .bl k ∧ Q k H') := by
  obtain ⟨g, env, Ed, Qd, R, h, kv, kx⟩ := h
  refine lift.use R h (fun v r H' g' le R' ir ⟨b, e, q⟩ => ?_) kx
  subst e
  exact ⟨b, Is.blE ir, kv b H' g' le R' q⟩
theorem qt_cmp {op : CmpOp} {r : R2} {f da db pos} (ho : OpR X (compareOp op) r) (hf : Op2 X.K r f) (ha : QE X W a da) (hb : QE X W b db) (hm : behindInMarks op b = false) : QT X W (.Compare a [op] [b] pos) (dB (d2 f da db)) := (pt_cmpR ho ha hb hm).mono fun _ _ _ h => lift_op hf (lift_dB h)
theorem dPT_dP {p : PF} {env Ed Q} (h : dPT p env Ed Q) : dB (dP p) env Ed Q := let ⟨b, e, q⟩ := h; ⟨.bl b, e, b, rfl, q⟩
theorem liftT.imp {K : PySem.W.Frag} {d d' : DT} {σ : L2.St} {H : Hp} {Q : Bool → Hp → Prop} (m : ∀ env Ed Q, d' env Ed Q → d env Ed Q) (h : liftT K W d' σ H Q) : liftT K W d σ H Q :=
  let ⟨g, env, Ed, Qd, R, h, kv, kx⟩ := h; ⟨g, env, Ed, Qd, R, m _ _ _ h, kv, kx⟩
theorem lift.imp {K : PySem.W.Frag} {d d' : DE} {σ : L2.St} {H : Hp} {Q : VK} (m : ∀ env Ed Q, d' env Ed Q → d env Ed Q) (h : lift K W d' σ H Q) : lift K W d σ H Q :=
  let ⟨g, env, Ed, Qd, R, h, kv, kx⟩ := h; ⟨g, env, Ed, Qd, R, m _ _ _ h, kv, kx⟩
theorem qpt_cmp {op : CmpOp} {r : R2} {f pa pb pos} (ho : OpR X (compareOp op) r) (hf : Op2 X.K r f) (ha : QP X a pa) (hb : QP X b pb) (hm : behindInMarks op b = false) : QPT X (.Compare a [op] [b] pos) (p2 f pa pb) := fun W => (pt_cmpR ho (ha W) (hb W) hm).mono fun _ _ _ h => lift_p2 hf (lift_dB (h.imp fun _ _ _ => dPT_dP))
theorem qe_p {p} (h : QP X e p) : QE X W e (dP p) := h W
theorem qt_p {p} (h : QPT X e p) : QT X W e (dPT p) := h W
/-! ### chains of two comparisons -/
def andD (x y : Option D) : Option D := match x with
  | some (.bl a) => match y with
    | some (.bl b) => some (.bl (a && b))
    | _ => if a = true then none else some (.bl false)
  | _ => none
def orD (x y : Option D) : Option D := match x with
  | some (.bl a) => match y with
    | some (.bl b) => some (.bl (a || b))
    | _ => if a = true then some (.bl true) else none
  | _ => none
def notD : D → Option D
  | .bl b => some (.bl (!b))
  | _ => none
theorem andD_some {x y z} (h : andD x y = some z) : ∃ a, x = some (.bl a) ∧ ((a = true ∧ ∃ b, y = some (.bl b) ∧ z = .bl b) ∨ (a = false ∧ z = .bl false)) := by
  unfold andD at h
  split at h
  · rename_i a
    refine ⟨a, rfl, ?_⟩
    split at h
    · rename_i b
      cases h
      cases a with
      | true => exact .inl ⟨rfl, b, rfl, by simp⟩
      | false => exact .inr ⟨rfl, by simp⟩
    · cases a with
      | true => simp at h
      | false => simp at h; exact .inr ⟨rfl, h.symm⟩
  · cases h
theorem orD_some {x y z} (h : orD x y = some z) : ∃ a, x = some (.bl a) ∧ ((a = false ∧ ∃ b, y = some (.bl b) ∧ z = .bl b) ∨ (a = true ∧ z = .bl true)) := by
  unfold orD at h
  split at h
  · rename_i a
    refine ⟨a, rfl, ?_⟩
    split at h
    · rename_i b
      cases h
      cases a with
      | false => exact .inl ⟨rfl, b, rfl, by simp⟩
      | true => exact .inr ⟨rfl, by simp⟩
    · cases a with
      | false => simp at h
      | true => simp at h; exact .inr ⟨rfl, h.symm⟩
  · cases h
def pchain (f f' : D → D → Option D) (pa pb pc : PF) : PF := fun env => andD (p2 f pa pb env) (p2 f' pb pc env)
theorem lift_chain {K : PySem.W.Frag} {r r' : R2} {f f' : D → D → Option D} {pa pb pc : PF} {σ : L2.St} {H : Hp} {Q : VK} (hf : Op2 K r f) (hf' : Op2 K r' f') (h : lift K W (dP (pchain f f' pa pb pc)) σ H Q) : tChain r r' (lift K W (dP pa)) (lift K W (dP pb)) (lift K W (dP pc)) σ H Q := by
  obtain ⟨g, env, Ed, Qd, R, ⟨z, hz, q⟩, kv, kx⟩ := h
  obtain ⟨k, e1, h⟩ := andD_some hz
  obtain ⟨x, y, ex, ey, ez⟩ := p2_some e1
  refine lift.useP R ex fun v H1 g1 l1 R1 i1 => lift.useP R1 ey fun u H2 g2 l2 R2 i2 => hf.ok R2 (i1.mono l2.b) i2 ez fun v' H3 g3 l3 R3 i3 => ?_
  refine ⟨k, i3.blE, ?_⟩
  rcases h with ⟨rfl, b, e2, rfl⟩ | ⟨rfl, rfl⟩
  · obtain ⟨y', w, ey', ew, ez'⟩ := p2_some e2
    rw [ey] at ey'; cases ey'
    rw [if_pos rfl]
    exact lift.useP R3 ew fun u' H4 g4 l4 R4 i4 => hf'.ok R4 ((i2.mono l3.b).mono l4.b) i4 ez' fun v5 H5 g5 l5 R5 i5 => kv v5 (.d (.bl b)) H5 g5 (l1.trans (l2.trans (l3.trans (l4.trans l5)))) R5 i5 q
  · rw [if_neg (by decide)]
    exact kv _ (.d (.bl false)) H3 g3 (l1.trans (l2.trans l3)) R3 (.bl false) q
theorem qpt_chain {op op' : CmpOp} {r r' : R2} {f f' pa pb pc pos} (ho : OpR X (compareOp op) r) (ho' : OpR X (compareOp op') r') (hf : Op2 X.K r f) (hf' : Op2 X.K r' f') (ha : QP X a pa) (hb : QP X b pb) (hc : QP X c pc)
    (hm : lastMarks [op, op'] [b, c] = false := by with_unfolding_all rfl) : QPT X (.Compare a [op, op'] [b, c] pos) (pchain f f' pa pb pc) := fun W => (pt_chain ho ho' (ha W) (hb W) (hc W) hm).mono fun _ _ _ h => lift_chain hf hf' (lift_dB (h.imp fun _ _ _ => dPT_dP))
/-! ## and, or, not, if .. else -/
def pand (pa pb : PF) : PF := fun env => andD (pa env) (pb env)
def por (pa pb : PF) : PF := fun env => orD (pa env) (pb env)
def p1 (f : D → Option D) (pa : PF) : PF := fun env => match pa env with
  | some x => f x
  | none => none
theorem p1_some {f pa env z} (h : p1 f pa env = some z) : ∃ x, pa env = some x ∧ f x = some z := by
  unfold p1 at h
  cases ea : pa env with
  | none => rw [ea] at h; cases h
  | some x => rw [ea] at h; exact ⟨x, rfl, h⟩
def dand (da db : DE) : DE := fun env Ed Q => da env Ed fun r => ∃ c, r = .d (.bl c) ∧ (c = true → db env Ed Q) ∧ (c = false → Q (.d (.bl false)))
def dor (da db : DE) : DE := fun env Ed Q => da env Ed fun r => ∃ c, r = .d (.bl c) ∧ (c = true → Q (.d (.bl true))) ∧ (c = false → db env Ed Q)
def d1 (f : D → Option D) (da : DE) : DE := fun env Ed Q => da env Ed (asD fun x => ∃ z, f x = some z ∧ Q (.d z))
theorem pand_and {pa pb : PF} {env Ed Q} (h : dP (pand pa pb) env Ed Q) : dand (dP pa) (dP pb) env Ed Q := by
  obtain ⟨z, h, q⟩ := h
  obtain ⟨k, e1, h⟩ := andD_some h
  rcases h with ⟨rfl, b, e2, rfl⟩ | ⟨rfl, rfl⟩
  · exact ⟨_, e1, true, rfl, fun _ => ⟨_, e2, q⟩, fun z => by cases z⟩
  · exact ⟨_, e1, false, rfl, fun z => (by cases z), fun _ => q⟩
theorem por_or {pa pb : PF} {env Ed Q} (h : dP (por pa pb) env Ed Q) : dor (dP pa) (dP pb) env Ed Q := by
  obtain ⟨z, h, q⟩ := h
  obtain ⟨k, e1, h⟩ := orD_some h
  rcases h with ⟨rfl, b, e2, rfl⟩ | ⟨rfl, rfl⟩
  · exact ⟨_, e1, false, rfl, fun z => (by cases z), fun _ => ⟨_, e2, q⟩⟩
  · exact ⟨_, e1, true, rfl, fun _ => q, fun z => by cases z⟩
theorem qe_and {da db rest pos} (ha : QE X W a da) (hb : QE X W (.BoolOp .And (b :: rest) pos) db) : QE X W (.BoolOp .And (a :: b :: rest) pos) (dand da db) := (pe_and ha hb).mono fun σ H Q ⟨g, env, Ed, Qd, R, h, kv, kx⟩ => by
  refine lift.use R h (fun v r H1 g1 l1 R1 i1 ⟨c, e, q1, q2⟩ => ?_) kx
  subst e
  refine ⟨c, Is.blE i1, ?_⟩
  cases c with
  | true => rw [if_pos rfl]; exact lift.use R1 (q1 rfl) (kv.mono l1) (kx.mono l1)
  | false => rw [if_neg (by decide)]; exact kv _ (.d (.bl false)) H1 g1 l1 R1 (Is.bl false) (q2 rfl)
theorem qe_or {da db rest pos} (ha : QE X W a da) (hb : QE X W (.BoolOp .Or (b :: rest) pos) db) : QE X W (.BoolOp .Or (a :: b :: rest) pos) (dor da db) := (pe_or ha hb).mono fun σ H Q ⟨g, env, Ed, Qd, R, h, kv, kx⟩ => by
  refine lift.use R h (fun v r H1 g1 l1 R1 i1 ⟨c, e, q1, q2⟩ => ?_) kx
  subst e
  refine ⟨c, Is.blE i1, ?_⟩
  cases c with
  | true => rw [if_pos rfl]; exact kv _ (.d (.bl true)) H1 g1 l1 R1 (Is.bl true) (q1 rfl)
  | false => rw [if_neg (by decide)]; exact lift.use R1 (q2 rfl) (kv.mono l1) (kx.mono l1)
theorem qp_one {op p pos} (h : QP X a p) : QP X (.BoolOp op [a] pos) p := fun W => pe_one (h W)
theorem qe_one {op d pos} (h : QE X W a d) : QE X W (.BoolOp op [a] pos) d := pe_one h
theorem qp_and {pa pb rest pos} (ha : QP X a pa) (hb : QP X (.BoolOp .And (b :: rest) pos) pb) : QP X (.BoolOp .And (a :: b :: rest) pos) (pand pa pb) := fun W => (qe_and (ha W) (hb W)).mono fun _ _ _ h => h.imp fun _ _ _ => pand_and
theorem qp_or {pa pb rest pos} (ha : QP X a pa) (hb : QP X (.BoolOp .Or (b :: rest) pos) pb) : QP X (.BoolOp .Or (a :: b :: rest) pos) (por pa pb) := fun W => (qe_or (ha W) (hb W)).mono fun _ _ _ h => h.imp fun _ _ _ => por_or
theorem p1_d1 {f p env Ed Q} (h : dP (p1 f p) env Ed Q) : d1 f (dP p) env Ed Q := by
  obtain ⟨z, h, q⟩ := h
  obtain ⟨x, e1, e2⟩ := p1_some h
  exact ⟨x, e1, z, e2, q⟩
/-! ### tests -/
def tand (da db : DT) : DT := fun env Ed Q => da env Ed fun c => (c = true → db env Ed Q) ∧ (c = false → Q false)
def tor (da db : DT) : DT := fun env Ed Q => da env Ed fun c => (c = true → Q true) ∧ (c = false → db env Ed Q)
def tnot (da : DT) : DT := fun env Ed Q => da env Ed fun c => Q (!c)
section
variable {K : PySem.W.Frag} {σ : L2.St} {H : Hp} {Q : Bool → Hp → Prop} {da db : DT}
theorem lift_tand (h : liftT K W (tand da db) σ H Q) : tAnd (liftT K W da) (liftT K W db) σ H Q := by
  obtain ⟨g, env, Ed, Qd, R, h, kv, kx⟩ := h
  refine ⟨g, env, Ed, _, R, h, fun c H1 g1 l1 R1 ⟨q1, q2⟩ => ?_, kx⟩
  cases c with
  | true => rw [if_pos rfl]; exact ⟨g1, env, Ed, Qd, R1, q1 rfl, fun b H' g' l => kv b H' g' (l1.trans l), kx.mono l1⟩
  | false => rw [if_neg (by decide)]; exact kv false H1 g1 l1 R1 (q2 rfl)
theorem lift_tor (h : liftT K W (tor da db) σ H Q) : tOr (liftT K W da) (liftT K W db) σ H Q := by
  obtain ⟨g, env, Ed, Qd, R, h, kv, kx⟩ := h
  refine ⟨g, env, Ed, _, R, h, fun c H1 g1 l1 R1 ⟨q1, q2⟩ => ?_, kx⟩
  cases c with
  | true => rw [if_pos rfl]; exact kv true H1 g1 l1 R1 (q1 rfl)
  | false => rw [if_neg (by decide)]; exact ⟨g1, env, Ed, Qd, R1, q2 rfl, fun b H' g' l => kv b H' g' (l1.trans l), kx.mono l1⟩
theorem pand_tand {pa pb : PF} {env Ed Q} (h : dPT (pand pa pb) env Ed Q) : tand (dPT pa) (dPT pb) env Ed Q := by
  obtain ⟨z, h, q⟩ := h
  obtain ⟨k, e1, h⟩ := andD_some h
  rcases h with ⟨rfl, b, e2, e3⟩ | ⟨rfl, e3⟩
  · cases e3; exact ⟨_, e1, fun _ => ⟨_, e2, q⟩, fun z => by cases z⟩
  · cases e3; exact ⟨_, e1, fun z => (by cases z), fun _ => q⟩
theorem por_tor {pa pb : PF} {env Ed Q} (h : dPT (por pa pb) env Ed Q) : tor (dPT pa) (dPT pb) env Ed Q := by
  obtain ⟨z, h, q⟩ := h
  obtain ⟨k, e1, h⟩ := orD_some h
  rcases h with ⟨rfl, b, e2, e3⟩ | ⟨rfl, e3⟩
  · cases e3; exact ⟨_, e1, fun z => (by cases z), fun _ => ⟨_, e2, q⟩⟩
  · cases e3; exact ⟨_, e1, fun _ => q, fun z => by cases z⟩
end
theorem qw_and {da db rest pos} (ha : QT X W a da) (hb : QW X W (.BoolOp .And (b :: rest) pos) db) : QW X W (.BoolOp .And (a :: b :: rest) pos) (tand da db) := (pw_and ha hb).mono fun _ _ _ h => lift_tand h
theorem qw_or {da db rest pos} (ha : QT X W a da) (hb : QW X W (.BoolOp .Or (b :: rest) pos) db) : QW X W (.BoolOp .Or (a :: b :: rest) pos) (tor da db) := (pw_or ha hb).mono fun _ _ _ h => lift_tor h
theorem qw_and1 {d pos} (h : QT X W a d) : QW X W (.BoolOp .And [a] pos) d := pw_and1 h
theorem qw_or1 {d pos} (h : QT X W a d) : QW X W (.BoolOp .Or [a] pos) d := pw_or1 h
theorem QW.qt {d} (h : QW X W e d) : QT X W e d := PW.pt h
def QPW (X : Cx) (e : Expr) (p : PF) : Prop := ∀ W, QW X W e (dPT p)
theorem qpw_and {pa pb rest pos} (ha : QPT X a pa) (hb : QPW X (.BoolOp .And (b :: rest) pos) pb) : QPW X (.BoolOp .And (a :: b :: rest) pos) (pand pa pb) := fun W => (qw_and (ha W) (hb W)).mono fun _ _ _ h => h.imp fun _ _ _ => pand_tand
theorem qpw_or {pa pb rest pos} (ha : QPT X a pa) (hb : QPW X (.BoolOp .Or (b :: rest) pos) pb) : QPW X (.BoolOp .Or (a :: b :: rest) pos) (por pa pb) := fun W => (qw_or (ha W) (hb W)).mono fun _ _ _ h => h.imp fun _ _ _ => por_tor
theorem qpw_and1 {d pos} (h : QPT X a d) : QPW X (.BoolOp .And [a] pos) d := fun W => pw_and1 (h W)
theorem qpw_or1 {d pos} (h : QPT X a d) : QPW X (.BoolOp .Or [a] pos) d := fun W => pw_or1 (h W)
theorem QPW.qpt {d} (h : QPW X e d) : QPT X e d := fun W => PW.pt (h W)
theorem qt_not {d pos} (h : QT X W a d) : QT X W (.UnaryOp .Not a pos) (tnot d) := (pt_not h).mono fun σ H Q ⟨g, env, Ed, Qd, R, h, kv, kx⟩ => ⟨g, env, Ed, _, R, h, fun c H1 g1 l1 R1 q => kv (!c) H1 g1 l1 R1 q, kx⟩
theorem qpt_not {p pos} (h : QPT X a p) : QPT X (.UnaryOp .Not a pos) (p1 notD p) := fun W => (qt_not (h W)).mono fun _ _ _ h => h.imp fun env Ed Q ⟨b, e, q⟩ => by
  obtain ⟨x, e1, e2⟩ := p1_some e
  cases x with
  | bl c => cases e2; exact ⟨c, e1, q⟩
  | _ => cases e2
/-- a value's truth -/
def truD : D → Option D
  | .non => some (.bl false)
  | .bl b => some (.bl b)
  | .int i => some (.bl (i != 0))
  | .lst l => some (.bl (!l.isEmpty))
  | .tup l => some (.bl (!l.isEmpty))
  | .dic ks _ => some (.bl (!ks.isEmpty))
  | _ => none
theorem Iss.isEmpty {K B xs ds} (h : Iss K B xs ds) : xs.isEmpty = ds.isEmpty := by cases h <;> rfl
theorem tru_is {K : PySem.W.Frag} {B H : Hp} {v : V} {x : D} {k : Bool} (s : Same B H) (i : Is K B v x) (h : truD x = some (.bl k)) : TruV K v H k := by
  cases i <;> simp [truD] at h
  · exact h
  · exact h.symm
  · exact h.symm
  · rename_i l a z; exact .inl ⟨_, SqL.of (s _ _ l), by rw [a.isEmpty, h, Bool.not_not]⟩
  · rename_i l a z; exact .inr (.inl ⟨_, SqT.of (s _ _ l), by rw [a.isEmpty, h, Bool.not_not]⟩)
  · rename_i l hk a z
    refine .inr (.inr ⟨_, s _ _ l, ?_⟩)
    have : ∀ {kvs : List (Key × V)} {ks : List Int}, kvs.map (·.1) = ks.map Sum.inl → kvs.isEmpty = ks.isEmpty := fun {kvs ks} e => by
      cases kvs <;> cases ks <;> first | rfl | simp at e
    rw [this hk, h, Bool.not_not]
def dTru (d : DE) : DT := fun env Ed Q => d env Ed (asD fun x => ∃ k, truD x = some (.bl k) ∧ Q k)
theorem qt_truth {d} (h : QE X W a d) (he : ∀ whole, isTrue a X.env whole = (do let v ← whole; standAt a.pos; holding [v] (truthy v)) := by intro _; rfl) : QT X W a (dTru d) := (pt_truth h he).mono fun σ H Q ⟨g, env, Ed, Qd, R, h, kv, kx⟩ => by
  refine lift.useD R h (fun v x H1 g1 l1 R1 i1 ⟨k, e, q⟩ => ?_) kx
  exact ⟨k, tru_is R1.ok.sb i1 e, kv k H1 g1 l1 R1 q⟩
theorem qpt_truth {p} (h : QP X a p) (he : ∀ whole, isTrue a X.env whole = (do let v ← whole; standAt a.pos; holding [v] (truthy v)) := by intro _; rfl) : QPT X a (p1 truD p) := fun W => (qt_truth (h W) he).mono fun _ _ _ h => h.imp fun env Ed Q ⟨b, e, q⟩ => by
  obtain ⟨x, e1, e2⟩ := p1_some e
  exact ⟨x, e1, b, e2, q⟩
/-! ### a if c else b -/
def dif (c : DT) (da db : DE) : DE := fun env Ed Q => c env Ed fun k => (k = true → da env Ed Q) ∧ (k = false → db env Ed Q)
def pif (c pa pb : PF) : PF := fun env => match c env with
  | some (.bl true) => pa env
  | some (.bl false) => pb env
  | _ => none
theorem qe_if {dc da db pos} (hc : QT X W c dc) (ha : QE X W a da) (hb : QE X W b db) : QE X W (.IfExp c a b pos) (dif dc da db) := (pe_ifExp hc ha hb).mono fun σ H Q ⟨g, env, Ed, Qd, R, h, kv, kx⟩ => by
  refine ⟨g, env, Ed, _, R, h, fun k H1 g1 l1 R1 ⟨q1, q2⟩ => ?_, kx⟩
  cases k with
  | true => rw [if_pos rfl]; exact lift.use R1 (q1 rfl) (kv.mono l1) (kx.mono l1)
  | false => rw [if_neg (by decide)]; exact lift.use R1 (q2 rfl) (kv.mono l1) (kx.mono l1)
theorem qp_if {c' pa pb pos} (hc : QPT X c c') (ha : QP X a pa) (hb : QP X b pb) : QP X (.IfExp c a b pos) (pif c' pa pb) := fun W => (qe_if (hc W) (ha W) (hb W)).mono fun _ _ _ h => h.imp fun env Ed Q ⟨z, e, q⟩ => by
  unfold pif at e
  split at e
  · rename_i h; exact ⟨true, h, fun _ => ⟨z, e, q⟩, fun z => by cases z⟩
  · rename_i h; exact ⟨false, h, fun z => (by cases z), fun _ => ⟨z, e, q⟩⟩
  · cases e
end
/-! ## arguments, lists and tuples -/
def argR (k : Ar → Prop) : Ar → Prop
  | .fr l => k (.d l.d)
  | a => k a
def daNil : DA := fun _ _ Q => Q []
def daCons (d : DE) (r : DA) : DA := fun env Ed Q => d env Ed (argR fun a => r env Ed fun as => Q (a :: as))
def allD : List Ar → Option (List D)
  | [] => some []
  | .d x :: r => match allD r with
    | some l => some (x :: l)
    | none => none
  | _ :: _ => none
def dTup (da : DA) : DE := fun env Ed Q => da env Ed fun as => ∃ l, allD as = some l ∧ l.length ≤ 1000 ∧ Q (.d (.tup l))
def dLst (da : DA) : DE := fun env Ed Q => da env Ed fun as => ∃ l, allD as = some l ∧ l.length ≤ 1000 ∧ Q (.fr (.ls l))
def evs : List PF → List Ev → Option (List D)
  | [], _ => some []
  | p :: r, env => match p env, evs r env with
    | some x, some l => some (x :: l)
    | _, _ => none
def daP (ps : List PF) : DA := fun env _ Q => ∃ xs, evs ps env = some xs ∧ Q (xs.map .d)
theorem evs_some {p r env z} (h : evs (p :: r) env = some z) : ∃ x l, p env = some x ∧ evs r env = some l ∧ z = x :: l := by
  unfold evs at h
  cases ea : p env with
  | none => rw [ea] at h; cases h
  | some x => cases eb : evs r env with
    | none => rw [ea, eb] at h; cases h
    | some y => rw [ea, eb] at h; cases h; exact ⟨x, y, rfl, rfl, rfl⟩
theorem allD_map : ∀ l : List D, allD (l.map .d) = some l
  | [] => rfl
  | x :: r => by rw [List.map_cons, allD, allD_map r]
section
variable {K : PySem.W.Frag} {g : G}
theorem IsAs.all : ∀ {vs as l}, IsAs K g vs as → allD as = some l → Iss K g.B vs l
  | _, _, _, .nil, h => by cases h; exact .nil
  | _, _, _, @IsAs.d _ _ v x vs as i t, h => by
    unfold allD at h
    cases e : allD as with
    | none => rw [e] at h; cases h
    | some m => rw [e] at h; cases h; exact .cons i (t.all e)
  | _, _, _, .pool _ _, h => by cases h
  | _, _, _, .scr _ _, h => by cases h
theorem IsAs.ofD : ∀ {vs l}, Iss K g.B vs l → IsAs K g vs (l.map .d)
  | _, _, .nil => .nil
  | _, _, .cons h t => .d h (IsAs.ofD t)
end
section
variable {X : Cx} {W : WX} {e : Expr} {es : List Expr}
theorem qa_nil : QA X W [] daNil := pa_nil.mono fun σ H Q ⟨g, env, Ed, Qd, R, h, kv, kx⟩ => kv [] [] H g .rfl R .nil h
theorem IsR.arg {K : PySem.W.Frag} {g : G} {σ : L2.St} {H : Hp} {env : List Ev} (r : Rep K g σ H env) {v : V} {a : Ar} {k : Ar → Prop} (h : IsR K g H v a) (q : argR k a) : ∃ b g', G.Le g g' ∧ Rep K g' σ H env ∧ (∀ g'' vs as, G.Le g' g'' → IsAs K g'' vs as → IsAs K g'' (v :: vs) (b :: as)) ∧ k b := by
  cases a with
  | d x => exact ⟨_, g, .rfl, r, fun g'' vs as le t => .d (Is.mono le.b h) t, q⟩
  | pool => obtain ⟨p, rfl, m⟩ := h; exact ⟨_, g, .rfl, r, fun g'' vs as le t => .pool (le.m _ m) t, q⟩
  | scr ns => obtain ⟨p, rfl, m⟩ := h; exact ⟨_, g, .rfl, r, fun g'' vs as le t => .scr (by rw [le.h0, le.m0, le.xa]; exact m) t, q⟩
  | fr l => obtain ⟨fs, o, ns⟩ := h; exact ⟨_, _, G.frz_le o.pv, r.frzR o ns, fun g'' vs as le t => .d (Is.mono le.b (.frz o)) t, q⟩
theorem qa_cons {d r} (h : QE X W e d) (t : QA X W es r) (hs : starEach (e :: es) X.env = (false, eval e X.env) :: starEach es X.env := by rfl) : QA X W (e :: es) (daCons d r) := (pa_cons h t hs).mono fun σ H Q ⟨g, env, Ed, Qd, R, h, kv, kx⟩ => by
  refine lift.use R h (fun v a H1 g1 l1 R1 i1 q1 => ?_) kx
  obtain ⟨b, g2, l2, R2, add, q⟩ := i1.arg R1 q1
  exact ⟨g2, env, Ed, _, R2, q, fun vs as H3 g3 l3 R3 i3 q3 => kv _ _ H3 g3 ((l1.trans l2).trans l3) R3 (add _ _ _ l3 i3) q3, (kx.mono l1).mono l2⟩
def QPs (X : Cx) (es : List Expr) (ps : List PF) : Prop := ∀ W, QA X W es (daP ps)
theorem qps_nil : QPs X [] [] := fun W => qa_nil.mono fun σ H Q ⟨g, env, Ed, Qd, R, ⟨xs, e, h⟩, kv, kx⟩ => by
  cases e
  exact ⟨g, env, Ed, Qd, R, h, kv, kx⟩
theorem qps_cons {p ps} (h : QP X e p) (t : QPs X es ps) (hs : starEach (e :: es) X.env = (false, eval e X.env) :: starEach es X.env := by rfl) : QPs X (e :: es) (p :: ps) := fun W => (qa_cons (h W) (t W) hs).mono fun σ H Q ⟨g, env, Ed, Qd, R, ⟨xs, e, h⟩, kv, kx⟩ => by
  obtain ⟨x, l, e1, e2, rfl⟩ := evs_some e
  exact ⟨g, env, Ed, Qd, R, ⟨x, e1, l, e2, h⟩, kv, kx⟩
theorem len_1000 {n : Nat} (h : n ≤ 1000) : n ≤ sizeLine := by rw [sizeLine_eq]; omega
theorem qe_tup {da x1 pos} (h : QA X W es da) : QE X W (.Tuple es x1 pos) (dTup da) := (pe_tup h).mono fun σ H Q ⟨g, env, Ed, Qd, R, h, kv, kx⟩ => by
  refine ⟨g, env, Ed, _, R, h, fun vs as H1 g1 l1 R1 i1 ⟨l, e, z, q⟩ => ⟨?_, fun p hp => ?_⟩, kx⟩
  · rw [(i1.all e).length]; exact len_1000 z
  · have i2 := i1.all e
    refine kv _ (.d (.tup l)) _ _ (l1.trans (R1.le_new hp)) (R1.new hp) (Is.tup (xs := vs) (by show upd g1.B p _ p = _; exact upd_same) (i2.mono (R1.le_new hp).b) (by rw [i2.length]; omega)) q
theorem qe_lst {da pos} (h : QA X W es da) : QE X W (.List es pos) (dLst da) := (pe_lst h).mono fun σ H Q ⟨g, env, Ed, Qd, R, h, kv, kx⟩ => by
  refine ⟨g, env, Ed, _, R, h, fun vs as H1 g1 l1 R1 i1 ⟨l, e, z, q⟩ => ⟨?_, fun p hp => ?_⟩, kx⟩
  · rw [(i1.all e).length]; exact len_1000 z
  · obtain ⟨R2, r2⟩ := upd_own R1 hp (i1.all e) (by rw [(i1.all e).length]; omega)
    exact kv _ _ _ _ l1 R2 r2 q
def ptup (ps : List PF) : PF := fun env => match evs ps env with
  | some l => some (.tup l)
  | none => none
def plst (ps : List PF) : PF := fun env => match evs ps env with
  | some l => some (.lst l)
  | none => none
theorem evs_len : ∀ {ps env l}, evs ps env = some l → l.length = ps.length
  | [], _, _, h => by cases h; rfl
  | p :: ps, _, _, h => by
    obtain ⟨x, m, _, e, rfl⟩ := evs_some h
    rw [List.length_cons, List.length_cons, evs_len e]
theorem qp_tup {ps x1 pos} (h : QPs X es ps) (z : ps.length ≤ 1000 := by decide) : QP X (.Tuple es x1 pos) (ptup ps) := fun W => (qe_tup (h W)).mono fun σ H Q ⟨g, env, Ed, Qd, R, ⟨x, e, q⟩, kv, kx⟩ => by
  unfold ptup at e
  cases ee : evs ps env with
  | none => rw [ee] at e; cases e
  | some l => rw [ee] at e; cases e; exact ⟨g, env, Ed, Qd, R, ⟨l, ee, l, allD_map l, by rw [evs_len ee]; exact z, q⟩, kv, kx⟩
/-- a fresh list as data -/
theorem lift_fr {K : PySem.W.Frag} {g : G} {σ : L2.St} {H : Hp} {env : List Ev} {Ed : Er → Prop} {Qd : Ar → Prop} {Q : VK} {l : List D} (kv : KV K g σ env Qd Q) (q : Qd (.d (.lst l))) : KV K g σ env (fun r => r = .fr (.ls l)) Q := fun v r H' g' le R' ir e => by
  subst e
  obtain ⟨fs, o, ns⟩ := ir
  exact kv _ (.d (.lst l)) H' _ (le.trans (G.frz_le o.pv)) (R'.frzR o ns) (.frz o) q
theorem qp_lst {ps pos} (h : QPs X es ps) (z : ps.length ≤ 1000 := by decide) : QP X (.List es pos) (plst ps) := fun W => (qe_lst (h W)).mono fun σ H Q ⟨g, env, Ed, Qd, R, ⟨x, e, q⟩, kv, kx⟩ => by
  unfold plst at e
  cases ee : evs ps env with
  | none => rw [ee] at e; cases e
  | some l => rw [ee] at e; cases e; exact ⟨g, env, Ed, fun r => r = .fr (.ls l), R, ⟨l, ee, l, allD_map l, by rw [evs_len ee]; exact z, rfl⟩, lift_fr (H := H) (Ed := Ed) kv q, kx⟩
end
end LR
set_option Elab.async false
set_option maxRecDepth 100000
set_option linter.all false
set_option maxHeartbeats 4000000
namespace LR
open PySem PySem.Spec PyProof.Rows L2
/-! # the data layer: the operators -/
theorem OpR.or {X : Cx} {f : Value → Value → Sem Value} {r r' : R2} (h : OpR X f r) (h' : OpR X f r') : OpR X f (fun x y H Q => r x y H Q ∨ r' x y H Q) := by
  intro pins s σ H x y v u Q I rx ry q
  rcases q with q | q
  · exact h pins s σ H x y v u Q I rx ry q
  · exact h' pins s σ H x y v u Q I rx ry q
theorem IxR.or {X : Cx} {r r' : R2} (h : IxR X r) (h' : IxR X r') : IxR X (fun x y H Q => r x y H Q ∨ r' x y H Q) := by
  intro value slice pins s σ H x y v u Q I rx ry q hs
  rcases q with q | q
  · exact h value slice pins s σ H x y v u Q I rx ry q hs
  · exact h' value slice pins s σ H x y v u Q I rx ry q hs
theorem CallR.or {X : Cx} {f : Value} {r r' : List V → Hp → VK → Prop} (h : CallR X f r) (h' : CallR X f r') : CallR X f (fun xs H Q => r xs H Q ∨ r' xs H Q) := by
  intro pins s σ H xs us Q I rx q
  rcases q with q | q
  · exact h pins s σ H xs us Q I rx q
  · exact h' pins s σ H xs us Q I rx q
section
variable {K : PySem.W.Frag}
/-- a new list, a new tuple, as data -/
theorem new_lst {g : G} {σ : L2.St} {H : Hp} {env : List Ev} (R : Rep K g σ H env) {xs : List V} {l : List D} (i : Iss K g.B xs l) (z : xs.length ≤ 100000) {Q : VK} (k : ∀ v' H' g', G.Le g g' → Rep K g' σ H' env → Is K g'.B v' (.lst l) → Q v' H') : ∀ p, H p = none → Q (.ref p) (upd H p (.lst xs)) :=
  fun p hp => k _ _ _ (R.le_new hp) (R.new hp) (.lst (xs := xs) (by show upd g.B p _ p = _; exact upd_same) (i.mono (R.le_new hp).b) z)
theorem new_tup {g : G} {σ : L2.St} {H : Hp} {env : List Ev} (R : Rep K g σ H env) {xs : List V} {l : List D} (i : Iss K g.B xs l) (z : xs.length ≤ 100000) {Q : VK} (k : ∀ v' H' g', G.Le g g' → Rep K g' σ H' env → Is K g'.B v' (.tup l) → Q v' H') : ∀ p, H p = none → Q (.ref p) (upd H p (.tup xs)) :=
  fun p hp => k _ _ _ (R.le_new hp) (R.new hp) (.tup (xs := xs) (by show upd g.B p _ p = _; exact upd_same) (i.mono (R.le_new hp).b) z)
/-! ## + -/
def addD : D → D → Option D
  | .int i, .int j => some (.int (i + j))
  | .str a, .str b => if a.length + b.length ≤ 100000 then some (.str (a ++ b)) else none
  | .lst a, .lst b => if a.length + b.length ≤ 100000 then some (.lst (a ++ b)) else none
  | .tup a, .tup b => if a.length + b.length ≤ 100000 then some (.tup (a ++ b)) else none
  | _, _ => none
def rAddA (K : PySem.W.Frag) : R2 := fun x y H Q => (rI0 fun i j => .int (i + j)) x y H Q ∨ ((∃ i j, x = .str i ∧ y = .str j ∧ i.length + j.length ≤ sizeLine ∧ Q (.str (i ++ j)) H) ∨ (rCat x y H Q ∨ rCatA K x y H Q))
theorem op_addA {X : Cx} : OpR X (binaryOp .Add) (rAddA X.K) := OpR.or op_add (OpR.or op_add_str (OpR.or op_cat op_catA))
theorem line5 {n : Nat} (h : n ≤ 100000) : n ≤ sizeLine := by rw [sizeLine_eq]; omega
theorem o_add : Op2 K (rAddA K) addD := ⟨fun {g σ H env v u x y z Q} R i j e k => by
  have sb := R.ok.sb
  unfold addD at e
  split at e
  · cases e; exact .inl ⟨_, _, i.intE, j.intE, k _ _ _ .rfl R (.int _)⟩
  · split at e
    · rename_i h; cases e; exact .inr (.inl ⟨_, _, i.strE, j.strE, line5 h, k _ _ _ .rfl R (.str _)⟩)
    · cases e
  · split at e
    · rename_i h; cases e
      obtain ⟨p, xs, rfl, hp, ip, zp⟩ := i.lstE
      obtain ⟨q, ys, rfl, hq, iq, zq⟩ := j.lstE
      have l1 := ip.length
      have l2 := iq.length
      exact .inr (.inr (.inl ⟨p, q, xs, ys, rfl, rfl, sb _ _ hp, sb _ _ hq, line5 (by omega), new_lst R (ip.append iq) (by rw [List.length_append]; omega) k⟩))
    · cases e
  · split at e
    · rename_i h; cases e
      obtain ⟨p, xs, rfl, hp, ip, zp⟩ := i.tupE
      obtain ⟨q, ys, rfl, hq, iq, zq⟩ := j.tupE
      have l1 := ip.length
      have l2 := iq.length
      refine .inr (.inr (.inr ⟨p, q, xs, ys, rfl, rfl, SqT.of (sb _ _ hp), SqT.of (sb _ _ hq), line5 (by omega), fun ex => ?_, fun _ ey => ?_, fun _ _ => new_tup R (ip.append iq) (by rw [List.length_append]; omega) k⟩))
      · subst ex; cases ip; exact k _ _ _ .rfl R (.tup hq iq zq)
      · subst ey; cases iq; rw [List.append_nil] at k; exact k _ _ _ .rfl R (.tup hp ip zp)
    · cases e
  · cases e⟩
/-! ## ints -/
def subD : D → D → Option D
  | .int i, .int j => some (.int (i - j))
  | _, _ => none
theorem o_sub : Op2 K (rI0 fun i j => .int (i - j)) subD := ⟨fun {g σ H env v u x y z Q} R i j e k => by
  unfold subD at e
  split at e
  · cases e; exact ⟨_, _, i.intE, j.intE, k _ _ _ .rfl R (.int _)⟩
  · cases e⟩
def smI (i : Int) : Bool := decide (-1000000 < i) && decide (i < 1000000)
theorem smI_cm {i : Int} (h : smI i = true) : -(2 ^ 64) < i ∧ i < 2 ^ 64 := by
  unfold smI at h
  simp only [Bool.and_eq_true, decide_eq_true_eq] at h
  omega
/-- a text repeated -/
def repS (a : Str) (n : Nat) : Str := ⟨(List.replicate n a.cps).foldl (· ++ ·) #[]⟩
theorem repS_foldl (x : Array Nat) : ∀ (n : Nat) (b : Array Nat), ((List.replicate n x).foldl (· ++ ·) b).toList = b.toList ++ (List.replicate n x.toList).flatten
  | 0, b => by simp
  | n + 1, b => by rw [List.replicate_succ, List.foldl_cons, repS_foldl x n, Array.toList_append, List.replicate_succ, List.flatten_cons, List.append_assoc]
theorem repS_list (a : Str) (n : Nat) : (repS a n).cps.toList = (List.replicate n a.cps.toList).flatten := by
  exact (repS_foldl a.cps n #[]).trans (List.nil_append _)
theorem repS_len {a : Str} {n : Nat} : (repS a n).length = a.length * n := by
  show (repS a n).cps.size = a.cps.size * n
  rw [← Array.length_toList, repS_list]
  simp [Nat.mul_comm]
theorem repS_one {a : Str} : repS a (1 : Int).toNat = a := by
  cases a with
  | mk c =>
    unfold repS
    congr 1
    apply Array.toList_inj.mp
    simp
theorem repS_nil {a : Str} {n : Nat} (h : a.length = 0) : repS a n = a := by
  cases a with
  | mk c =>
    have e : c = #[] := Array.eq_empty_of_size_eq_zero h
    subst e
    unfold repS
    congr 1
    apply Array.toList_inj.mp
    have := repS_foldl #[] n #[]
    rw [this]; simp
/-- a product, a list or a tuple or a text repeated -/
def mulD : D → D → Option D
  | .int i, .int j => if (smI i || smI j) = true then some (.int (i * j)) else none
  | .lst l, .int j => if smI j = true ∧ l.length * j.toNat ≤ 100000 then some (.lst (List.replicate j.toNat l).flatten) else none
  | .str a, .int j => if smI j = true ∧ a.length * j.toNat ≤ 100000 then some (.str (repS a j.toNat)) else none
  | _, _ => none
def rRepS : R2 := fun x y H Q => ∃ a k, x = .str a ∧ y = .int k ∧ smI k = true ∧ a.length * k.toNat ≤ 100000 ∧ Q (.str (repS a k.toNat)) H
theorem op_repS {X : Cx} : OpR X (binaryOp .Mult) rRepS := by
  intro pins s σ H x y v u Q I rx ry h
  obtain ⟨a, k, rfl, rfl, hk, hz, q⟩ := h
  obtain ⟨t, rfl⟩ := rx
  obtain ⟨t', rfl⟩ := ry
  have sm := hk
  unfold smI at sm
  simp only [Bool.and_eq_true, decide_eq_true_eq] at sm
  have hz5 : a.length * k.toNat ≤ sizeLine := by rw [sizeLine_eq]; omega
  refine PySem.P.mul_str (by rw [decide_eq_false (by omega), decide_eq_false (by omega)]; rfl) (fun h1 h2 => ?_) (fun h1 h2 => ?_) ?_
  · have k1 : 1 ≤ k := by omega
    have : (a.length : Int) * k ≤ 100000 := by
      have e : ((a.length * k.toNat : Nat) : Int) = (a.length : Int) * k := by rw [Int.natCast_mul, Int.toNat_of_nonneg (by omega)]
      omega
    have : (a.length : Int) ≤ (2 ^ 63 - 1) / k := (Int.le_ediv_iff_mul_le (by omega)).mpr (by omega)
    omega
  · exact decide_eq_false (Nat.not_lt.mpr hz5)
  · by_cases c : k < 1
    · rw [if_pos c]
      have e : repS a k.toNat = Str.empty := by rw [show k.toNat = 0 by omega]; rfl
      rw [e] at q
      exact ⟨by decide, .str Str.empty, H, I.tok _, ⟨_, rfl⟩, q⟩
    · rw [if_neg c]
      by_cases d : (k == 1 || a.length == 0) = true
      · rw [if_pos d]
        have e : repS a k.toNat = a := by
          rcases (Bool.or_eq_true _ _).mp d with d | d
          · have : k = 1 := by simpa using d
            subst this
            exact repS_one
          · have : a.length = 0 := by simpa using d
            exact repS_nil this
        rw [e] at q
        exact ⟨.str a, H, I, ⟨_, rfl⟩, q⟩
      · rw [if_neg d]
        refine ⟨?_, .str _, H, I.tok _, ⟨_, rfl⟩, q⟩
        show (repS a k.toNat).length ≤ _
        rw [repS_len]; exact hz5
def rMulA : R2 := fun x y H Q => rI CMul (fun i j => .int (i * j)) x y H Q ∨ (rRep x y H Q ∨ rRepS x y H Q)
theorem op_mulA {X : Cx} : OpR X (binaryOp .Mult) rMulA := OpR.or op_mul (OpR.or op_rep op_repS)
theorem Iss.reps {B xs ds} (h : Iss K B xs ds) : ∀ n, Iss K B (List.replicate n xs).flatten (List.replicate n ds).flatten
  | 0 => .nil
  | n + 1 => by rw [List.replicate_succ, List.replicate_succ, List.flatten_cons, List.flatten_cons]; exact h.append (h.reps n)
theorem reps_len {α : Type} {l : List α} : ∀ n, (List.replicate n l).flatten.length = l.length * n
  | 0 => rfl
  | n + 1 => by rw [List.replicate_succ, List.flatten_cons, List.length_append, reps_len n, Nat.mul_succ]; omega
theorem o_mul : Op2 K rMulA mulD := ⟨fun {g σ H env v u x y z Q} R i j e k => by
  have sb := R.ok.sb
  unfold mulD at e
  split at e
  · rename_i a b
    split at e
    · rename_i h; cases e
      refine .inl ⟨_, _, i.intE, j.intE, ?_, k _ _ _ .rfl R (.int _)⟩
      rcases (Bool.or_eq_true _ _).mp h with h | h
      · exact .inl (smI_cm h)
      · exact .inr (smI_cm h)
    · cases e
  · rename_i l b
    split at e
    · rename_i h; cases e
      obtain ⟨p, xs, rfl, hp, ip, zp⟩ := i.lstE
      have l1 := ip.length
      have sm := smI_cm h.1
      have sm2 := h.1
      unfold smI at sm2
      simp only [Bool.and_eq_true, decide_eq_true_eq] at sm2
      exact .inr (.inl ⟨p, b, xs, rfl, j.intE, sb _ _ hp, by omega, by omega, line5 (by rw [l1]; exact h.2), new_lst R (ip.reps _) (by rw [reps_len, l1]; exact h.2) k⟩)
    · cases e
  · split at e
    · rename_i h; cases e
      exact .inr (.inr ⟨_, _, i.strE, j.intE, h.1, h.2, k _ _ _ .rfl R (.str _)⟩)
    · cases e
  · cases e⟩
def modD : D → D → Option D
  | .int i, .int j => if 0 < j then some (.int (i % j)) else none
  | _, _ => none
theorem o_mod : Op2 K (rI (fun _ j => 0 < j) fun i j => .int (i % j)) modD := ⟨fun {g σ H env v u x y z Q} R i j e k => by
  unfold modD at e
  split at e
  · split at e
    · rename_i h; cases e; exact ⟨_, _, i.intE, j.intE, h, k _ _ _ .rfl R (.int _)⟩
    · cases e
  · cases e⟩
def fdivD : D → D → Option D
  | .int i, .int j => if 0 < j ∧ j < 1073741824 then some (.int (i / j)) else none
  | _, _ => none
theorem o_fdiv : Op2 K (rI CDiv fun i j => .int (i / j)) fdivD := ⟨fun {g σ H env v u x y z Q} R i j e k => by
  unfold fdivD at e
  split at e
  · split at e
    · rename_i h; cases e; exact ⟨_, _, i.intE, j.intE, h, k _ _ _ .rfl R (.int _)⟩
    · cases e
  · cases e⟩
def cmpD (f : Int → Int → Bool) : D → D → Option D
  | .int i, .int j => some (.bl (f i j))
  | _, _ => none
theorem o_cmp {f : Int → Int → Bool} : Op2 K (rI0 fun i j => .bl (f i j)) (cmpD f) := ⟨fun {g σ H env v u x y z Q} R i j e k => by
  unfold cmpD at e
  split at e
  · cases e; exact ⟨_, _, i.intE, j.intE, k _ _ _ .rfl R (.bl _)⟩
  · cases e⟩
def isND : D → D → Option D
  | .non, .non => some (.bl true)
  | _, .non => some (.bl false)
  | _, _ => none
def notND : D → D → Option D
  | .non, .non => some (.bl false)
  | _, .non => some (.bl true)
  | _, _ => none
theorem is_non {B v x} (i : Is K B v x) : decide (v = .non) = (match x with | .non => true | _ => false) := by
  cases i <;> rfl
theorem o_isN : Op2 K (fun x y H Q => y = .non ∧ Q (.bl (decide (x = .non))) H) isND := ⟨fun {g σ H env v u x y z Q} R i j e k => by
  have := is_non i
  cases y with
  | non => 
    refine ⟨j.nonE, ?_⟩
    rw [this]
    cases x <;> (cases e; exact k _ _ _ .rfl R (.bl _))
  | _ => cases x <;> cases e⟩
theorem o_notN : Op2 K (fun x y H Q => y = .non ∧ Q (.bl (!decide (x = .non))) H) notND := ⟨fun {g σ H env v u x y z Q} R i j e k => by
  have := is_non i
  cases y with
  | non =>
    refine ⟨j.nonE, ?_⟩
    rw [this]
    cases x <;> (cases e; exact k _ _ _ .rfl R (.bl _))
  | _ => cases x <;> cases e⟩
/-! ## a[i] -/
def ixD : D → D → Option D
  | .lst l, .int i => atI l i
  | .tup l, .int i => atI l i
  | .str z, .int i => if z.length ≤ 100000 then (atI z.cps.toList i).map (fun c => .str ⟨#[c]⟩) else none
  | _, _ => none
def rIxA (K : PySem.W.Frag) : R2 := fun x y H Q => rIxL K x y H Q ∨ (rIxT K x y H Q ∨ rIxS x y H Q)
theorem ix_A {X : Cx} : IxR X (rIxA X.K) := IxR.or ix_list (IxR.or ix_tup ix_str)
theorem Iss.at {B xs ds i d} (h : Iss K B xs ds) (e : atI ds i = some d) : ∃ v, atI xs i = some v ∧ Is K B v d := by
  unfold atI at e ⊢
  rw [h.length]
  cases c : ixN ds.length i with
  | none => rw [c] at e; cases e
  | some j => rw [c] at e; exact h.getD e
theorem o_ix : Op2 K (rIxA K) ixD := ⟨fun {g σ H env v u x y z Q} R i j e k => by
  have sb := R.ok.sb
  unfold ixD at e
  split at e
  · obtain ⟨p, xs, rfl, hp, ip, zp⟩ := i.lstE
    obtain ⟨w, ew, iw⟩ := ip.at e
    exact .inl ⟨p, xs, _, w, rfl, j.intE, SqL.of (sb _ _ hp), ew, k _ _ _ .rfl R iw⟩
  · obtain ⟨p, xs, rfl, hp, ip, zp⟩ := i.tupE
    obtain ⟨w, ew, iw⟩ := ip.at e
    exact .inr (.inl ⟨p, xs, _, w, rfl, j.intE, SqT.of (sb _ _ hp), ew, k _ _ _ .rfl R iw⟩)
  · split at e
    · rename_i h
      obtain ⟨c, ec, rfl⟩ := Option.map_eq_some_iff.mp e
      exact .inr (.inr ⟨_, _, c, i.strE, j.intE, line5 h, ec, k _ _ _ .rfl R (.str _)⟩)
    · cases e
  · cases e⟩
/-! ## == of data -/
mutual
def D.py : D → PyData
  | .non => .none
  | .bl b => .bool b
  | .int i => .int i
  | .str x => .str x
  | .lst l => .list (pyL l)
  | .tup l => .tuple (pyL l)
  | .ins _ _ _ => .none
  | .cls _ => .none
  | .ty _ => .none
  | .dic _ _ => .none
def pyL : List D → List PyData
  | [] => []
  | x :: r => x.py :: pyL r
end
/-- data of nesting at most n, texts of real signs -/
def okn : Nat → D → Bool
  | _, .non => true
  | _, .bl _ => true
  | _, .int _ => true
  | _, .str x => PyData.strOk x
  | n + 1, .lst l => l.all (okn n)
  | n + 1, .tup l => l.all (okn n)
  | _, _ => false
theorem okn_lay : ∀ (n : Nat) (x : D), okn n x = true → x.py.canLay0 = true ∧ x.py.depth ≤ n ∧ ∀ (B : Hp) (v : V), Is K B v x → ∀ H, Same B H → Dp K H v x.py := by
  intro n
  induction n with
  | zero =>
    intro x h
    cases x with
    | non => exact ⟨by simp [D.py, PyData.canLay0], by simp [D.py, PyData.depth], fun B v i H s => by cases i; exact .non⟩
    | bl b => exact ⟨by simp [D.py, PyData.canLay0], by simp [D.py, PyData.depth], fun B v i H s => by cases i; exact .bl b⟩
    | int b => exact ⟨by simp [D.py, PyData.canLay0], by simp [D.py, PyData.depth], fun B v i H s => by cases i; exact .int b⟩
    | str b => exact ⟨by simpa [D.py, PyData.canLay0, okn] using h, by simp [D.py, PyData.depth], fun B v i H s => by cases i; exact .str b⟩
    | _ => simp [okn] at h
  | succ n ih =>
    have all : ∀ l : List D, l.all (okn n) = true → PyData.canLayAll0 (pyL l) = true ∧ PyData.depthAll (pyL l) ≤ n ∧ ∀ (B : Hp) (vs : List V), Iss K B vs l → ∀ H, Same B H → DpAll K H vs (pyL l) := by
      intro l
      induction l with
      | nil => intro _; exact ⟨by simp [pyL, PyData.canLayAll0], by simp [pyL, PyData.depthAll], fun B vs i H s => by cases i; exact .nil⟩
      | cons x r ihr =>
        intro h
        rw [List.all_cons, Bool.and_eq_true] at h
        obtain ⟨a1, a2, a3⟩ := ih x h.1
        obtain ⟨b1, b2, b3⟩ := ihr h.2
        refine ⟨by simp [pyL, PyData.canLayAll0, a1, b1], by simp only [pyL, PyData.depthAll]; omega, fun B vs i H s => ?_⟩
        cases i with
        | cons i1 i2 => exact .cons (a3 B _ i1 H s) (b3 B _ i2 H s)
    intro x h
    cases x with
    | non => exact ⟨by simp [D.py, PyData.canLay0], by simp [D.py, PyData.depth], fun B v i H s => by cases i; exact .non⟩
    | bl b => exact ⟨by simp [D.py, PyData.canLay0], by simp [D.py, PyData.depth], fun B v i H s => by cases i; exact .bl b⟩
    | int b => exact ⟨by simp [D.py, PyData.canLay0], by simp [D.py, PyData.depth], fun B v i H s => by cases i; exact .int b⟩
    | str b => exact ⟨by simpa [D.py, PyData.canLay0, okn] using h, by simp [D.py, PyData.depth], fun B v i H s => by cases i; exact .str b⟩
    | lst l =>
      obtain ⟨b1, b2, b3⟩ := all l (by simpa [okn] using h)
      refine ⟨by simpa [D.py, PyData.canLay0] using b1, by simp only [D.py, PyData.depth]; omega, fun B v i H s => ?_⟩
      obtain ⟨p, xs, rfl, hp, ip, zp⟩ := i.lstE
      exact .lst (SqL.of (s _ _ hp)) (b3 B _ ip H s)
    | tup l =>
      obtain ⟨b1, b2, b3⟩ := all l (by simpa [okn] using h)
      refine ⟨by simpa [D.py, PyData.canLay0] using b1, by simp only [D.py, PyData.depth]; omega, fun B v i H s => ?_⟩
      obtain ⟨p, xs, rfl, hp, ip, zp⟩ := i.tupE
      exact .tup (SqT.of (s _ _ hp)) (b3 B _ ip H s)
    | _ => simp [okn] at h
theorem okn_shaped (K : PySem.W.Frag) {x : D} (h : okn 30 x = true) : SeqAt.shaped x.py = true := by
  obtain ⟨a, b, _⟩ := okn_lay (K := K) 30 x h
  unfold SeqAt.shaped
  rw [Bool.and_eq_true]
  exact ⟨a, decide_eq_true (by omega)⟩
def deq (x y : D) : Bool := PyData.eqv x.py y.py
def eqD : D → D → Option D
  | .int i, .int j => some (.bl (decide (i = j)))
  | .str i, .str j => if PyData.strOk i = true ∧ PyData.strOk j = true then some (.bl (decide (i = j))) else none
  | .bl i, .bl j => some (.bl (decide (i = j)))
  | .non, .non => some (.bl true)
  | .non, .int _ => some (.bl false)
  | .int _, .non => some (.bl false)
  | x, y => if okn 30 x = true ∧ okn 30 y = true then some (.bl (deq x y)) else none
theorem eqD_deq {x y z : D} (h : eqD x y = some z) : okn 30 x = true ∧ okn 30 y = true ∧ z = .bl (deq x y) := by
  unfold eqD at h
  split at h
  · cases h; exact ⟨rfl, rfl, by simp [deq, D.py, PyData.eqv]; rw [Bool.eq_iff_iff]; simp⟩
  · split at h
    · rename_i h2; cases h; exact ⟨h2.1, h2.2, by simp [deq, D.py, PyData.eqv]; rw [Bool.eq_iff_iff]; simp⟩
    · cases h
  · cases h; exact ⟨rfl, rfl, by simp [deq, D.py, PyData.eqv]; rw [Bool.eq_iff_iff]; simp⟩
  · cases h; exact ⟨rfl, rfl, by simp [deq, D.py, PyData.eqv]⟩
  · cases h; exact ⟨rfl, rfl, by simp [deq, D.py, PyData.eqv]⟩
  · cases h; exact ⟨rfl, rfl, by simp [deq, D.py, PyData.eqv]⟩
  · split at h
    · rename_i h2; cases h; exact ⟨h2.1, h2.2, rfl⟩
    · cases h
def notO : Option D → Option D
  | some (.bl b) => some (.bl (!b))
  | _ => none
def neD (x y : D) : Option D := notO (eqD x y)
theorem notO_some {o z} (h : notO o = some z) : ∃ b, o = some (.bl b) ∧ z = .bl (!b) := by
  unfold notO at h
  split at h
  · cases h; exact ⟨_, rfl, rfl⟩
  · cases h
theorem o_eq : Op2 K (rEqD K) eqD := ⟨fun {g σ H env v u x y z Q} R i j e k => by
  obtain ⟨a, b, rfl⟩ := eqD_deq e
  exact ⟨_, _, (okn_lay 30 x a).2.2 _ _ i H R.ok.sb, (okn_lay 30 y b).2.2 _ _ j H R.ok.sb, okn_shaped K a, okn_shaped K b, k _ _ _ .rfl R (.bl _)⟩⟩
theorem o_ne : Op2 K (rNeD K) neD := ⟨fun {g σ H env v u x y z Q} R i j e k => by
  obtain ⟨b', e', rfl⟩ := notO_some e
  obtain ⟨a, b, e2⟩ := eqD_deq e'
  cases e2
  exact ⟨_, _, (okn_lay 30 x a).2.2 _ _ i H R.ok.sb, (okn_lay 30 y b).2.2 _ _ j H R.ok.sb, okn_shaped K a, okn_shaped K b, k _ _ _ .rfl R (.bl _)⟩⟩
/-! ## in -/
def rInA (K : PySem.W.Frag) (neg : Bool) : R2 := fun x y H Q => ∃ d ds, Dp K H x d ∧ (Dp K H y (.list ds) ∨ Dp K H y (.tuple ds)) ∧ d.canLay0 = true ∧ PyData.canLayAll0 ds = true ∧ d.depth ≤ 30 ∧ Q (.bl (neg ^^ ds.any fun z => PyData.eqv z d)) H
theorem room_in {X : Cx} {ds : List PyData} {d : PyData} (hu : X.A.units + 65 < cLine) (h : d.depth ≤ 30) : X.A.units + 1 + min (PyData.depthAll ds) d.depth < cLine := by
  have : min (PyData.depthAll ds) d.depth ≤ 30 := Nat.le_trans (Nat.min_le_right _ _) h
  omega
theorem op_inA {X : Cx} (hu : X.A.units + 65 < cLine) : OpR X (compareOp .In) (rInA X.K false) := by
  intro pins s σ H x y v u Q I rx ry h
  obtain ⟨d, ds, hd, he, c1, c2, dd, q⟩ := h
  obtain ⟨as, r1⟩ := Dp.reads I d x v hd rx
  rcases he with he | he
  · obtain ⟨bs, r2⟩ := Dp.reads I (.list ds) y u he ry
    exact SeqAt.in_list_reads r2 r1 c2 c1 (room_in hu dd) ⟨.bl _, H, I, by show _ = _; simp, q⟩
  · obtain ⟨bs, r2⟩ := Dp.reads I (.tuple ds) y u he ry
    exact SeqAt.in_tuple_reads r2 r1 c2 c1 (room_in hu dd) ⟨.bl _, H, I, by show _ = _; simp, q⟩
theorem op_notInA {X : Cx} (hu : X.A.units + 65 < cLine) : OpR X (compareOp .NotIn) (rInA X.K true) := by
  intro pins s σ H x y v u Q I rx ry h
  obtain ⟨d, ds, hd, he, c1, c2, dd, q⟩ := h
  obtain ⟨as, r1⟩ := Dp.reads I d x v hd rx
  rcases he with he | he
  · obtain ⟨bs, r2⟩ := Dp.reads I (.list ds) y u he ry
    exact SeqAt.notIn_list_reads r2 r1 c2 c1 (room_in hu dd) ⟨.bl _, H, I, by show _ = _; simp, q⟩
  · obtain ⟨bs, r2⟩ := Dp.reads I (.tuple ds) y u he ry
    exact SeqAt.notIn_tuple_reads r2 r1 c2 c1 (room_in hu dd) ⟨.bl _, H, I, by show _ = _; simp, q⟩
def inL (x : D) (l : List D) : Option D := if okn 30 x = true ∧ l.all (okn 29) = true then some (.bl (l.any fun z => deq z x)) else none
def inD : D → D → Option D
  | x, .lst l => inL x l
  | x, .tup l => inL x l
  | _, _ => none
def ninD (x y : D) : Option D := notO (inD x y)
theorem pyL_any {l : List D} {d : PyData} : ((pyL l).any fun z => PyData.eqv z d) = l.any fun z => PyData.eqv z.py d := by
  induction l with
  | nil => rfl
  | cons x r ih => rw [pyL, List.any_cons, List.any_cons, ih]
theorem inD_ok {g : G} {σ : L2.St} {H : Hp} {env : List Ev} {v u : V} {x y : D} {b neg : Bool} {Q : VK} (R : Rep K g σ H env) (i : Is K g.B v x) (j : Is K g.B u y) (e : inD x y = some (.bl b)) (q : Q (.bl (neg ^^ b)) H) : rInA K neg v u H Q := by
  have sb := R.ok.sb
  have key : ∀ l, inL x l = some (.bl b) → ((Dp K H u (.list (pyL l)) ∨ Dp K H u (.tuple (pyL l)))) → rInA K neg v u H Q := fun l e hd => by
    unfold inL at e
    split at e
    · rename_i h
      cases e
      obtain ⟨a1, a2, a3⟩ := okn_lay (K := K) 30 x h.1
      have hl : okn 30 (.lst l) = true := by simpa [okn] using h.2
      obtain ⟨b1, b2, b3⟩ := okn_lay (K := K) 30 (.lst l) hl
      refine ⟨x.py, pyL l, a3 _ _ i H sb, hd, a1, by simpa [D.py, PyData.canLay0] using b1, a2, ?_⟩
      rw [pyL_any]; exact q
    · cases e
  have okl : ∀ l, inL x l = some (.bl b) → l.all (okn 29) = true := fun l e => by
    unfold inL at e
    split at e
    · rename_i h; exact h.2
    · cases e
  cases y with
  | lst l =>
    have e : inL x l = some (.bl b) := e
    exact key l e (.inl ((okn_lay 30 (.lst l) (by simpa [okn] using okl l e)).2.2 _ _ j H sb))
  | tup l =>
    have e : inL x l = some (.bl b) := e
    exact key l e (.inr ((okn_lay 30 (.tup l) (by simpa [okn] using okl l e)).2.2 _ _ j H sb))
  | _ => cases e
theorem inD_bl {x y z} (h : inD x y = some z) : ∃ b, z = .bl b := by
  have key : ∀ l, inL x l = some z → ∃ b, z = .bl b := fun l e => by
    unfold inL at e
    split at e
    · cases e; exact ⟨_, rfl⟩
    · cases e
  cases y with
  | lst l => exact key l h
  | tup l => exact key l h
  | _ => cases h
theorem o_in : Op2 K (rInA K false) inD := ⟨fun {g σ H env v u x y z Q} R i j e k => by
  obtain ⟨b, rfl⟩ := inD_bl e
  exact inD_ok R i j e (by rw [Bool.false_xor]; exact k _ _ _ .rfl R (.bl _))⟩
theorem o_nin : Op2 K (rInA K true) ninD := ⟨fun {g σ H env v u x y z Q} R i j e k => by
  obtain ⟨b, e', rfl⟩ := notO_some e
  exact inD_ok R i j e' (by rw [Bool.true_xor]; exact k _ _ _ .rfl R (.bl _))⟩
/-! ### .. told by = -/
def nbn : Nat → D → Bool
  | _, .non => true
  | _, .int _ => true
  | _, .str _ => true
  | n + 1, .lst l => l.all (nbn n)
  | n + 1, .tup l => l.all (nbn n)
  | _, _ => false
theorem deq_iff : ∀ (n : Nat) (x y : D), nbn n x = true → nbn n y = true → (deq x y = true ↔ x = y) := by
  intro n
  induction n with
  | zero =>
    intro x y hx hy
    cases x <;> cases y <;> simp [nbn] at hx hy <;> simp [deq, D.py, PyData.eqv]
  | succ n ih =>
    have all : ∀ l m : List D, l.all (nbn n) = true → m.all (nbn n) = true → (PyData.eqvAll (pyL l) (pyL m) = true ↔ l = m) := by
      intro l
      induction l with
      | nil => intro m _ _; cases m <;> simp [pyL, PyData.eqvAll]
      | cons x r ihr =>
        intro m hl hm
        cases m with
        | nil => simp [pyL, PyData.eqvAll]
        | cons y t =>
          rw [List.all_cons, Bool.and_eq_true] at hl hm
          have h1 := ih x y hl.1 hm.1
          have h2 := ihr t hl.2 hm.2
          unfold deq at h1
          simp only [pyL, PyData.eqvAll, Bool.and_eq_true, h1, h2, List.cons.injEq]
    intro x y hx hy
    cases x with
    | lst l => cases y with
      | lst m => 
        have := all l m (by simpa [nbn] using hx) (by simpa [nbn] using hy)
        simp only [deq, D.py, PyData.eqv, this, D.lst.injEq]
      | _ => simp [nbn] at hy <;> simp [deq, D.py, PyData.eqv]
    | tup l => cases y with
      | tup m =>
        have := all l m (by simpa [nbn] using hx) (by simpa [nbn] using hy)
        simp only [deq, D.py, PyData.eqv, this, D.tup.injEq]
      | _ => simp [nbn] at hy <;> simp [deq, D.py, PyData.eqv]
    | non => cases y <;> simp [nbn] at hy <;> simp [deq, D.py, PyData.eqv]
    | int i => cases y <;> simp [nbn] at hy <;> simp [deq, D.py, PyData.eqv]
    | str i => cases y <;> simp [nbn] at hy <;> simp [deq, D.py, PyData.eqv]
    | _ => simp [nbn] at hx
end
end LR
set_option Elab.async false
set_option maxRecDepth 100000
set_option linter.all false
set_option maxHeartbeats 4000000
namespace LR
open PySem PySem.Spec PyProof.Rows L2
/-! # the data layer: fields, built-in functions, slices -/
def lkD (ks : List Str) (ds : List D) (f : Str) : Option D := (ks.zip ds).lookup f
def fldD (f : Str) : D → Option D
  | .ins _ ks ds => lkD ks ds f
  | _ => none
section
variable {K : PySem.W.Frag}
theorem lk_is {B : Hp} {f : Str} : ∀ {fs : List (Str × V)} {ds : List D} {d : D}, Iss K B (fs.map (·.2)) ds → lkD (fs.map (·.1)) ds f = some d → ∃ v, fs.lookup f = some v ∧ Is K B v d ∧ f ∈ fs.map (·.1) := by
  intro fs
  induction fs with
  | nil => intro ds d i h; cases h
  | cons p r ih =>
    intro ds d i h
    obtain ⟨k, v⟩ := p
    cases i with
    | cons i1 i2 =>
      rename_i e es
      unfold lkD at h
      rw [List.map_cons, List.zip_cons_cons, List.lookup_cons] at h
      rw [List.lookup_cons, List.map_cons]
      cases c : (f == k) with
      | true =>
        rw [c] at h
        simp only [if_true] at h
        cases h
        exact ⟨v, by simp, i1, by rw [beq_iff_eq] at c; rw [c]; exact List.mem_cons_self⟩
      | false =>
        rw [c] at h
        simp only [Bool.false_eq_true, if_false] at h
        obtain ⟨w, e1, e2, e3⟩ := ih i2 h
        exact ⟨w, by simpa using e1, e2, List.mem_cons_of_mem _ e3⟩
end
section
variable {X : Cx} {W : WX} {e : Expr} {f : Str} {pos : Pos}
theorem qe_fld {d} (h : QE X W e d) (hb : attributeBase e f X.env (eval e X.env) = eval e X.env) : QE X W (.Attribute e f pos) (d1 (fldD f) d) := (pe_fld h hb).mono fun σ H Q ⟨g, env, Ed, Qd, R, h, kv, kx⟩ => by
  refine lift.useD R h (fun v x H1 g1 l1 R1 i1 ⟨z, ez, q⟩ => ?_) kx
  cases i1 with
  | ins hp k a cl na =>
    subst k
    obtain ⟨w, e1, e2, e3⟩ := lk_is a ez
    exact ⟨_, _, _, _, w, rfl, R1.ok.sb _ _ hp, cl, na _ e3, e1, kv _ (.d z) _ _ l1 R1 e2 q⟩
  | _ => cases ez
theorem qp_fld {p} (h : QP X e p) (hb : attributeBase e f X.env (eval e X.env) = eval e X.env) : QP X (.Attribute e f pos) (p1 (fldD f) p) := fun W => (qe_fld (h W) hb).mono fun _ _ _ h => h.imp fun _ _ _ => p1_d1
end
/-! ## functions of values -/
structure OpN (K : PySem.W.Frag) (r : List V → Hp → VK → Prop) (f : List D → Option D) : Prop where
  ok : ∀ {g : G} {σ : L2.St} {H : Hp} {env : List Ev} {vs : List V} {xs : List D} {z : D} {Q : VK}, Rep K g σ H env → Iss K g.B vs xs → f xs = some z →
    (∀ v' H' g', G.Le g g' → Rep K g' σ H' env → Is K g'.B v' z → Q v' H') → r vs H Q
def pN (f : List D → Option D) (ps : List PF) : PF := fun env => match evs ps env with
  | some l => f l
  | none => none
def dN (f : List D → Option D) (da : DA) : DE := fun env Ed Q => da env Ed fun as => ∃ l z, allD as = some l ∧ f l = some z ∧ Q (.d z)
theorem pN_dN {f ps env Ed Q} (h : dP (pN f ps) env Ed Q) : dN f (daP ps) env Ed Q := by
  obtain ⟨z, h, q⟩ := h
  unfold pN at h
  cases e : evs ps env with
  | none => rw [e] at h; cases h
  | some l => rw [e] at h; exact ⟨l, e, l, z, allD_map l, h, q⟩
section
variable {X : Cx} {W : WX} {e : Expr} {es : List Expr} {x : Str} {p pos : Pos} {id : String} {r : List V → Hp → VK → Prop} {f : List D → Option D}
theorem lift_callN {da : DA} {σ : L2.St} {H : Hp} {Q : VK} (hf : OpN X.K r f) (h : lift X.K W (dN f da) σ H Q) : tCB r (liftA X.K W da) σ H Q := by
  obtain ⟨g, env, Ed, Qd, R, h, kv, kx⟩ := h
  exact ⟨g, env, Ed, _, R, h, fun vs as H1 g1 l1 R1 i1 ⟨l, z, e1, e2, q⟩ => hf.ok R1 (i1.all e1) e2 fun v' H' g' l2 R2 i2 => kv _ (.d z) _ _ (l1.trans l2) R2 i2 q, kx⟩
theorem qe_callB {da} (hf : OpN X.K r f) (hc : CallR X (.builtin id) r) (hg : Gl X x) (hm : X.mg x = none) (hv : bootBuiltins x = some (.builtin id)) (ha : QA X W (e :: es) da) (hn : x ≠ "__name__" := by decide) (hdb : (x == ("__debug__" : Str)) = false := by decide)
    (he : starEach (e :: es) X.env = (false, eval e X.env) :: starEach es X.env := by rfl) (hpl : (backTo pos (starEach es X.env)).any (·.1) = false := by rfl) : QE X W (.Call (.Name x p) (e :: es) [] pos) (dN f da) :=
  (pe_callB hc hg hm hv ha hn hdb he hpl).mono fun _ _ _ h => lift_callN hf h
theorem qp_callB {ps} (hf : OpN X.K r f) (hc : CallR X (.builtin id) r) (hg : Gl X x) (hm : X.mg x = none) (hv : bootBuiltins x = some (.builtin id)) (ha : QPs X (e :: es) ps) (hn : x ≠ "__name__" := by decide) (hdb : (x == ("__debug__" : Str)) = false := by decide)
    (he : starEach (e :: es) X.env = (false, eval e X.env) :: starEach es X.env := by rfl) (hpl : (backTo pos (starEach es X.env)).any (·.1) = false := by rfl) : QP X (.Call (.Name x p) (e :: es) [] pos) (pN f ps) :=
  fun W => (pe_callB hc hg hm hv (ha W) hn hdb he hpl).mono fun _ _ _ h => lift_callN hf (h.imp fun _ _ _ => pN_dN)
theorem qe_callTy {da} {T : String} (hf : OpN X.K r f) (hc : CallR X (.type T) r) (hg : Gl X x) (hm : X.mg x = none) (hv : bootBuiltins x = some (.type T)) (ha : QA X W (e :: es) da) (hn : x ≠ "__name__" := by decide) (hdb : (x == ("__debug__" : Str)) = false := by decide)
    (he : starEach (e :: es) X.env = (false, eval e X.env) :: starEach es X.env := by rfl) (hpl : (backTo pos (starEach es X.env)).any (·.1) = false := by rfl) : QE X W (.Call (.Name x p) (e :: es) [] pos) (dN f da) :=
  (pe_callTy hc hg hm hv ha hn hdb he hpl).mono fun _ _ _ h => lift_callN hf h
theorem qp_callTy {ps} {T : String} (hf : OpN X.K r f) (hc : CallR X (.type T) r) (hg : Gl X x) (hm : X.mg x = none) (hv : bootBuiltins x = some (.type T)) (ha : QPs X (e :: es) ps) (hn : x ≠ "__name__" := by decide) (hdb : (x == ("__debug__" : Str)) = false := by decide)
    (he : starEach (e :: es) X.env = (false, eval e X.env) :: starEach es X.env := by rfl) (hpl : (backTo pos (starEach es X.env)).any (·.1) = false := by rfl) : QP X (.Call (.Name x p) (e :: es) [] pos) (pN f ps) :=
  fun W => (pe_callTy hc hg hm hv (ha W) hn hdb he hpl).mono fun _ _ _ h => lift_callN hf (h.imp fun _ _ _ => pN_dN)
end
section
variable {K : PySem.W.Frag} {X : Cx}
theorem Iss.one_inv {B vs d} (h : Iss K B vs [d]) : ∃ v, vs = [v] ∧ Is K B v d := by
  cases h with | cons a t => cases t; exact ⟨_, rfl, a⟩
theorem Iss.two_inv {B vs d e} (h : Iss K B vs [d, e]) : ∃ v u, vs = [v, u] ∧ Is K B v d ∧ Is K B u e := by
  cases h with | cons a t => cases t with | cons b t => cases t; exact ⟨_, _, rfl, a, b⟩
def rLenA (K : PySem.W.Frag) : List V → Hp → VK → Prop := fun xs H Q => (∃ p ys, xs = [.ref p] ∧ (SqL K H p ys ∨ SqT K H p ys) ∧ Q (.int ys.length) H) ∨ (∃ z, xs = [.str z] ∧ z.length ≤ sizeLine ∧ Q (.int z.length) H)
theorem c_len : CallR X (.builtin "len") (rLenA X.K) := CallR.or call_len_seq call_len_str
def lenD : List D → Option D
  | [.lst l] => some (.int l.length)
  | [.tup l] => some (.int l.length)
  | [.str z] => if z.length ≤ 100000 then some (.int z.length) else none
  | _ => none
theorem o_len : OpN K (rLenA K) lenD := ⟨fun {g σ H env vs xs z Q} R i e k => by
  have sb := R.ok.sb
  unfold lenD at e
  split at e
  · cases e
    obtain ⟨v, rfl, i1⟩ := i.one_inv
    obtain ⟨p, ys, rfl, hp, ip, _⟩ := i1.lstE
    exact .inl ⟨p, ys, rfl, .inl (SqL.of (sb _ _ hp)), by rw [ip.length]; exact k _ _ _ .rfl R (.int _)⟩
  · cases e
    obtain ⟨v, rfl, i1⟩ := i.one_inv
    obtain ⟨p, ys, rfl, hp, ip, _⟩ := i1.tupE
    exact .inl ⟨p, ys, rfl, .inr (SqT.of (sb _ _ hp)), by rw [ip.length]; exact k _ _ _ .rfl R (.int _)⟩
  · split at e
    · rename_i h
      cases e
      obtain ⟨v, rfl, i1⟩ := i.one_inv
      cases i1
      exact .inr ⟨_, rfl, line5 h, k _ _ _ .rfl R (.int _)⟩
    · cases e
  · cases e⟩
def max2D : List D → Option D
  | [.int i, .int j] => some (.int (if j > i then j else i))
  | _ => none
def min2D : List D → Option D
  | [.int i, .int j] => some (.int (if j < i then j else i))
  | _ => none
theorem o_max2 : OpN K (fun xs H Q => ∃ i j, xs = [.int i, .int j] ∧ Q (.int (if j > i then j else i)) H) max2D := ⟨fun {g σ H env vs xs z Q} R i e k => by
  unfold max2D at e
  split at e
  · cases e
    obtain ⟨v, u, rfl, i1, j1⟩ := i.two_inv
    cases i1; cases j1
    exact ⟨_, _, rfl, k _ _ _ .rfl R (.int _)⟩
  · cases e⟩
theorem o_min2 : OpN K (fun xs H Q => ∃ i j, xs = [.int i, .int j] ∧ Q (.int (if j < i then j else i)) H) min2D := ⟨fun {g σ H env vs xs z Q} R i e k => by
  unfold min2D at e
  split at e
  · cases e
    obtain ⟨v, u, rfl, i1, j1⟩ := i.two_inv
    cases i1; cases j1
    exact ⟨_, _, rfl, k _ _ _ .rfl R (.int _)⟩
  · cases e⟩
def listD : List D → Option D
  | [.lst l] => some (.lst l)
  | [.tup l] => some (.lst l)
  | _ => none
theorem o_list : OpN K (fun xs H Q => ∃ p ys, xs = [.ref p] ∧ (SqL K H p ys ∨ SqT K H p ys) ∧ ∀ l, H l = none → Q (.ref l) (upd H l (.lst ys))) listD := ⟨fun {g σ H env vs xs z Q} R i e k => by
  have sb := R.ok.sb
  unfold listD at e
  split at e
  · cases e
    obtain ⟨v, rfl, i1⟩ := i.one_inv
    obtain ⟨p, ys, rfl, hp, ip, zp⟩ := i1.lstE
    exact ⟨p, ys, rfl, .inl (SqL.of (sb _ _ hp)), new_lst R ip zp k⟩
  · cases e
    obtain ⟨v, rfl, i1⟩ := i.one_inv
    obtain ⟨p, ys, rfl, hp, ip, zp⟩ := i1.tupE
    exact ⟨p, ys, rfl, .inr (SqT.of (sb _ _ hp)), new_lst R ip zp k⟩
  · cases e⟩
def tuplD : List D → Option D
  | [.lst l] => some (.tup l)
  | [.tup l] => some (.tup l)
  | _ => none
theorem o_tuple : OpN K (fun xs H Q => ∃ p ys, xs = [.ref p] ∧ ((SqL K H p ys ∧ ∀ l, H l = none → Q (.ref l) (upd H l (.tup ys))) ∨ (SqT K H p ys ∧ Q (.ref p) H))) tuplD := ⟨fun {g σ H env vs xs z Q} R i e k => by
  have sb := R.ok.sb
  unfold tuplD at e
  split at e
  · cases e
    obtain ⟨v, rfl, i1⟩ := i.one_inv
    obtain ⟨p, ys, rfl, hp, ip, zp⟩ := i1.lstE
    exact ⟨p, ys, rfl, .inl ⟨SqL.of (sb _ _ hp), new_tup R ip zp k⟩⟩
  · cases e
    obtain ⟨v, rfl, i1⟩ := i.one_inv
    obtain ⟨p, ys, rfl, hp, ip, zp⟩ := i1.tupE
    exact ⟨p, ys, rfl, .inr ⟨SqT.of (sb _ _ hp), k _ _ _ .rfl R (.tup hp ip zp)⟩⟩
  · cases e⟩
def bls : List D → Option (List Bool)
  | [] => some []
  | .bl b :: r => match bls r with
    | some l => some (b :: l)
    | none => none
  | _ :: _ => none
def ins : List D → Option (List Int)
  | [] => some []
  | .int b :: r => match ins r with
    | some l => some (b :: l)
    | none => none
  | _ :: _ => none
theorem bls_map : ∀ l : List Bool, bls (l.map .bl) = some l
  | [] => rfl
  | x :: r => by rw [List.map_cons, bls, bls_map r]
theorem bls_some : ∀ {l : List D} {m}, bls l = some m → l = m.map .bl
  | [], _, h => by cases h; rfl
  | .bl b :: r, m, h => by
    unfold bls at h
    cases e : bls r with
    | none => rw [e] at h; cases h
    | some t => rw [e] at h; cases h; rw [List.map_cons, ← bls_some e]
  | .non :: _, _, h => by cases h
  | .int _ :: _, _, h => by cases h
  | .str _ :: _, _, h => by cases h
  | .lst _ :: _, _, h => by cases h
  | .tup _ :: _, _, h => by cases h
  | .ins _ _ _ :: _, _, h => by cases h
  | .cls _ :: _, _, h => by cases h
  | .ty _ :: _, _, h => by cases h
  | .dic _ _ :: _, _, h => by cases h
theorem iss_bls {B} : ∀ {bs : List Bool} {vs}, Iss K B vs (bs.map .bl) → vs = bs.map V.bl
  | [], _, h => by cases h; rfl
  | b :: r, _, h => by cases h with | cons a t => cases a; rw [iss_bls t]; rfl
theorem iss_insE {B} : ∀ {bs : List Int} {vs}, Iss K B vs (bs.map .int) → vs = bs.map V.int
  | [], _, h => by cases h; rfl
  | b :: r, _, h => by cases h with | cons a t => cases a; rw [iss_insE t]; rfl
def anyD : List D → Option D
  | [.lst l] => (bls l).map fun bs => .bl (bs.any id)
  | _ => none
def allDD : List D → Option D
  | [.lst l] => (bls l).map fun bs => .bl (bs.all id)
  | _ => none
theorem o_any : OpN K (rAny K) anyD := ⟨fun {g σ H env vs xs z Q} R i e k => by
  unfold anyD at e
  split at e
  · obtain ⟨bs, eb, rfl⟩ := Option.map_eq_some_iff.mp e
    obtain ⟨v, rfl, i1⟩ := i.one_inv
    obtain ⟨p, ys, rfl, hp, ip, _⟩ := i1.lstE
    rw [bls_some eb] at ip
    rw [iss_bls ip] at hp
    exact ⟨p, bs, rfl, SqL.of (R.ok.sb _ _ hp), k _ _ _ .rfl R (.bl _)⟩
  · cases e⟩
theorem o_all : OpN K (rAll K) allDD := ⟨fun {g σ H env vs xs z Q} R i e k => by
  unfold allDD at e
  split at e
  · obtain ⟨bs, eb, rfl⟩ := Option.map_eq_some_iff.mp e
    obtain ⟨v, rfl, i1⟩ := i.one_inv
    obtain ⟨p, ys, rfl, hp, ip, _⟩ := i1.lstE
    rw [bls_some eb] at ip
    rw [iss_bls ip] at hp
    exact ⟨p, bs, rfl, SqL.of (R.ok.sb _ _ hp), k _ _ _ .rfl R (.bl _)⟩
  · cases e⟩
def intD : List D → Option D
  | [.int i] => some (.int i)
  | [.bl b] => some (.int (if b then 1 else 0))
  | _ => none
theorem o_int : OpN K (fun xs H Q => (∃ i, xs = [.int i] ∧ Q (.int i) H) ∨ ∃ k, xs = [.bl k] ∧ Q (.int (if k then 1 else 0)) H) intD := ⟨fun {g σ H env vs xs z Q} R i e k => by
  unfold intD at e
  split at e
  · cases e
    obtain ⟨v, rfl, i1⟩ := i.one_inv
    cases i1
    exact .inl ⟨_, rfl, k _ _ _ .rfl R (.int _)⟩
  · cases e
    obtain ⟨v, rfl, i1⟩ := i.one_inv
    cases i1
    exact .inr ⟨_, rfl, k _ _ _ .rfl R (.int _)⟩
  · cases e⟩
/-! ## isinstance(x, T) of data, T a built-in type -/
def Dt.of : D → Option Dt
  | .non => some .non
  | .bl b => some (.bl b)
  | .int i => some (.int i)
  | .str x => some (.str x)
  | .lst _ => some (.lst [])
  | .tup _ => some (.tup [])
  | _ => none
end
/-! ## slices -/
def cutD (xs : List D) (lo hi : Option Int) : List D := (xs.drop (HT.sIx xs.length 0 lo)).take (HT.sIx xs.length xs.length hi - HT.sIx xs.length 0 lo)
def sliD : D → Option Int → Option Int → Option D
  | .lst l, lo, hi => some (.lst (cutD l lo hi))
  | .tup l, lo, hi => some (.tup (cutD l lo hi))
  | .str z, lo, hi => if z.length ≤ 100000 then some (.str (cutS z lo hi)) else none
  | _, _, _ => none
def evO : Option PF → List Ev → Option (Option Int)
  | none, _ => some none
  | some p, env => match p env with
    | some (.int i) => some (some i)
    | _ => none
def psli (p : PF) (lo hi : Option PF) : PF := fun env => match p env, evO lo env, evO hi env with
  | some x, some l, some h => sliD x l h
  | _, _, _ => none
section
variable {K : PySem.W.Frag} {X : Cx} {e : Expr} {pos p2 : Pos}
def QPO (X : Cx) (e : Option Expr) (p : Option PF) : Prop := match e, p with
  | none, none => True
  | some e, some p => QP X e p
  | _, _ => False
theorem qpo_none : QPO X none none := trivial
theorem qpo_some {e p} (h : QP X e p) : QPO X (some e) (some p) := h
theorem cut_is {B xs ds} (h : Iss K B xs ds) (lo hi : Option Int) : Iss K B (cutV xs lo hi) (cutD ds lo hi) := by
  unfold cutV cutD
  rw [h.length]
  exact (h.drop _).take _
def rSlAll (K : PySem.W.Frag) : V → Option Int → Option Int → Hp → VK → Prop := fun x lo hi H Q => rSlL K x lo hi H Q ∨ (rSlA K x lo hi H Q ∨ rSlS x lo hi H Q)
theorem sl_all : SlR X (rSlAll X.K) := SlR.or sl_list (SlR.or sl_tupA sl_str)
theorem cut_whole {xs : List D} {lo hi : Option Int} (h : HT.sIx xs.length 0 lo = 0 ∧ HT.sIx xs.length xs.length hi = xs.length) : cutD xs lo hi = xs := by
  unfold cutD
  rw [h.1, h.2, List.drop_zero, Nat.sub_zero, List.take_length]
theorem qp_slice {p : PF} {lo hi : Option Expr} {pl ph : Option PF} (he : QP X e p) (hl : QPO X lo pl) (hu : QPO X hi ph) : QP X (.Subscript e (.Slice lo hi none p2) pos) (psli p pl ph) := by
  intro W
  have part : ∀ {o : Option Expr} {q : Option PF}, QPO X o q → ∃ t : TO, PO X o t ∧ ∀ {g σ H env} {i : Option Int} {Q : Option Int → Hp → Prop}, Rep X.K g σ H env → evO q env = some i → (∀ H' g', G.Le g g' → Rep X.K g' σ H' env → Q i H') → t σ H Q := by
    intro o q h
    cases o with
    | none => cases q with
      | none => exact ⟨_, po_none, fun {g σ H env i Q} R e k => by cases e; exact k _ _ .rfl R⟩
      | some q => exact h.elim
    | some o => cases q with
      | none => exact h.elim
      | some q =>
        refine ⟨_, po_some (h W), fun {g σ H env i Q} R e k => ?_⟩
        have e : (match q env with | some (.int i) => some (some i) | _ => none) = some i := e
        split at e
        · rename_i j ej
          cases e
          exact lift.useP R ej fun v H1 g1 l1 R1 i1 => ⟨j, i1.intE, k _ _ l1 R1⟩
        · cases e
  obtain ⟨tl, h1, u1⟩ := part hl
  obtain ⟨th, h2, u2⟩ := part hu
  refine (pe_slice sl_all (he W) h1 h2).mono fun σ H Q ⟨g, env, Ed, Qd, R, ⟨z, ez, q⟩, kv, kx⟩ => ?_
  unfold psli at ez
  split at ez
  · rename_i x l h e1 e2 e3
    refine lift.useP R e1 fun v H1 g1 l1 R1 i1 => u1 R1 e2 fun H2 g2 l2 R2 => u2 R2 e3 fun H3 g3 l3 R3 => ?_
    have i3 := (i1.mono l2.b).mono l3.b
    have sb := R3.ok.sb
    have fin : ∀ v' H' g', G.Le g3 g' → Rep X.K g' σ H' env → Is X.K g'.B v' z → Q v' H' := fun v' H' g' l4 R4 i4 => kv v' (.d z) H' g' (l1.trans (l2.trans (l3.trans l4))) R4 i4 q
    unfold sliD at ez
    split at ez
    · cases ez
      obtain ⟨p, xs, rfl, hp, ip, zp⟩ := i3.lstE
      exact .inl ⟨p, xs, rfl, SqL.of (sb _ _ hp), new_lst R3 (cut_is ip l h) (Nat.le_trans (cutV_length _ _ _) zp) fin⟩
    · cases ez
      obtain ⟨p, xs, rfl, hp, ip, zp⟩ := i3.tupE
      refine .inr (.inl ⟨p, xs, rfl, SqT.of (sb _ _ hp), fun w => ?_, fun _ => new_tup R3 (cut_is ip l h) (Nat.le_trans (cutV_length _ _ _) zp) fin⟩)
      rw [ip.length] at w
      rw [cut_whole w] at fin
      exact fin _ _ _ .rfl R3 (.tup hp ip zp)
    · split at ez
      · rename_i hz
        cases ez
        exact .inr (.inr ⟨_, i3.strE, line5 hz, fin _ _ _ .rfl R3 (.str _)⟩)
      · cases ez
    · cases ez
  · cases ez
end
end LR
set_option Elab.async false
set_option maxRecDepth 100000
set_option linter.all false
set_option maxHeartbeats 4000000
namespace LR
open PySem PySem.Spec PyProof.Rows L2
/-! # the data layer: targets, iterations, comprehensions -/
def onS {α : Type} : Option α → (α → Prop) → Prop
  | some a, k => k a
  | none, _ => False
theorem onS_some {α : Type} {o : Option α} {k : α → Prop} (h : onS o k) : ∃ a, o = some a ∧ k a := by
  cases o with
  | some a => exact ⟨a, rfl, h⟩
  | none => exact h.elim
structure Only (vs : List Nat) (σ : L2.St) (env : List Ev) (σ' : L2.St) (env' : List Ev) : Prop where
  ln : σ'.length = σ.length
  at_ : ∀ j, j ∉ vs → σ'[j]? = σ[j]? ∧ nth env' j = nth env j
theorem Only.rfl' {vs σ env} : Only vs σ env σ env := ⟨rfl, fun _ _ => ⟨rfl, rfl⟩⟩
theorem Only.trans {vs σ env σ' env' σ2 env2} (a : Only vs σ env σ' env') (b : Only vs σ' env' σ2 env2) : Only vs σ env σ2 env2 :=
  ⟨b.ln.trans a.ln, fun j h => ⟨(b.at_ j h).1.trans (a.at_ j h).1, (b.at_ j h).2.trans (a.at_ j h).2⟩⟩
abbrev DG := D → List Ev → Option (List Ev)
def liftG (K : PySem.W.Frag) (vs : List Nat) (b : DG) : TG := fun v σ H Q => ∃ g env x e, Rep K g σ H env ∧ Is K g.B v x ∧ b x env = some e ∧ ∀ σ' g', G.Le g g' → Rep K g' σ' H e → Only vs σ env σ' e → Q σ' H
def QG (X : Cx) (vs : List Nat) (tg : Expr) (b : DG) : Prop := PG X tg (liftG X.K vs b)
def bNm (i : Nat) : DG := fun x env => some (sth env i (.d x))
abbrev DGs := List D → List Ev → Option (List Ev)
def liftGs (K : PySem.W.Frag) (vs : List Nat) (b : DGs) : TGs := fun ws σ H Q => ∃ g env xs e, Rep K g σ H env ∧ Iss K g.B ws xs ∧ b xs env = some e ∧ ∀ σ' g', G.Le g g' → Rep K g' σ' H e → Only vs σ env σ' e → Q σ' H
structure QGs (X : Cx) (vs : List Nat) (n : Nat) (tgs : List Expr) (b : DGs) : Prop where
  run : PGs X tgs (liftGs X.K vs b)
  len : ∀ xs env e, b xs env = some e → xs.length = n
def bsNil : DGs
  | [], env => some env
  | _ :: _, _ => none
def bsCons (b : DG) (r : DGs) : DGs
  | x :: xs, env => (b x env).bind (r xs)
  | [], _ => none
def bTup (r : DGs) : DG
  | .tup l, env => r l env
  | _, _ => none
theorem _root_.L2.PG.mono {X tg t t'} (h : PG X tg t) (m : ∀ v σ H Q, t' v σ H Q → t v σ H Q) : PG X tg t' := ⟨fun pins s σ H v u Q I r q => h.run pins s σ H v u Q I r (m _ _ _ _ q)⟩
theorem _root_.L2.PGs.mono {X tg t t'} (h : PGs X tg t) (m : ∀ v σ H Q, t' v σ H Q → t v σ H Q) : PGs X tg t' := ⟨fun pins s σ H v u Q I r q => h.run pins s σ H v u Q I r (m _ _ _ _ q)⟩
section
variable {X : Cx} {vs : List Nat} {x : Str} {i : Nat} {pos : Pos}
theorem qg_name (h : PG X (.Name x pos) (gName i)) (hv : i ∈ vs := by decide) : QG X vs (.Name x pos) (bNm i) := h.mono fun v σ H Q ⟨g, env, y, e, R, iy, eb, k⟩ => by
  cases eb
  obtain ⟨g', l, _, R'⟩ := R.setD (i := i) (e := .d y) ⟨v, rfl, iy⟩ rfl
  exact k _ g' l R' ⟨List.length_set, fun j hj => ⟨get_set_ne fun e => hj (e ▸ hv), nth_sth_ne fun e => hj (e ▸ hv)⟩⟩
theorem qgs_nil : QGs X vs 0 [] bsNil := ⟨pgs_nil.mono (fun ws σ H Q ⟨g, env, xs, e, R, ix, eb, k⟩ => by
  cases ix with
  | nil => cases eb; exact ⟨rfl, k _ _ .rfl R .rfl'⟩
  | cons => cases eb), fun xs env e h => by
    cases xs with
    | nil => rfl
    | cons => cases h⟩
theorem qgs_cons {n : Nat} {t : Expr} {ts : List Expr} {b r} (h : QG X vs t b) (h2 : QGs X vs n ts r) (hp : PGs X (t :: ts) (gCons (liftG X.K vs b) (liftGs X.K vs r))) : QGs X vs (n + 1) (t :: ts) (bsCons b r) :=
  ⟨hp.mono (fun ws σ H Q ⟨g, env, xs, e, R, ix, eb, k⟩ => by
    cases ix with
    | nil => cases eb
    | cons i1 i2 =>
      obtain ⟨e1, h1, h3⟩ := Option.bind_eq_some_iff.mp eb
      exact ⟨_, _, rfl, g, env, _, e1, R, i1, h1, fun σ' g' l R' o => ⟨g', e1, _, e, R', i2.mono l.b, h3, fun σ2 g2 l2 R2 o2 => k _ _ (l.trans l2) R2 (o.trans o2)⟩⟩), fun xs env e h => by
    cases xs with
    | nil => cases h
    | cons y ys => obtain ⟨e1, _, h3⟩ := Option.bind_eq_some_iff.mp h; rw [List.length_cons, h2.len _ _ _ h3]⟩
theorem qg_tup {es : List Expr} {k n : Nat} {r} (hc : X.calm = true) (h : QGs X vs n es r) (hp : PG X (.Tuple es k pos) (gTup X.K n (liftGs X.K vs r))) : QG X vs (.Tuple es k pos) (bTup r) := hp.mono fun v σ H Q ⟨g, env, y, e, R, iy, eb, kk⟩ => by
  cases iy with
  | tup hp ip zp =>
    exact ⟨_, _, rfl, SqT.of (R.ok.sb _ _ hp), by rw [ip.length]; exact h.len _ _ _ eb, g, env, _, e, R, ip, eb, kk⟩
  | _ => cases eb
end
/-! ## iterations -/
structure Runs (K : PySem.W.Frag) (g : G) (J : It) (l : List D) : Prop where
  le : l.length ≤ 100000
  wk : ∃ (Gd : Hp → Prop) (Y : Nat → Hp → V → Hp → Prop), Walk J l.length Gd Y ∧ (∀ g2 σ env H', Same g.B g2.B → Rep K g2 σ H' env → Gd H') ∧
    ∀ i H v H', i < l.length → Y i H v H' → ∀ g2 σ env, Same g.B g2.B → Rep K g2 σ H env → ∃ g3 x, l[i]? = some x ∧ G.Le g2 g3 ∧ Rep K g3 σ H' env ∧ Is K g3.B v x
abbrev DI := List Ev → (Er → Prop) → (List D → Prop) → Prop
def liftI (K : PySem.W.Frag) (W : WX) (d : DI) : TI := fun σ H R => ∃ g env Ed Ld, Rep K g σ H env ∧ d env Ed Ld ∧ (∀ J l H' g', G.Le g g' → Rep K g' σ H' env → Runs K g' J l → Ld l → R J H') ∧ KX K W g σ env Ed
def QI (X : Cx) (W : WX) (tg e : Expr) (d : DI) : Prop := PI X tg e (liftI X.K W d)
theorem _root_.L2.PI.mono {X tg e t t'} (h : PI X tg e t) (m : ∀ σ H R, t' σ H R → t σ H R) : PI X tg e t' := ⟨fun pins s σ H R I q => h.run pins s σ H R I (m _ _ _ q)⟩
def seqI (k : List D → Prop) : D → Prop
  | .lst l => k l
  | .tup l => k l
  | _ => False
def iSeqD (d : DE) : DI := fun env Ed Ld => d env Ed (asD (seqI Ld))
def rgD (lo : Int) (n : Nat) : List D := (List.range n).map fun i => .int (lo + (i : Nat))
def iRng1D (d : DE) : DI := fun env Ed Ld => d env Ed (asD fun x => match x with
  | .int n => (-100000 ≤ n ∧ n ≤ 100000) ∧ Ld (rgD 0 n.toNat)
  | _ => False)
def iRng2D (d d2 : DE) : DI := fun env Ed Ld => d env Ed (asD fun x => d2 env Ed (asD fun y => match x, y with
  | .int a, .int b => (-100000 ≤ a ∧ a ≤ 100000 ∧ -100000 ≤ b ∧ b ≤ 100000 ∧ b - a ≤ 100000) ∧ Ld (rgD a (b - a).toNat)
  | _, _ => False))
def enm (l : List D) : List D := l.zipIdx.map fun p => .tup [.int (p.2 : Nat), p.1]
def iEnumD (d : DE) : DI := fun env Ed Ld => d env Ed (asD (seqI fun l => Ld (enm l)))
def zipD (l m : List D) : List D := List.zipWith (fun a b => .tup [a, b]) l m
def iZipD (d d2 : DE) : DI := fun env Ed Ld => d env Ed (asD fun x => d2 env Ed (asD fun y => match x, y with
  | .lst a, .lst b => Ld (zipD a b)
  | .tup a, .tup b => Ld (zipD a b)
  | _, _ => False))
def ltrs (z : Str) : List D := z.cps.toList.map fun c => .str ⟨#[c]⟩
def iStrD (d : DE) : DI := fun env Ed Ld => d env Ed (asD fun x => match x with
  | .str z => z.cps.size ≤ 100000 ∧ Ld (ltrs z)
  | _ => False)
section
variable {K : PySem.W.Frag}
theorem gd_of {g : G} {Gd : Hp → Prop} (hg : ∀ H', Same g.B H' → Gd H') : ∀ g2 σ env H', Same g.B g2.B → Rep K g2 σ H' env → Gd H' := fun _ _ _ H' le R => hg H' (le.trans R.ok.sb)
theorem runs_at {g : G} {J : It} {xs : List V} {l : List D} {Gd : Hp → Prop} (w : Walk J xs.length Gd (YAt xs)) (hg : ∀ H', Same g.B H' → Gd H') (i : Iss K g.B xs l) (z : xs.length ≤ 100000) : Runs K g J l := by
  refine ⟨by rw [← i.length]; exact z, Gd, _, by rw [← i.length]; exact w, gd_of hg, fun j H v H' hj y g2 σ env le R => ?_⟩
  obtain ⟨rfl, e⟩ := y
  obtain ⟨d, ed, id⟩ := i.get e
  exact ⟨g2, d, ed, .rfl, R, id.mono le⟩
theorem runs_fn {g : G} {J : It} {n : Nat} {f : Nat → V} {f' : Nat → D} {Gd : Hp → Prop} (w : Walk J n Gd (YFn f)) (hg : ∀ H', Same g.B H' → Gd H') (i : ∀ (B : Hp) j, Is K B (f j) (f' j)) (z : n ≤ 100000) : Runs K g J ((List.range n).map f') := by
  have hl : ((List.range n).map f').length = n := by rw [List.length_map, List.length_range]
  refine ⟨by rw [hl]; exact z, Gd, _, by rw [hl]; exact w, gd_of hg, fun j H v H' hj y g2 σ env le R => ?_⟩
  obtain ⟨rfl, rfl⟩ := y
  rw [hl] at hj
  exact ⟨g2, f' j, by rw [List.getElem?_map, List.getElem?_range hj]; rfl, .rfl, R, i _ _⟩
theorem runs_pair {g : G} {J : It} {n : Nat} {l : List D} {f h : Nat → Option V} {Gd : Hp → Prop} (w : Walk J l.length Gd (YPair f h)) (hg : ∀ H', Same g.B H' → Gd H') (z : l.length ≤ 100000)
    (i : ∀ j x y, j < l.length → f j = some x → h j = some y → ∃ d e, l[j]? = some (.tup [d, e]) ∧ Is K g.B x d ∧ Is K g.B y e) : Runs K g J l := by
  refine ⟨z, Gd, _, w, gd_of hg, fun j H v H' hj y g2 σ env le R => ?_⟩
  obtain ⟨T, a, b, rfl, hT, rfl, e1, e2⟩ := y
  obtain ⟨d, e, el, i1, i2⟩ := i j a b hj e1 e2
  have l2 := R.le_new (o := .tup [a, b]) hT
  exact ⟨_, _, el, l2, R.new hT, .tup (xs := [a, b]) (by show upd g2.B T _ T = _; exact upd_same) (.cons ((i1.mono le).mono l2.b) (.cons ((i2.mono le).mono l2.b) .nil)) (by show 2 ≤ 100000; decide)⟩
theorem enm_len {l : List D} : (enm l).length = l.length := by unfold enm; rw [List.length_map, List.length_zipIdx]
theorem enm_get {l : List D} {j : Nat} {x : D} (h : l[j]? = some x) : (enm l)[j]? = some (.tup [.int (j : Nat), x]) := by
  unfold enm
  rw [List.getElem?_map, List.getElem?_zipIdx, h]
  simp
theorem seqI_is {B : Hp} {v : V} {x : D} {k : List D → Prop} (i : Is K B v x) (q : seqI k x) : ∃ p xs l, v = .ref p ∧ (B p = some (.lst xs) ∨ B p = some (.tup xs)) ∧ Iss K B xs l ∧ xs.length ≤ 100000 ∧ k l := by
  cases i with
  | lst h a z => exact ⟨_, _, _, rfl, .inl h, a, z, q⟩
  | tup h a z => exact ⟨_, _, _, rfl, .inr h, a, z, q⟩
  | _ => exact q.elim
theorem sq_of {B H : Hp} {p : Addr} {xs : List V} (s : Same B H) (h : B p = some (.lst xs) ∨ B p = some (.tup xs)) : Sq K H p xs := by
  rcases h with h | h
  · exact .inl (SqL.of (s _ _ h))
  · exact .inr (SqT.of (s _ _ h))
end
section
variable {X : Cx} {W : WX} {tg e e2 : Expr} {p pos tpos : Pos} {elts : List Expr} {kk : Nat}
theorem qi_seq {d} (h : QE X W e d) : QI X W tg e (iSeqD d) := (pi_seq h).mono fun σ H R ⟨g, env, Ed, Ld, Rp, h, kv, kx⟩ => by
  refine lift.useD Rp h (fun v x H1 g1 l1 R1 i1 q => ?_) kx
  obtain ⟨a, xs, l, rfl, hp, ip, zp, q⟩ := seqI_is i1 q
  refine ⟨a, rfl, (sq_of (K := X.K) (Same.rfl' (H := g1.B)) hp).walk R1.ok.sb fun J Gd w g1' _ => kv J l H1 g1 l1 R1 (runs_at w (fun H' s => g1' H' s) ip zp) q⟩
theorem qi_enum {d} (hg : Gl X "enumerate") (hm : X.mg "enumerate" = none) (h : QE X W e d) (hs : starEach [e] X.env = [(false, eval e X.env)] := by rfl) :
    QI X W (.Tuple elts kk tpos) (.Call (.Name "enumerate" p) [e] [] pos) (iEnumD d) := (pi_enumS hg hm (pa_cons h pa_nil hs) hs).mono fun σ H R ⟨g, env, Ed, Ld, Rp, h, kv, kx⟩ => by
  refine lift.useD Rp h (fun v x H1 g1 l1 R1 i1 q => ?_) kx
  obtain ⟨a, xs, l, rfl, hp, ip, zp, q⟩ := seqI_is i1 q
  have hl := ip.length
  refine ⟨a, rfl, (sq_of (K := X.K) (Same.rfl' (H := g1.B)) hp).enum R1.ok.sb fun J Gd w g1' _ => kv J (enm l) H1 g1 l1 R1 (runs_pair (n := 0) (by rw [enm_len, ← hl]; exact w) (fun H' s => g1' H' s) (by rw [enm_len]; omega) fun j y z hj h1 h2 => ?_) q⟩
  cases h1
  obtain ⟨d', ed, id⟩ := ip.get h2
  exact ⟨.int (j : Nat), d', enm_get ed, .int _, id⟩
theorem qi_range1 {d} (hg : Gl X "range") (hm : X.mg "range" = none) (h : QE X W e d) (hs : starEach [e] X.env = [(false, eval e X.env)] := by rfl) :
    QI X W tg (.Call (.Name "range" p) [e] [] pos) (iRng1D d) := (pi_range1 hg hm (pa_cons h pa_nil hs) hs).mono fun σ H R ⟨g, env, Ed, Ld, Rp, h, kv, kx⟩ => by
  refine lift.useD Rp h (fun v x H1 g1 l1 R1 i1 q => ?_) kx
  cases x with
  | int n =>
    obtain ⟨b, q⟩ := q
    exact ⟨n, by rw [i1.intE], by omega, by omega, kv _ _ H1 g1 l1 R1 (runs_fn walk_range (fun _ _ => trivial) (fun _ _ => .int _) (by omega)) q⟩
  | _ => exact q.elim
theorem qi_range2 {d d2} (hg : Gl X "range") (hm : X.mg "range" = none) (h : QE X W e d) (h2 : QE X W e2 d2) (hs : starEach [e, e2] X.env = [(false, eval e X.env), (false, eval e2 X.env)] := by rfl) (hs2 : starEach [e2] X.env = [(false, eval e2 X.env)] := by rfl) :
    QI X W tg (.Call (.Name "range" p) [e, e2] [] pos) (iRng2D d d2) := (pi_range2 hg hm (pa_cons h (pa_cons h2 pa_nil hs2) (by rw [hs2]; exact hs)) hs hs2).mono fun σ H R ⟨g, env, Ed, Ld, Rp, h, kv, kx⟩ => by
  refine lift.useD Rp h (fun v x H1 g1 l1 R1 i1 q => lift.useD R1 q (fun u y H2 g2 l2 R2 i2 q => ?_) (kx.mono l1)) kx
  cases x with
  | int a => cases y with
    | int b =>
      obtain ⟨c, q⟩ := q
      exact ⟨a, b, by rw [i1.intE, i2.intE], ⟨by omega, by omega, by omega, by omega⟩, kv _ _ H2 g2 (l1.trans l2) R2 (runs_fn walk_range (fun _ _ => trivial) (fun _ _ => .int _) (by omega)) q⟩
    | _ => exact q.elim
  | _ => cases y <;> exact q.elim
theorem qi_zip {d d2} (hg : Gl X "zip") (hm : X.mg "zip" = none) (h : QE X W e d) (h2 : QE X W e2 d2) (hs : starEach [e, e2] X.env = (false, eval e X.env) :: starEach [e2] X.env := by rfl) (hpl : (backTo pos (starEach [e2] X.env)).any (·.1) = false := by rfl) (hs2 : starEach [e2] X.env = (false, eval e2 X.env) :: starEach [] X.env := by rfl) :
    QI X W (.Tuple elts kk tpos) (.Call (.Name "zip" p) [e, e2] [] pos) (iZipD d d2) := (RZ.pi_zipA hg hm (pa_cons h (pa_cons h2 pa_nil hs2) hs) hs hpl).mono fun σ H R ⟨g, env, Ed, Ld, Rp, h, kv, kx⟩ => by
  refine lift.useD Rp h (fun v x H1 g1 l1 R1 i1 q => lift.useD R1 q (fun u y H2 g2 l2 R2 i2 q => ?_) (kx.mono l1)) kx
  have sb := R2.ok.sb
  have prs : ∀ {xs ys : List V} {a b : List D}, Iss X.K g2.B xs a → Iss X.K g2.B ys b → ∀ j x y, j < (zipD a b).length → xs[j]? = some x → ys[j]? = some y → ∃ d e, (zipD a b)[j]? = some (.tup [d, e]) ∧ Is X.K g2.B x d ∧ Is X.K g2.B y e := fun i1 i2 j x y _ e1 e2 => by
    obtain ⟨d, ed, id⟩ := i1.get e1
    obtain ⟨e, ee, ie⟩ := i2.get e2
    exact ⟨d, e, by unfold zipD; rw [List.getElem?_zipWith, ed, ee], id, ie⟩
  cases x with
  | lst a => cases y with
    | lst b =>
      obtain ⟨p1, xs, rfl, h1, j1, z1⟩ := (i1.mono l2.b).lstE
      obtain ⟨p2, ys, rfl, h2, j2, z2⟩ := i2.lstE
      have n1 := j1.length
      have n2 := j2.length
      refine ⟨p1, p2, xs, ys, rfl, .inl ⟨SqL.of (sb _ _ h1), SqL.of (sb _ _ h2), kv _ _ H2 g2 (l1.trans l2) R2 (runs_pair (n := 0) (walk_zip (by unfold zipD; rw [List.length_zipWith, n1, n2])) (fun H' s => ⟨SqL.of (s _ _ h1), SqL.of (s _ _ h2)⟩) (by unfold zipD; rw [List.length_zipWith]; omega) (prs j1 j2)) q⟩⟩
    | _ => exact q.elim
  | tup a => cases y with
    | tup b =>
      obtain ⟨p1, xs, rfl, h1, j1, z1⟩ := (i1.mono l2.b).tupE
      obtain ⟨p2, ys, rfl, h2, j2, z2⟩ := i2.tupE
      have n1 := j1.length
      have n2 := j2.length
      have wz : Walk (RZ.ItzT X.K p1 p2) (zipD a b).length (fun H => SqT X.K H p1 xs ∧ SqT X.K H p2 ys) (YPair (fun i => xs[i]?) (fun i => ys[i]?)) := by
        unfold zipD
        rw [List.length_zipWith]
        refine ⟨fun i _ hi q => ?_, fun _ q => ⟨xs, ys, q.1, q.2, by omega⟩, fun i H v H' _ q y => ?_⟩
        · have h1 : i < xs.length := by omega
          have h2 : i < ys.length := by omega
          exact ⟨xs, ys, xs[i], ys[i], q.1, q.2, by simp [h1], by simp [h2]⟩
        · obtain ⟨T, x, z, h1, h2, h3, h4, h5⟩ := y
          exact ⟨T, x, z, h1, h2, h3, h4 xs q.1, h5 ys q.2⟩
      refine ⟨p1, p2, xs, ys, rfl, .inr ⟨SqT.of (sb _ _ h1), SqT.of (sb _ _ h2), kv _ _ H2 g2 (l1.trans l2) R2 (runs_pair (n := 0) wz (fun H' s => ⟨SqT.of (s _ _ h1), SqT.of (s _ _ h2)⟩) (by unfold zipD; rw [List.length_zipWith]; omega) (prs j1 j2)) q⟩⟩
    | _ => exact q.elim
  | _ => cases y <;> exact q.elim
theorem qi_str {d} (h : QE X W e d) : QI X W tg e (iStrD d) := (pi_str h).mono fun σ H R ⟨g, env, Ed, Ld, Rp, h, kv, kx⟩ => by
  refine lift.useD Rp h (fun v x H1 g1 l1 R1 i1 q => ?_) kx
  cases x with
  | str z =>
    obtain ⟨hz, q⟩ := q
    have hl : (ltrs z).length = z.cps.size := by unfold ltrs; rw [List.length_map, Array.length_toList]
    refine ⟨z, i1.strE, kv _ _ H1 g1 l1 R1 ⟨by rw [hl]; exact hz, _, _, by rw [hl]; exact walk_str, fun _ _ _ _ _ _ => trivial, fun j H v H' hj y g2 σ env le R => ?_⟩ q⟩
    obtain ⟨rfl, c, e, rfl⟩ := y
    refine ⟨g2, _, ?_, .rfl, R, .str _⟩
    unfold ltrs
    rw [List.getElem?_map, Array.getElem?_toList, e]; rfl
  | _ => exact q.elim
end
/-! ## comprehensions -/
def wipeE (env : List Ev) : List Nat → List Ev
  | [] => env
  | v :: vs => sth (wipeE env vs) v .any
def ownFree (env : List Ev) : List Nat → Bool
  | [] => true
  | v :: vs => !isOwn (nth env v) && ownFree env vs
theorem ownFree_at {env vs} (h : ownFree env vs = true) : ∀ v ∈ vs, isOwn (nth env v) = false := by
  induction vs with
  | nil => intro v h; cases h
  | cons u r ih =>
    unfold ownFree at h
    rw [Bool.and_eq_true] at h
    intro v hv
    rcases List.mem_cons.mp hv with rfl | hv
    · simpa using h.1
    · exact ih h.2 v hv
def WF : WX := fun _ _ _ _ => False
section
variable {K : PySem.W.Frag} {g g' : G} {σ σ' : L2.St} {H H' : Hp} {env env' : List Ev} {vs : List Nat}
theorem Rep.setN (r : Rep K g σ H env) (i : Nat) : Rep K (g.setF i []) (σ.set i none) H (sth env i .any) := r.dropS i List.length_set fun j n => get_set_ne n
theorem Rep.wipe (r : Rep K g σ H env) : ∀ vs, ∃ g', G.Le g g' ∧ g'.B = g.B ∧ Rep K g' (L2.wipe σ vs) H (wipeE env vs)
  | [] => ⟨g, .rfl, rfl, r⟩
  | v :: vs =>
    let ⟨_, l, e, R⟩ := r.wipe vs
    ⟨_, l.trans G.setF_le, e, R.setN v⟩
theorem wipe_get : ∀ {vs : List Nat} {j : Nat}, j ∉ vs → (L2.wipe σ vs)[j]? = σ[j]?
  | [], _, _ => rfl
  | v :: vs, j, h => by
    show ((L2.wipe σ vs).set v none)[j]? = _
    rw [get_set_ne (fun e => h (by rw [e]; exact List.mem_cons_self)), wipe_get fun z => h (List.mem_cons_of_mem _ z)]
theorem wipeE_get : ∀ {vs : List Nat} {j : Nat}, j ∉ vs → nth (wipeE env vs) j = nth env j
  | [], _, _ => rfl
  | v :: vs, j, h => by
    show nth (sth (wipeE env vs) v .any) j = _
    rw [nth_sth_ne (fun e => h (by rw [e]; exact List.mem_cons_self)), wipeE_get fun z => h (List.mem_cons_of_mem _ z)]
theorem wipe_in : ∀ {vs : List Nat} {j : Nat}, j ∈ vs → j < σ.length → (L2.wipe σ vs)[j]? = some none
  | v :: vs, j, h, hl => by
    show ((L2.wipe σ vs).set v none)[j]? = _
    by_cases e : j = v
    · subst e; exact get_set_eq (by rw [wipe_length]; exact hl)
    · rw [get_set_ne e]
      exact wipe_in ((List.mem_cons.mp h).resolve_left e) hl
theorem wipe_only (o : Only vs (L2.wipe σ vs) (wipeE env vs) σ' env') : L2.wipe σ' vs = L2.wipe σ vs := by
  have hl := o.ln
  rw [wipe_length] at hl
  refine List.ext_getElem? fun j => ?_
  by_cases h : j ∈ vs
  · rcases Nat.lt_or_ge j σ.length with z | z
    · rw [wipe_in h z, wipe_in h (by omega)]
    · rw [List.getElem?_eq_none (by rw [wipe_length]; omega), List.getElem?_eq_none (by rw [wipe_length]; omega)]
  · rw [wipe_get h, (o.at_ j h).1]
/-- out of a comprehension's turn -/
theorem Sl.monoN {q e fs gs} (le : G.Le g g') (n : isOwn e = false) (s : Sl K g H q fs e) : Sl K g' H' q gs e := by
  cases e with
  | any => trivial
  | d x => obtain ⟨v, e, h⟩ := s; exact ⟨v, e, h.mono le.b⟩
  | own l b => cases n
  | pool => obtain ⟨p, e, h⟩ := s; exact ⟨p, e, le.m _ h⟩
  | scr ns => obtain ⟨a, e, h⟩ := s; exact ⟨a, e, by rw [le.h0, le.m0, le.xa]; exact h⟩
  | err a dd fs => exact ⟨s.1, fun d h => le.b _ _ (s.2 d h)⟩
  | raw v => exact s
open Classical in
theorem Rep.unwipe (r0 : Rep K g σ H env) (le : G.Le g g') (r : Rep K g' σ' H' env') (o : Only vs (L2.wipe σ vs) (wipeE env vs) σ' env') (ow : ownFree env vs = true) : ∃ F', Rep K { g' with F := F' } σ H' env ∧ ∀ j a, a ∈ F' j → a ∈ g'.F j := by
  have l2 : G.Le g' { g' with F := fun j => if j ∈ vs then [] else g'.F j } := ⟨rfl, rfl, fun _ h => h, Same.rfl', rfl, rfl, rfl⟩
  have fin : ∀ {j}, j ∈ vs → (fun j => if j ∈ vs then [] else g'.F j) j = [] := fun {j} h => if_pos h
  have fout : ∀ {j}, j ∉ vs → (fun j => if j ∈ vs then [] else g'.F j) j = g'.F j := fun {j} h => if_neg h
  have sub : ∀ {j a}, a ∈ (fun j => if j ∈ vs then [] else g'.F j) j → a ∈ g'.F j := fun {j a} m => by
    by_cases h : j ∈ vs
    · rw [fin h] at m; cases m
    · rwa [fout h] at m
  have eqv : ∀ {j}, j ∉ vs → nth env' j = nth env j := fun {j} h => by
    rw [(o.at_ j h).2, wipeE_get h]
  refine ⟨fun j => if j ∈ vs then [] else g'.F j, ⟨⟨r.ok.sb, r.ok.pl, r.ok.im, r.ok.fr, r.ok.nw, r.ok.pv, r.ok.m0, r.ok.bn, r.ok.xp⟩, r0.ln, fun j => ?_, fun j hj => ?_, fun i j a n hi hj => r.di i j a n (sub hi) (sub hj)⟩, fun j a h => sub h⟩
  · by_cases h : j ∈ vs
    · exact (r0.sl j).monoN (le.trans l2) (ownFree_at ow j h)
    · have s := r.sl j
      rw [(o.at_ j h).1, eqv h, wipe_get h] at s
      show Sl K _ H' σ[j]? ((fun j => if j ∈ vs then [] else g'.F j) j) (nth env j)
      rw [fout h]
      exact s.mono l2 fun b v o a => a.keep (g' := { g' with F := fun j => if j ∈ vs then [] else g'.F j }) rfl Same.rfl' (fun _ _ => rfl) fun p m q => ⟨q.nb, q.nm, q.n0, q.np⟩
  · show (fun j => if j ∈ vs then [] else g'.F j) j = []
    by_cases h : j ∈ vs
    · exact fin h
    · rw [fout h]; exact r.nf j (by rw [eqv h]; exact hj)
/-- cells under way are set aside -/
def G.side (g : G) (H : Hp) (fs : List Addr) : G := { g with P := frzB g.P H fs }
def G.back (g : G) (P : Hp) : G := { g with P := P }
theorem Rep.side {b v o fs} (r : Rep K g σ H env) (a : OwnAt K g H b v o fs) (ns : Off g fs) : Rep K (g.side H fs) σ H env := by
  refine ⟨⟨r.ok.sb, r.ok.pl, r.ok.im, r.ok.fr, r.ok.nw, fun c u e => ?_, r.ok.m0, r.ok.bn, r.ok.xp⟩, r.ln, fun i => ?_, r.nf, r.di⟩
  · have e : frzB g.P H fs c = some u := e
    by_cases m : c ∈ fs
    · rw [frzB_in m] at e; exact ⟨e, (a.pv c m).nb, (a.pv c m).nm⟩
    · rw [frzB_out m] at e; exact r.ok.pv c u e
  · have s := r.sl i
    cases e : nth env i with
    | own o' b' =>
      rw [e] at s
      obtain ⟨v, e1, a'⟩ := s
      refine ⟨v, e1, a'.is_, a'.nd, fun p m => ?_, a'.pin⟩
      have q := a'.pv p m
      refine ⟨q.nb, q.nm, q.n0, ?_⟩
      show frzB g.P H fs p = none
      rw [frzB_out fun h => ns i p h m]; exact q.np
    | any => trivial
    | d x => rw [e] at s; exact s
    | pool => rw [e] at s; exact s
    | scr ns => rw [e] at s; exact s
    | err ea dd fs => rw [e] at s; exact s
    | raw v => rw [e] at s; exact s
/-- .. and taken back -/
theorem Rep.back {b v o fs} (a : OwnAt K g H b v o fs) (le : G.Le (g.side H fs) g') (r : Rep K g' σ' H' env') :
    Rep K (g'.back g.P) σ' H' env' ∧ OwnAt K (g'.back g.P) H' b v o fs ∧ Off (g'.back g.P) fs ∧ G.Le g (g'.back g.P) ∧ (∀ p ∈ fs, H' p = H p) ∧ (∀ b' v' o' fs', OwnAt K g' H' b' v' o' fs' → OwnAt K (g'.back g.P) H' b' v' o' fs' ∧ ∀ p ∈ fs', p ∉ fs) ∧ ∀ b' p, Priv g' b' p → Priv (g'.back g.P) b' p ∧ p ∉ fs := by
  have hP : g'.P = frzB g.P H fs := le.p
  have cell : ∀ p ∈ fs, H' p = H p ∧ g'.B p = none ∧ ¬ g'.M p := fun p m => by
    obtain ⟨u, hu⟩ := a.ex p m
    obtain ⟨h1, h2, h3⟩ := r.ok.pv p u (by rw [hP, frzB_in m]; exact hu)
    exact ⟨h1.trans hu.symm, h2, h3⟩
  have outP : ∀ {p}, g'.P p = none → p ∉ fs := fun {p} e m => by
    obtain ⟨u, hu⟩ := a.ex p m
    rw [hP, frzB_in m, hu] at e; cases e
  have l2 : G.Le g (g'.back g.P) := ⟨le.h0, le.m0, le.m, le.b, rfl, le.b0, le.x⟩
  refine ⟨⟨⟨r.ok.sb, r.ok.pl, r.ok.im, r.ok.fr, r.ok.nw, fun c u e => ?_, r.ok.m0, r.ok.bn, r.ok.xp⟩, r.ln, fun i => ?_, r.nf, r.di⟩, ⟨a.is_.mono l2.b fun p m => (cell p m).1, a.nd, fun p m => ⟨(cell p m).2.1, (cell p m).2.2, ?_, (a.pv p m).np⟩, fun u e => by rw [l2.x]; exact a.pin u e⟩, fun i p m h => ?_, l2, fun p m => (cell p m).1, fun b' v' o' fs' a' => ⟨⟨a'.is_, a'.nd, fun p m => ?_, a'.pin⟩, fun p m => outP (a'.pv p m).np⟩, fun b' p q => ⟨⟨q.nb, q.nm, q.n0, ?_⟩, outP q.np⟩⟩
  rotate_right
  · have := q.np
    rw [hP, frzB_out (outP q.np)] at this; exact this
  rotate_right
  · have q := a'.pv p m
    refine ⟨q.nb, q.nm, q.n0, ?_⟩
    have := q.np
    rw [hP, frzB_out (outP q.np)] at this; exact this
  · have e : g.P c = some u := e
    have n : c ∉ fs := fun m => by rw [(a.pv c m).np] at e; cases e
    exact r.ok.pv c u (by rw [hP, frzB_out n]; exact e)
  · have s := r.sl i
    cases e : nth env' i with
    | own o' b' =>
      rw [e] at s
      obtain ⟨v, e1, a'⟩ := s
      refine ⟨v, e1, a'.is_, a'.nd, fun p m => ?_, a'.pin⟩
      have q := a'.pv p m
      refine ⟨q.nb, q.nm, q.n0, ?_⟩
      have := q.np
      rw [hP, frzB_out (outP q.np)] at this; exact this
    | any => trivial
    | d x => rw [e] at s; exact s
    | pool => rw [e] at s; exact s
    | scr ns => rw [e] at s; exact s
    | err ea dd fs => rw [e] at s; exact s
    | raw v => rw [e] at s; exact s
  · have q := (a.pv p m).n0
    rcases q with q | q
    · exact .inl ((congrFun l2.h0 p).trans q)
    · exact .inr ⟨q.1, by rw [l2.xa]; exact q.2⟩
  · obtain ⟨v', o', b', _, _, a'⟩ := r.ownC h
    exact outP (a'.pv p h).np m
end
/-- how an element is taken up: as data, or as something one owns -/
def TakeUp (K : PySem.W.Frag) {β : Type} (cv : (β → Prop) → Ar → Prop) (e : β → Ow) : Prop := ∀ {g : G} {σ : L2.St} {H : Hp} {env : List Ev} {v : V} {r : Ar} {k : β → Prop}, Rep K g σ H env → IsR K g H v r → cv k r →
  ∃ y fs g', G.Le g g' ∧ Rep K g' σ H env ∧ OwnAt K g' H none v (e y) fs ∧ Off g' fs ∧ k y
theorem OwnAt.da {K : PySem.W.Frag} {g : G} {H : Hp} {v x} (i : Is K g.B v x) : OwnAt K g H none v (.da x) [] := ⟨.da i, .nil, (fun _ m => nomatch m), fun _ h => by cases h⟩
theorem Off.nil {g : G} : Off g [] := fun _ _ m => nomatch m
theorem up_d {K : PySem.W.Frag} : TakeUp K asD Ow.da := fun {g σ H env v r k} R i q => by
  obtain ⟨x, g', l, R', ix, q⟩ := i.asD R q
  exact ⟨_, [], g', l, R', .da ix, .nil, q⟩
section
variable {K : PySem.W.Frag} {B H : Hp}
theorem OwIss.toD : ∀ {l : List D} {vs gs}, OwIss K B H vs (l.map .da) gs → gs = [] ∧ Iss K B vs l
  | [], _, _, h => by
    cases h; exact ⟨rfl, .nil⟩
  | x :: l, _, _, h => by
    cases h with
    | cons a r =>
      cases a with
      | da i =>
        obtain ⟨rfl, t⟩ := OwIss.toD r
        exact ⟨rfl, .cons i t⟩
theorem OwIs.toLs {l : List D} {v fs} (h : OwIs K B H v (.tr (l.map .da)) fs) : OwIs K B H v (.ls l) fs := by
  obtain ⟨p, vs, gs, rfl, rfl, hp, a, z⟩ := h.trE
  obtain ⟨rfl, i⟩ := a.toD
  exact .l hp i z
theorem OwIs.toTr {l : List D} {v fs} (h : OwIs K B H v (.ls l) fs) : OwIs K B H v (.tr (l.map .da)) fs := by
  obtain ⟨p, xs, rfl, rfl, hp, i, z⟩ := h.lE
  exact .tr hp (.ofD i) z
end
/-- one more item of a list one owns -/
theorem OwnAt.app {K : PySem.W.Frag} {g : G} {H : Hp} {D : Addr} {xs : List V} {acc : List Ow} {gs fs : List Addr} {v : V} {o : Ow} {b b' : Option Nat} (a : OwnAt K g H b (.ref D) (.tr acc) (D :: gs)) (hD : H D = some (.lst xs)) (q : OwnAt K g H b' v o fs) (hb : b'.isSome = true → b.isSome = true) (dj : ∀ p ∈ fs, p ∉ D :: gs) (z : xs.length + 1 ≤ 100000) :
    OwnAt K g (upd H D (.lst (xs ++ [v]))) b (.ref D) (.tr (acc ++ [o])) (D :: (gs ++ fs)) := by
  obtain ⟨p, vs, gs', e1, e2, hp, ai, _⟩ := a.is_.trE
  cases e1; cases e2
  rw [hD] at hp; cases hp
  have nd := List.nodup_cons.mp a.nd
  have nDg : ∀ p ∈ gs, p ≠ D := fun p m e => nd.1 (e ▸ m)
  have nDf : ∀ p ∈ fs, p ≠ D := fun p m e => dj p m (by rw [e]; exact List.mem_cons_self)
  refine ⟨.tr upd_same ((ai.mono Same.rfl' fun p m => upd_ne (nDg p m)).append ?_) (by rw [List.length_append]; exact z), ?_, fun p m => ?_, a.pin⟩
  · have := OwIss.cons (q.is_.mono (H' := upd H D (.lst (xs ++ [v]))) Same.rfl' fun p m => upd_ne (nDf p m)) .nil
    rwa [List.append_nil] at this
  · refine List.nodup_cons.mpr ⟨fun m => ?_, List.nodup_append.mpr ⟨nd.2, q.nd, fun x m y m2 e => dj y m2 (by rw [← e]; exact List.mem_cons_of_mem _ m)⟩⟩
    rcases List.mem_append.mp m with m | m
    · exact nd.1 m
    · exact nDf D m rfl
  · rcases List.mem_cons.mp m with rfl | m
    · exact a.pv _ List.mem_cons_self
    · rcases List.mem_append.mp m with m | m
      · exact a.pv p (List.mem_cons_of_mem _ m)
      · have := q.pv p m
        exact ⟨this.nb, this.nm, this.n0.elim .inl fun h => .inr ⟨hb h.1, h.2⟩, this.np⟩
/-- cells that no slot holds change -/
theorem Rep.ownR {K : PySem.W.Frag} {g : G} {σ : L2.St} {H : Hp} {env : List Ev} {p : Addr} {ys : HO} {b : Option Nat} (r : Rep K g σ H env) (a : Priv g b p) (hp : ∃ u, H p = some u) (ns : ∀ i, p ∉ g.F i) (ni : ¬ Imm ys) : Rep K g σ (upd H p ys) env :=
  r.move (r.ok.own a ni hp) .rfl rfl fun i c m => ⟨fun b q => q, upd_ne fun e => ns i (e ▸ m)⟩
def dLcG {β : Type} (cv : (β → Prop) → Ar → Prop) (out : List β → Ow) (vs : List Nat) (it : DI) (b : DG) (dt : DT) (de : DE) : DE := fun env Ed Q => ownFree env vs = true ∧ it env Ed fun l => ∃ I : Nat → List β → Prop, I 0 [] ∧
  (∀ i x acc, l[i]? = some x → I i acc → onS (b x (wipeE env vs)) fun e2 => dt e2 (fun _ => False) fun c => (c = true → de e2 (fun _ => False) (cv fun y => I (i + 1) (acc ++ [y]))) ∧ (c = false → I (i + 1) acc)) ∧
  ∀ acc, I l.length acc → Q (.fr (out acc))
def dLc (vs : List Nat) (it : DI) (b : DG) (dt : DT) (de : DE) : DE := dLcG asD Ow.ls vs it b dt de
section
variable {K : PySem.W.Frag} {W : WX} {σ : L2.St} {H : Hp} {Q : VK} {β : Type} {cv : (β → Prop) → Ar → Prop} {e : β → Ow} {out : List β → Ow}
theorem lift_lcG {vs : List Nat} {it : DI} {b : DG} {dt : DT} {de : DE} (up : TakeUp K cv e) (ho : ∀ {B H v fs} {acc : List β}, OwIs K B H v (.tr (acc.map e)) fs → OwIs K B H v (out acc) fs) (h : lift K W (dLcG cv out vs it b dt de) σ H Q) : tLc (liftI K W it) (liftG K vs b) (liftT K WF dt) (lift K WF de) vs σ H Q := by
  obtain ⟨g, env, Ed, Qd, R, ⟨ow, h⟩, kv, kx⟩ := h
  refine ⟨g, env, Ed, _, R, h, fun J l H1 g1 l1 R1 rn ⟨I, I0, step, fin⟩ => ?_, kx⟩
  intro D hD
  obtain ⟨zl, Gd, Y, w, hgd, hy⟩ := rn
  have kx0 : ∀ {g σ env}, KX K WF g σ env (fun _ => False) := fun _ _ _ _ _ _ _ _ z => z.elim
  refine lc_it w (fun i H' => ∃ g' acc xs gs, G.Le g1 g' ∧ Rep K g' σ H' env ∧ H' D = some (.lst xs) ∧ OwnAt K g' H' none (.ref D) (.tr (acc.map e)) (D :: gs) ∧ xs.length ≤ i ∧ Off g' (D :: gs) ∧ I i acc) ?_ (fun i H' hi ⟨g', acc, xs, gs, l2, R2, _⟩ => hgd g' _ _ H' l2.b R2) ?_ ?_
  · obtain ⟨R2, ow, ns⟩ := upd_ls (xs := []) (l := []) R1 hD .nil (by decide)
    exact ⟨g1, [], [], [], .rfl, R2, upd_same, ⟨ow.is_.toTr, ow.nd, ow.pv, ow.pin⟩, Nat.zero_le _, ns, I0⟩
  · rintro i x H2 H3 hi ⟨g2, acc, xs, gs, l2, R2, hxs, o2, zl2, ns2, Ii⟩ y
    have S2 := R2.side o2 ns2
    obtain ⟨g3, dx, el, l3, S3, ix⟩ := hy i H2 x H3 hi y (g2.side H2 (D :: gs)) σ env l2.b S2
    obtain ⟨e2, eb, st⟩ := onS_some (step i dx acc el Ii)
    obtain ⟨g4, l4, eB, S4⟩ := S3.wipe vs
    refine ⟨g4, wipeE env vs, dx, e2, S4, by rw [eB]; exact ix, eb, fun σ2 g5 l5 R5 o => ⟨wipe_only o, g5, e2, fun _ => False, _, R5, st, fun c H4 g6 l6 R6 ⟨q1, q2⟩ => ?_, kx0⟩⟩
    cases c with
    | true =>
      rw [if_pos rfl]
      refine lift.use R6 (q1 rfl) (fun u r H5 g7 l7 R7 i7 q => ?_) kx0
      obtain ⟨yo, fs, g8, l8, R8, o8, ns8, Inext⟩ := up R7 i7 q
      have l38 := l4.trans (l5.trans (l6.trans (l7.trans l8)))
      obtain ⟨F', R9, sub⟩ := S3.unwipe l38 R8 o ow
      have l9 : G.Le g8 { g8 with F := F' } := ⟨rfl, rfl, fun _ h => h, Same.rfl', rfl, rfl, rfl⟩
      have o9 : OwnAt K { g8 with F := F' } H5 none u (e yo) fs := ⟨o8.is_, o8.nd, fun p m => ⟨(o8.pv p m).nb, (o8.pv p m).nm, (o8.pv p m).n0, (o8.pv p m).np⟩, o8.pin⟩
      obtain ⟨RA, oA, nsA, lA, hA, tr, _⟩ := Rep.back o2 (l3.trans (l38.trans l9)) R9
      obtain ⟨oB, djB⟩ := tr _ _ _ _ o9
      have hD5 : H5 D = some (.lst xs) := (hA D List.mem_cons_self).trans hxs
      have hb : xs.length + 1 ≤ 100000 := by omega
      refine ⟨xs, hD5, by rw [sizeLine_eq]; omega, _, acc ++ [yo], xs ++ [u], gs ++ fs, l2.trans lA, RA.ownR (oA.pv D List.mem_cons_self) ⟨_, hD5⟩ (fun i => nsA i D List.mem_cons_self) (fun h => h), upd_same, by rw [List.map_append]; exact oA.app hD5 oB (fun h => h) djB hb, by rw [List.length_append]; exact Nat.succ_le_succ zl2, fun i p m h => ?_, Inext⟩
      rcases List.mem_cons.mp m with rfl | m
      · exact nsA i _ List.mem_cons_self h
      · rcases List.mem_append.mp m with m | m
        · exact nsA i p (List.mem_cons_of_mem _ m) h
        · exact ns8 i p m (sub i p h)
    | false =>
      rw [if_neg (by decide)]
      have l36 := l4.trans (l5.trans l6)
      obtain ⟨F', R9, sub⟩ := S3.unwipe l36 R6 o ow
      have l9 : G.Le g6 { g6 with F := F' } := ⟨rfl, rfl, fun _ h => h, Same.rfl', rfl, rfl, rfl⟩
      obtain ⟨RA, oA, nsA, lA, hA, tr, _⟩ := Rep.back o2 (l3.trans (l36.trans l9)) R9
      exact ⟨_, acc, xs, gs, l2.trans lA, RA, (hA D List.mem_cons_self).trans hxs, oA, by omega, nsA, q2 rfl⟩
  · rintro H2 ⟨g2, acc, xs, gs, l2, R2, hxs, o2, zl2, ns2, Ii⟩
    exact kv _ (.fr (out acc)) H2 g2 (l1.trans l2) R2 ⟨_, ⟨ho o2.is_, o2.nd, o2.pv, o2.pin⟩, ns2⟩ (fin acc Ii)
theorem lift_lc {vs : List Nat} {it : DI} {b : DG} {dt : DT} {de : DE} (h : lift K W (dLc vs it b dt de) σ H Q) : tLc (liftI K W it) (liftG K vs b) (liftT K WF dt) (lift K WF de) vs σ H Q := lift_lcG up_d (fun h => h.toLs) h
end
/-! ### as a value -/
section
variable {X : Cx} {W : WX} {elt tg iter : Expr} {ifs : List Expr} {scope : Scope} {own : List (Str × Nat)} {pos : Pos}
def QTs (X : Cx) (W : WX) (es : List Expr) (d : DT) : Prop := PTs X es (liftT X.K W d)
def QPTs (X : Cx) (es : List Expr) (p : PF) : Prop := ∀ W, QTs X W es (dPT p)
theorem _root_.L2.PTs.mono {X es t t'} (h : PTs X es t) (m : ∀ σ H Q, t' σ H Q → t σ H Q) : PTs X es t' := ⟨fun pins s σ H Q I q => h.run pins s σ H Q I (m _ _ _ q)⟩
def dYes : DT := fun _ _ Q => Q true
theorem qts_nil : QTs X W [] dYes := pts_nil.mono fun σ H Q ⟨g, env, Ed, Qd, R, h, kv, kx⟩ => kv true H g .rfl R h
theorem qts_one {c d} (h : QT X W c d) : QTs X W [c] d := pts_one h
theorem qpts_nil : QPTs X [] (pc (.bl true)) := fun W => qts_nil.mono fun σ H Q h => h.imp fun env Ed Q ⟨b, e, q⟩ => by cases e; exact q
theorem qpts_one {c p} (h : QPT X c p) : QPTs X [c] p := fun W => pts_one (h W)
theorem qe_lc {it : DI} {b : DG} {dt : DT} {de : DE} (hc : X.calm = true) (hN : X.N.Nodup) (hi : QI X W tg iter it) (ok : BlkOk X.N X.env.scope scope own)
    (hg : ∀ (s : Shared) (H : Hp) (C : Addr) (cl : List (Str × Addr)) (fp : List Addr), QG (X.blk s H scope (compEnvC scope cl C X.env) fp) (own.map Prod.snd) tg b)
    (ht : ∀ (s : Shared) (H : Hp) (C : Addr) (cl : List (Str × Addr)) (fp : List Addr), QTs (X.blk s H scope (compEnvC scope cl C X.env) fp) WF ifs dt)
    (he : ∀ (s : Shared) (H : Hp) (C : Addr) (cl : List (Str × Addr)) (fp : List Addr), QE (X.blk s H scope (compEnvC scope cl C X.env) fp) WF elt de) (hs : ∀ x, foldedSetIterable iter X.env x = pure x := by intro _; rfl) :
    QE X W (.ListComp elt [⟨tg, iter, ifs, 0⟩] scope pos) (dLc (own.map Prod.snd) it b dt de) :=
  (pe_lc (g := liftG X.K (own.map Prod.snd) b) (tt := liftT X.K WF dt) (te := lift X.K WF de) hc hN hi ok hg ht he hs).mono fun _ _ _ h => lift_lc h
def pcol (f : D → Option (Option D)) : List D → Option (List D)
  | [] => some []
  | x :: l => match f x, pcol f l with
    | some none, some r => some r
    | some (some y), some r => some (y :: r)
    | _, _ => none
theorem pcol_cons {f x l r} (h : pcol f (x :: l) = some r) : ∃ o m, f x = some o ∧ pcol f l = some m ∧ r = o.toList ++ m := by
  unfold pcol at h
  split at h
  · rename_i e1 e2; cases h; exact ⟨_, _, e1, e2, rfl⟩
  · rename_i e1 e2; cases h; exact ⟨_, _, e1, e2, rfl⟩
  · cases h
/-- the comprehension's turn -/
def pturn (b : DG) (pt pe : PF) (env : List Ev) (x : D) : Option (Option D) := match b x env with
  | some e2 => match pt e2 with
    | some (.bl true) => match pe e2 with
      | some y => some (some y)
      | none => none
    | some (.bl false) => some none
    | _ => none
  | none => none
/-- an iteration whose items are known -/
structure DIp where
  di : DI
  p : List Ev → Option (List D)
  ok : ∀ env Ed Ld l, p env = some l → Ld l → di env Ed Ld
def plc (vs : List Nat) (it : List Ev → Option (List D)) (b : DG) (pt pe : PF) : PF := fun env => if ownFree env vs = true then match it env with
  | some l => match pcol (pturn b pt pe (wipeE env vs)) l with
    | some r => some (.lst r)
    | none => none
  | none => none
  else none
theorem pcol_app {f} : ∀ {l : List D} {r}, pcol f l = some r → ∀ i, ∃ a b, pcol f (l.take i) = some a ∧ pcol f (l.drop i) = some b ∧ r = a ++ b
  | [], _, h, i => by cases h; exact ⟨[], [], by simp [pcol], by simp [pcol], rfl⟩
  | x :: l, r, h, 0 => ⟨[], r, rfl, h, rfl⟩
  | x :: l, r, h, i + 1 => by
    obtain ⟨o, m, e1, e2, rfl⟩ := pcol_cons h
    obtain ⟨a, b, h1, h2, rfl⟩ := pcol_app e2 i
    refine ⟨o.toList ++ a, b, ?_, h2, by rw [List.append_assoc]⟩
    rw [List.take_succ_cons, pcol, e1, h1]
    cases o <;> rfl
theorem plc_dLc {vs : List Nat} {it : DIp} {b : DG} {pt pe : PF} {env Ed} {l : List D} {Q : Ar → Prop} (h : plc vs it.p b pt pe env = some (.lst l)) (q : Q (.fr (.ls l))) : dLc vs it.di b (dPT pt) (dP pe) env Ed Q := by
  unfold plc at h
  split at h
  · rename_i ow
    refine ⟨ow, ?_⟩
    split at h
    · rename_i its ei
      split at h
      · rename_i r er
        cases h
        refine it.ok env Ed _ _ ei ⟨fun i acc => pcol (pturn b pt pe (wipeE env vs)) (its.take i) = some acc, rfl, fun i x acc ex Ii => ?_, fun acc hI => ?_⟩
        · have Ii : pcol (pturn b pt pe (wipeE env vs)) (its.take i) = some acc := Ii
          obtain ⟨a, d, h1, h2, e3⟩ := pcol_app er i
          have hi := (List.getElem?_eq_some_iff.mp ex).1
          rw [List.drop_eq_getElem_cons hi, (List.getElem?_eq_some_iff.mp ex).2] at h2
          obtain ⟨o, m, e1, e2, _⟩ := pcol_cons h2
          have nxt : pcol (pturn b pt pe (wipeE env vs)) (its.take (i + 1)) = some (acc ++ o.toList) := by
            obtain ⟨a2, d2, h3, h4, e4⟩ := pcol_app er (i + 1)
            rw [h3]
            rw [h1] at Ii; cases Ii
            rw [e2] at h4; cases h4
            rw [e3] at e4
            have : d = o.toList ++ m := by
              obtain ⟨o', m', e1', e2', e5⟩ := pcol_cons h2
              rw [e1] at e1'; cases e1'; rw [e2] at e2'; cases e2'; exact e5
            rw [this, ← List.append_assoc] at e4
            exact congrArg some (List.append_cancel_right e4).symm
          unfold pturn at e1
          cases eb : b x (wipeE env vs) with
          | none => rw [eb] at e1; cases e1
          | some e2 =>
            rw [eb] at e1
            show dPT pt e2 (fun _ => False) _
            dsimp only at e1
            split at e1
            · rename_i ht
              split at e1
              · rename_i y hy
                cases e1
                exact ⟨true, ht, fun _ => ⟨y, hy, nxt⟩, fun z => by cases z⟩
              · cases e1
            · rename_i ht
              cases e1
              exact ⟨false, ht, fun z => (by cases z), fun _ => by simpa using nxt⟩
            · cases e1
        · have hI : pcol (pturn b pt pe (wipeE env vs)) (its.take its.length) = some acc := hI
          rw [List.take_length, er] at hI; cases hI; exact q
      · cases h
    · cases h
  · cases h
/-- a pure expression that gives a fresh list -/
def dF (p : PF) : DE := fun env _ Q => ∃ l, p env = some (.lst l) ∧ Q (.fr (.ls l))
theorem plc_lst {vs it b pt pe env z} (h : plc vs it b pt pe env = some z) : ∃ l, z = .lst l := by
  unfold plc at h
  split at h
  · split at h
    · split at h
      · cases h; exact ⟨_, rfl⟩
      · cases h
    · cases h
  · cases h
theorem lift_F {K : PySem.W.Frag} {p : PF} {σ : L2.St} {H : Hp} {Q : VK} (hl : ∀ env z, p env = some z → ∃ l, z = .lst l) (h : lift K W (dP p) σ H Q) : lift K W (dF p) σ H Q := by
  obtain ⟨g, env, Ed, Qd, R, ⟨z, e, q⟩, kv, kx⟩ := h
  obtain ⟨l, rfl⟩ := hl _ _ e
  exact ⟨g, env, Ed, fun r => r = .fr (.ls l), R, ⟨l, e, rfl⟩, lift_fr (H := H) (Ed := Ed) kv q, kx⟩
theorem qf_lc {it : DIp} {b : DG} {pt pe : PF} (hc : X.calm = true) (hN : X.N.Nodup) (hi : QI X W tg iter it.di) (ok : BlkOk X.N X.env.scope scope own)
    (hg : ∀ (s : Shared) (H : Hp) (C : Addr) (cl : List (Str × Addr)) (fp : List Addr), QG (X.blk s H scope (compEnvC scope cl C X.env) fp) (own.map Prod.snd) tg b)
    (ht : ∀ (s : Shared) (H : Hp) (C : Addr) (cl : List (Str × Addr)) (fp : List Addr), QPTs (X.blk s H scope (compEnvC scope cl C X.env) fp) ifs pt)
    (he : ∀ (s : Shared) (H : Hp) (C : Addr) (cl : List (Str × Addr)) (fp : List Addr), QP (X.blk s H scope (compEnvC scope cl C X.env) fp) elt pe) (hs : ∀ x, foldedSetIterable iter X.env x = pure x := by intro _; rfl) :
    QE X W (.ListComp elt [⟨tg, iter, ifs, 0⟩] scope pos) (dF (plc (own.map Prod.snd) it.p b pt pe)) :=
  (qe_lc hc hN hi ok hg (fun s H C cl fp => ht s H C cl fp WF) (fun s H C cl fp => he s H C cl fp WF) hs).mono fun _ _ _ h => h.imp fun env Ed Q ⟨l, e, q⟩ => plc_dLc e q
theorem qp_lc {it : DIp} {b : DG} {pt pe : PF} (hc : X.calm = true) (hN : X.N.Nodup) (hi : ∀ W, QI X W tg iter it.di) (ok : BlkOk X.N X.env.scope scope own)
    (hg : ∀ (s : Shared) (H : Hp) (C : Addr) (cl : List (Str × Addr)) (fp : List Addr), QG (X.blk s H scope (compEnvC scope cl C X.env) fp) (own.map Prod.snd) tg b)
    (ht : ∀ (s : Shared) (H : Hp) (C : Addr) (cl : List (Str × Addr)) (fp : List Addr), QPTs (X.blk s H scope (compEnvC scope cl C X.env) fp) ifs pt)
    (he : ∀ (s : Shared) (H : Hp) (C : Addr) (cl : List (Str × Addr)) (fp : List Addr), QP (X.blk s H scope (compEnvC scope cl C X.env) fp) elt pe) (hs : ∀ x, foldedSetIterable iter X.env x = pure x := by intro _; rfl) :
    QP X (.ListComp elt [⟨tg, iter, ifs, 0⟩] scope pos) (plc (own.map Prod.snd) it.p b pt pe) :=
  fun W => (qf_lc hc hN (hi W) ok hg ht he hs).mono fun _ _ _ h => lift_F (fun _ _ => plc_lst) h
end
/-! ### known items -/
def pseq (p : PF) : List Ev → Option (List D) := fun env => match p env with
  | some (.lst l) => some l
  | some (.tup l) => some l
  | _ => none
def ipSeq (p : PF) : DIp := ⟨iSeqD (dP p), pseq p, fun env Ed Ld l h q => by
  unfold pseq at h
  split at h
  · rename_i e; cases h; exact ⟨_, e, q⟩
  · rename_i e; cases h; exact ⟨_, e, q⟩
  · cases h⟩
def prng1 (p : PF) : List Ev → Option (List D) := fun env => match p env with
  | some (.int n) => if -100000 ≤ n ∧ n ≤ 100000 then some (rgD 0 n.toNat) else none
  | _ => none
def ipRng1 (p : PF) : DIp := ⟨iRng1D (dP p), prng1 p, fun env Ed Ld l h q => by
  unfold prng1 at h
  split at h
  · rename_i e
    split at h
    · rename_i b; cases h; exact ⟨_, e, b, q⟩
    · cases h
  · cases h⟩
def pstr (p : PF) : List Ev → Option (List D) := fun env => match p env with
  | some (.str z) => if z.cps.size ≤ 100000 then some (ltrs z) else none
  | _ => none
def ipStr (p : PF) : DIp := ⟨iStrD (dP p), pstr p, fun env Ed Ld l h q => by
  unfold pstr at h
  split at h
  · rename_i e1
    split at h
    · rename_i b; cases h; exact ⟨_, e1, b, q⟩
    · cases h
  · cases h⟩
end LR
set_option Elab.async false
set_option maxRecDepth 100000
set_option linter.all false
set_option maxHeartbeats 4000000
namespace LR
open PySem PySem.Spec PyProof.Rows L2
/-! # the data layer: statements -/
structure Dn where
  nx : List Ev → Prop
  rt : List Ev → Ar → Prop
  bk : List Ev → Prop := fun _ => False
  ct : List Ev → Prop := fun _ => False
  er : Er → List Ev → Prop := fun _ _ => False
abbrev DS := Dn → List Ev → Prop
structure Lk (K : PySem.W.Frag) (W : WX) (g : G) (D : Ends) (Dd : Dn) : Prop where
  nx : ∀ σ' H' g' env', G.Le g g' → Rep K g' σ' H' env' → Dd.nx env' → D.nx σ' H'
  bk : ∀ σ' H' g' env', G.Le g g' → Rep K g' σ' H' env' → Dd.bk env' → D.bk σ' H'
  ct : ∀ σ' H' g' env', G.Le g g' → Rep K g' σ' H' env' → Dd.ct env' → D.ct σ' H'
  rt : ∀ v r σ' H' g' env', G.Le g g' → Rep K g' σ' H' env' → IsR K g' H' v r → Dd.rt env' r → D.rt v H'
  er : ∀ e cls dd σ' H' g' env', G.Le g g' → Rep K g' σ' H' env' → IsEr g'.B cls dd e → Dd.er e env' → W cls dd σ' H'
def liftS (K : PySem.W.Frag) (W : WX) (ds : DS) : TS := fun D σ H => ∃ g env Dd, Rep K g σ H env ∧ ds Dd env ∧ Lk K W g D Dd
def QS (X : Cx) (W : WX) (st : Stmt) (ds : DS) : Prop := PS X st (liftS X.K W ds)
def QSs (X : Cx) (W : WX) (st : List Stmt) (ds : DS) : Prop := PSs X st (liftS X.K W ds)
theorem _root_.L2.PS.mono {X st t t'} (h : PS X st t) (m : ∀ D σ H, t' D σ H → t D σ H) : PS X st t' := ⟨fun pins s σ H D I q => h.run pins s σ H D I (m _ _ _ q)⟩
theorem _root_.L2.PSs.mono {X st t t'} (h : PSs X st t) (m : ∀ D σ H, t' D σ H → t D σ H) : PSs X st t' := ⟨fun pins s σ H D I q => h.run pins s σ H D I (m _ _ _ q)⟩
section
variable {K : PySem.W.Frag} {W : WX} {g g' : G} {D : Ends} {Dd : Dn} {σ : L2.St} {H : Hp} {env : List Ev}
theorem Lk.mono (l : Lk K W g D Dd) (le : G.Le g g') : Lk K W g' D Dd :=
  ⟨fun σ' H' g2 env' l2 => l.nx σ' H' g2 env' (le.trans l2), fun σ' H' g2 env' l2 => l.bk σ' H' g2 env' (le.trans l2), fun σ' H' g2 env' l2 => l.ct σ' H' g2 env' (le.trans l2),
    fun v r σ' H' g2 env' l2 => l.rt v r σ' H' g2 env' (le.trans l2), fun e cls dd σ' H' g2 env' l2 => l.er e cls dd σ' H' g2 env' (le.trans l2)⟩
theorem Lk.kx (l : Lk K W g D Dd) : KX K W g σ env (fun e => Dd.er e env) := fun e cls dd H' g' le R i q => l.er e cls dd σ H' g' env le R i q
theorem liftS.imp {d d' : DS} (m : ∀ Dd env, d' Dd env → d Dd env) (h : liftS K W d' D σ H) : liftS K W d D σ H :=
  let ⟨g, env, Dd, R, h, l⟩ := h; ⟨g, env, Dd, R, m _ _ h, l⟩
end
section
variable {X : Cx} {W : WX} {st : Stmt} {rest sts : List Stmt} {pos : Pos} {e : Expr} {i : Nat}
def dNext : DS := fun Dd env => Dd.nx env
def dSeq (a b : DS) : DS := fun Dd env => a { Dd with nx := b Dd } env
theorem qss_nil : QSs X W [] dNext := pss_nil.mono fun D σ H ⟨g, env, Dd, R, h, l⟩ => l.nx _ _ _ _ .rfl R h
theorem qss_cons {a b} (h : QS X W st a) (t : QSs X W rest b) : QSs X W (st :: rest) (dSeq a b) := (pss_cons h t).mono fun D σ H ⟨g, env, Dd, R, h, l⟩ =>
  ⟨g, env, { Dd with nx := b Dd }, R, h, ⟨fun σ' H' g' env' le R' q => ⟨g', env', Dd, R', q, l.mono le⟩, l.bk, l.ct, l.rt, l.er⟩⟩
theorem qss_one {a} (h : QS X W st a) : QSs X W [st] a := pss_one h
def dBreak : DS := fun Dd env => Dd.bk env
theorem qs_break {pos} : QS X W (.Break pos) dBreak := ps_break.mono fun D σ H ⟨g, env, Dd, R, h, l⟩ => l.bk _ _ _ _ .rfl R h
/-- a list of the def's own is data from here on -/
def dFz (is : List Nat) (s : DS) : DS := fun Dd env => s Dd (is.foldl fz env)
theorem Rep.frzs {K : PySem.W.Frag} {g : G} {σ : L2.St} {H : Hp} {env : List Ev} (R : Rep K g σ H env) (is : List Nat) : ∃ g', G.Le g g' ∧ Rep K g' σ H (is.foldl fz env) := by
  induction is generalizing g env with
  | nil => exact ⟨g, .rfl, R⟩
  | cons i r ih =>
    obtain ⟨g1, l1, R1⟩ := R.frz i
    obtain ⟨g2, l2, R2⟩ := ih R1
    exact ⟨g2, l1.trans l2, R2⟩
theorem qss_fz {a} (is : List Nat) (h : QSs X W sts a) : QSs X W sts (dFz is a) := PSs.mono h fun D σ H ⟨g, env, Dd, R, h, l⟩ => by
  obtain ⟨g', le, R'⟩ := R.frzs is
  exact ⟨g', _, Dd, R', h, l.mono le⟩
def dDrop (d : DE) : DS := fun Dd env => d env (fun e => Dd.er e env) fun _ => Dd.nx env
theorem qs_expr {d} (h : QE X W e d) (hs : swapsWith e none pos.line X.env = pure false := by rfl) : QS X W (.Expr e pos) (dDrop d) := (ps_expr h hs).mono fun D σ H ⟨g, env, Dd, R, h, l⟩ =>
  lift.use R h (fun v r H1 g1 l1 R1 i1 q => l.nx _ _ _ _ l1 R1 q) l.kx
def dRet (d : DE) : DS := fun Dd env => d env (fun e => Dd.er e env) (Dd.rt env)
theorem qs_ret {d} (h : QE X W e d) : QS X W (.Return (some e) pos) (dRet d) := (ps_ret h).mono fun D σ H ⟨g, env, Dd, R, h, l⟩ =>
  lift.use R h (fun v r H1 g1 l1 R1 i1 q => l.rt _ _ _ _ _ _ l1 R1 i1 q) l.kx
/-- what one owns, what may be changed -/
def ownO : Ev → Option Ow
  | .own o _ => some o
  | _ => none
def reown : Ev → Ow → Ev
  | .own _ b, o => .own o b
  | e, _ => e
/-- return x, x of the def's own -/
def dRetO (i : Nat) : DS := fun Dd env => match nth env i with
  | .own l none => Dd.rt (sth env i .any) (.fr l)
  | _ => False
theorem Rep.giveUp {K : PySem.W.Frag} {g : G} {σ : L2.St} {H : Hp} {env : List Ev} {i : Nat} {o : Ow} {b : Option Nat} {v : V} (R : Rep K g σ H env) (a : OwnAt K g H b v o (g.F i)) : Rep K (g.setF i []) σ H (sth env i .any) ∧ OwnAt K (g.setF i []) H b v o (g.F i) ∧ Off (g.setF i []) (g.F i) :=
  ⟨R.drop i, a.setF, fun j p m h => by
    have h : p ∈ LR.setF g.F i [] j := h
    by_cases n : j = i
    · subst n; rw [setF_eq] at h; cases h
    · rw [setF_ne n] at h; exact R.di i j p (Ne.symm n) m h⟩
theorem qs_retO (h : PE X e (tVar i)) : QS X W (.Return (some e) pos) (dRetO i) := (ps_ret h).mono fun D σ H ⟨g, env, Dd, R, h, l⟩ => by
  unfold dRetO at h
  cases en : nth env i with
  | own m b =>
    cases b with
    | none =>
      rw [en] at h
      have s := R.sl i
      rw [en] at s
      obtain ⟨v, es, o⟩ := s
      obtain ⟨R2, o2, ns⟩ := R.giveUp o
      exact ⟨v, es, l.rt _ (.fr m) σ H _ _ G.setF_le R2 ⟨_, o2, ns⟩ h⟩
    | some _ => rw [en] at h; exact h.elim
  | _ => rw [en] at h; exact h.elim
def dIfS (c : DT) (t u : DS) : DS := fun Dd env => c env (fun e => Dd.er e env) fun b => (b = true → t Dd env) ∧ (b = false → u Dd env)
theorem qs_if {c : Expr} {a b : List Stmt} {dc ta tb} (hc : QT X W c dc) (ha : QSs X W a ta) (hb : QSs X W b tb) : QS X W (.If c a b pos) (dIfS dc ta tb) := (ps_if hc ha hb).mono fun D σ H ⟨g, env, Dd, R, h, l⟩ => by
  refine ⟨g, env, _, _, R, h, fun c H1 g1 l1 R1 ⟨q1, q2⟩ => ?_, l.kx⟩
  cases c with
  | true => rw [if_pos rfl]; exact ⟨g1, env, Dd, R1, q1 rfl, l.mono l1⟩
  | false => rw [if_neg (by decide)]; exact ⟨g1, env, Dd, R1, q2 rfl, l.mono l1⟩
def dNever : DS := fun _ _ => False
theorem qs_never : QS X W st dNever := ps_never.mono fun D σ H ⟨g, env, Dd, R, h, l⟩ => h
/-! ## stores -/
def dSet (w : Bool) (i : Nat) (d : DE) : DS := fun Dd env => d env (fun e => Dd.er e env) fun a => Dd.nx (sth env i (toEv w a))
theorem lift_set {K : PySem.W.Frag} {W : WX} {w : Bool} {d : DE} {D : Ends} {σ : L2.St} {H : Hp} (h : liftS K W (dSet w i d) D σ H) : tAsg (lift K W d) (gName i) D σ H := by
  obtain ⟨g, env, Dd, R, h, l⟩ := h
  refine lift.use R h (fun v r H1 g1 l1 R1 i1 q => ?_) l.kx
  obtain ⟨g2, l2, R2⟩ := R1.set (i := i) w i1
  exact l.nx _ _ _ _ (l1.trans l2) R2 q
def dAsg (b : DG) (d : DE) : DS := fun Dd env => d env (fun e => Dd.er e env) (asD fun x => onS (b x env) Dd.nx)
theorem qs_asg {tg : Expr} {vs b d} (he : QE X W e d) (hg : QG X vs tg b) (hs : swapsWithSole [tg] e pos.line X.env = pure false := by rfl) (hw : swappedStores [tg] e X.env = pure none := by rfl) (h1 : (assignEach [tg] X.env).map (·.2) = [assign tg X.env] := by rfl) : QS X W (.Assign [tg] e pos) (dAsg b d) :=
  (ps_asg he hg hs hw h1).mono fun D σ H ⟨g, env, Dd, R, h, l⟩ => by
  refine lift.useD R h (fun v x H1 g1 l1 R1 i1 q => ?_) l.kx
  obtain ⟨e, eb, q⟩ := onS_some q
  exact ⟨g1, env, x, e, R1, i1, eb, fun σ' g' l' R' _ => l.nx _ _ _ _ (l1.trans l') R' q⟩
/-! ## lists of the def's own -/
theorem Rep.ownS {K : PySem.W.Frag} {g : G} {σ : L2.St} {H : Hp} {env : List Ev} (R : Rep K g σ H env) {i : Nat} {l m : Ow} {b : Option Nat} {v : V} {p : Addr} {ys : HO} {fs : List Addr} (en : nth env i = .own l b) (es : σ[i]? = some (some v)) (mp : p ∈ g.F i) (ni : ¬ Imm ys)
    (iy : OwIs K g.B (upd H p ys) v m fs) (nd : fs.Nodup) (sub : ∀ a ∈ fs, a ∈ g.F i ∨ (Priv g none a ∧ ∀ j, a ∉ g.F j)) : Rep K (g.setF i fs) σ (upd H p ys) (sth env i (reown (nth env i) m)) := by
  have s := R.sl i
  rw [en] at s
  obtain ⟨v', es', o⟩ := s
  have pvs : ∀ a ∈ fs, Priv g b a := fun a ma => (sub a ma).elim (o.pv a) fun ⟨q, _⟩ => ⟨q.nb, q.nm, q.n0.elim .inl (fun z => by cases z.1), q.np⟩
  rw [en]
  refine R.moveS (lt_of_own en) _ ((R.ok.own (o.pv p mp) ni (o.ex p mp)).setF) G.setF_le rfl rfl (fun _ _ => rfl) ⟨v, es, iy, nd, fun a ma => (pvs a ma).setF, by rw [es] at es'; cases es'; exact o.pin⟩ (fun z => by cases z) (fun j n a ma h => ?_) fun j n a ma => ⟨fun b' q => q.setF, upd_ne fun e => R.di i j p (Ne.symm n) mp (e ▸ ma)⟩
  rcases sub a ma with q | ⟨_, q⟩
  · exact R.di i j a (Ne.symm n) q h
  · exact q j h
/-- .. a list of data -/
theorem Rep.ownL {K : PySem.W.Frag} {g : G} {σ : L2.St} {H : Hp} {env : List Ev} (R : Rep K g σ H env) {i : Nat} {l : Ow} {m : List D} {b : Option Nat} {p : Addr} {ys : List V} (en : nth env i = .own l b) (es : σ[i]? = some (some (.ref p))) (mp : p ∈ g.F i) (iy : Iss K g.B ys m) (z : ys.length ≤ 100000) :
    Rep K (g.setF i [p]) σ (upd H p (.lst ys)) (sth env i (reown (nth env i) (.ls m))) :=
  R.ownS en es mp (fun h => h) (.l upd_same iy z) (by simp) fun a ma => .inl (by rw [List.mem_singleton.mp ma]; exact mp)
theorem Rep.lsE {K : PySem.W.Frag} {g : G} {σ : L2.St} {H : Hp} {env : List Ev} (R : Rep K g σ H env) {i : Nat} {l : List D} (en : ownO (nth env i) = some (.ls l)) : ∃ b p xs, nth env i = .own (.ls l) b ∧ σ[i]? = some (some (.ref p)) ∧ p ∈ g.F i ∧ H p = some (.lst xs) ∧ Iss K g.B xs l ∧ xs.length ≤ 100000 := by
  have s := R.sl i
  cases e : nth env i with
  | own o b =>
    rw [e] at s en
    obtain ⟨v, es, o'⟩ := s
    cases en
    obtain ⟨p, xs, rfl, ef, hp, i1, z⟩ := o'.is_.lE
    exact ⟨b, p, xs, rfl, es, by rw [ef]; exact List.mem_cons_self, hp, i1, z⟩
  | _ => rw [e] at en; cases en
/-- x.m(e ..), x a list of the def's own: what becomes of it -/
def dOwn (i : Nat) (f : List D → List D → Option (List D)) (da : DA) : DS := fun Dd env => ∃ l, ownO (nth env i) = some (.ls l) ∧ da env (fun e => Dd.er e env) fun as => ∃ ys m, allD as = some ys ∧ f l ys = some m ∧ m.length ≤ 100000 ∧ Dd.nx (sth env i (reown (nth env i) (.ls m)))
/-- .. as the library's rule has it -/
structure OwnM (K : PySem.W.Frag) (r : V → List V → Hp → VK → Prop) (f : List D → List D → Option (List D)) : Prop where
  ok : ∀ {g : G} {H : Hp} {p : Addr} {xs us : List V} {l ys m : List D} {Q : VK}, Same g.B H → H p = some (.lst xs) → Iss K g.B xs l → Iss K g.B us ys → f l ys = some m → m.length ≤ 100000 →
    (∀ v zs, Iss K g.B zs m → Q v (upd H p (.lst zs))) → r (.ref p) us H Q
theorem qs_own {r : V → List V → Hp → VK → Prop} {f : List D → List D → Option (List D)} {da} (hf : OwnM X.K r f) (hp : PS X st (tDrop (tBM X.K "list" r (tVar i) (liftA X.K W da)))) : QS X W st (dOwn i f da) := hp.mono fun D σ H ⟨g, env, Dd, R, ⟨l0, en, h⟩, l⟩ => by
  obtain ⟨b, p, xs, e0, es, mp, hx, _, _⟩ := R.lsE en
  refine ⟨.ref p, es, .inl ⟨rfl, _, SqL.of hx⟩, g, env, _, _, R, h, fun us as H1 g1 l1 R1 i1 ⟨ys, m, e1, e2, z, q⟩ => ?_, l.kx⟩
  obtain ⟨b', p', xs', e0', es', mp', hx', ix', _⟩ := R1.lsE en
  rw [es] at es'; cases es'
  exact hf.ok R1.ok.sb hx' ix' (i1.all e1) e2 z fun v zs iz => l.nx _ _ _ _ (l1.trans G.setF_le) (R1.ownL e0 es mp' iz (by rw [iz.length]; exact z)) q
theorem Rep.trE {K : PySem.W.Frag} {g : G} {σ : L2.St} {H : Hp} {env : List Ev} (R : Rep K g σ H env) {i : Nat} {ts : List Ow} (en : ownO (nth env i) = some (.tr ts)) : ∃ b p vs gs, nth env i = .own (.tr ts) b ∧ σ[i]? = some (some (.ref p)) ∧ g.F i = p :: gs ∧ H p = some (.lst vs) ∧ OwnAt K g H b (.ref p) (.tr ts) (p :: gs) ∧ vs.length = ts.length ∧ vs.length ≤ 100000 := by
  have s := R.sl i
  cases e : nth env i with
  | own o b =>
    rw [e] at s en
    obtain ⟨v, es, o'⟩ := s
    cases en
    obtain ⟨p, vs, gs, rfl, ef, hp, i1, z⟩ := o'.is_.trE
    exact ⟨b, p, vs, gs, rfl, es, ef, hp, by rw [← ef]; exact o', i1.length, z⟩
  | _ => rw [e] at en; cases en
end
section
variable {K : PySem.W.Frag}
def appF : List D → List D → Option (List D)
  | l, [y] => some (l ++ [y])
  | _, _ => none
theorem m_append : OwnM K rAppend appF := ⟨fun {g H p xs us l ys m Q} sb hp ix iu e z k => by
  cases iu with
  | nil => cases e
  | cons i1 t => cases t with
    | nil =>
      cases e
      have hl := ix.length
      rw [List.length_append] at z
      have z : l.length + 1 ≤ 100000 := z
      exact ⟨p, xs, _, rfl, rfl, hp, by rw [sizeLine_eq]; omega, k _ _ (ix.append (.one i1))⟩
    | cons => cases e⟩
end
section
variable {X : Cx} {W : WX} {st : Stmt} {pos : Pos} {e : Expr} {i : Nat}
/-- x[k] = e, x a list of the def's own -/
def dPut (i : Nat) (pk : PF) (d : DE) : DS := fun Dd env => d env (fun e => Dd.er e env) (asD fun y => ∃ l k j, ownO (nth env i) = some (.ls l) ∧ pk env = some (.int k) ∧ ixN l.length k = some j ∧ Dd.nx (sth env i (reown (nth env i) (.ls (l.set j y)))))
theorem qs_put {pk : PF} {d} (hp : PS X st (tAsg (lift X.K W d) (gSub (tVar i) (lift X.K W (dP pk)) rSetL))) : QS X W st (dPut i pk d) := hp.mono fun D σ H ⟨g, env, Dd, R, h, l⟩ => by
  refine lift.useD R h (fun v y H1 g1 l1 R1 i1 ⟨m, k, j, en, ek, ej, q⟩ => ?_) l.kx
  obtain ⟨b, p, xs, e0, es, mp, hx, ix, _⟩ := R1.lsE en
  refine ⟨.ref p, es, lift.useP R1 ek fun u H2 g2 l2 R2 i2 => ?_⟩
  obtain ⟨b', p', xs', e0', es', mp', hx', ix', z'⟩ := R2.lsE en
  rw [es] at es'; cases es'
  refine ⟨p, xs', k, j, rfl, i2.intE, hx', by rw [ix'.length]; exact ej, l.nx _ _ _ _ ((l1.trans l2).trans G.setF_le) (R2.ownL e0' es mp' (ix'.set j (i1.mono l2.b)) (by rw [List.length_set]; exact z')) q⟩
/-- x[k] and x.pop(k) of a list of the def's own -/
def dIxO (i : Nat) (pk : PF) : DE := fun env _ Q => ∃ l k x, ownO (nth env i) = some (.ls l) ∧ pk env = some (.int k) ∧ atI l k = some x ∧ Q (.d x)
theorem qe_ixO {a b : Expr} {pk} (ha : PE X a (tVar i)) (hb : QP X b pk) (hs : PlainIx b) : QE X W (.Subscript a b pos) (dIxO i pk) := (pe_ix ix_list ha (hb W) hs).mono fun σ H Q ⟨g, env, Ed, Qd, R, ⟨l, k, x, en, ek, ex, q⟩, kv, kx⟩ => by
  obtain ⟨b, p, xs, e0, es, mp, hx, ix, _⟩ := R.lsE en
  refine ⟨.ref p, es, lift.useP R ek fun u H2 g2 l2 R2 i2 => ?_⟩
  obtain ⟨b', p', xs', e0', es', mp', hx', ix', z'⟩ := R2.lsE en
  rw [es] at es'; cases es'
  obtain ⟨w, ew, iw⟩ := ix'.at ex
  exact ⟨p, xs', k, w, rfl, i2.intE, SqL.of hx', ew, kv _ (.d x) _ _ l2 R2 iw q⟩
mutual
def imd : D → Bool
  | .non => true
  | .bl _ => true
  | .int _ => true
  | .str _ => true
  | .cls _ => true
  | .ty _ => true
  | .tup l => imds l
  | .ins _ _ l => imds l
  | .lst _ => false
  | .dic _ _ => false
def imds : List D → Bool
  | [] => true
  | x :: r => imd x && imds r
end
mutual
theorem Is.less {K : PySem.W.Frag} {B B' : Hp} (s : ∀ p o, B p = some o → Imm o → B' p = some o) : ∀ {v x}, Is K B v x → imd x = true → Is K B' v x
  | _, _, .non, _ => .non
  | _, _, .bl b, _ => .bl b
  | _, _, .int i, _ => .int i
  | _, _, .str x, _ => .str x
  | _, _, .lst h a z, q => by cases q
  | _, _, .tup h a z, q => .tup (s _ _ h trivial) (a.less s q) z
  | _, _, .ins h k a c n, q => .ins (s _ _ h trivial) k (a.less s q) c n
  | _, _, .cls a, _ => .cls a
  | _, _, .ty n, _ => .ty n
  | _, _, .dic h k a z, q => by cases q
theorem Iss.less {K : PySem.W.Frag} {B B' : Hp} (s : ∀ p o, B p = some o → Imm o → B' p = some o) : ∀ {v x}, Iss K B v x → imds x = true → Iss K B' v x
  | _, _, .nil, _ => .nil
  | _, _, .cons h t, q => by
    have q := (Bool.and_eq_true _ _).mp q
    exact .cons (h.less s q.1) (t.less s q.2)
end
def un : List Ev → List Ev
  | [] => []
  | .own l _ :: r => .d l.d :: un r
  | e :: r => e :: un r
def dLoan (p : PF) : DE := fun env _ Q => ∃ x, p (un env) = some x ∧ imd x = true ∧ Q (.d x)
def dLoanT (p : PF) : DT := fun env _ Q => ∃ b, p (un env) = some (.bl b) ∧ Q b
def unE : Ev → Ev
  | .own l _ => .d l.d
  | e => e
theorem nth_un : ∀ {env : List Ev} {j : Nat}, nth (un env) j = unE (nth env j)
  | [], _ => rfl
  | e :: _, 0 => by cases e <;> rfl
  | e :: r, n + 1 => by
    have := nth_un (env := r) (j := n)
    cases e <;> exact this
theorem un_len : ∀ {env : List Ev}, (un env).length = env.length
  | [] => rfl
  | e :: r => by
    have := un_len (env := r)
    cases e <;> exact congrArg (· + 1) this
open Classical in
/-- all that one owns is data for a while -/
noncomputable def G.lent (g : G) (H : Hp) : G := { g with B := fun a => if ∃ i, a ∈ g.F i then H a else g.B a, F := fun _ => [] }
section
variable {K : PySem.W.Frag} {g g2 : G} {σ : L2.St} {H H' : Hp} {env : List Ev} {a : Addr}
open Classical in
theorem lent_own (c : ∃ i, a ∈ g.F i) : (g.lent H).B a = H a := by
  show (if ∃ i, a ∈ g.F i then H a else g.B a) = _
  rw [if_pos c]
open Classical in
theorem lent_not (c : ¬ ∃ i, a ∈ g.F i) : (g.lent H).B a = g.B a := by
  show (if ∃ i, a ∈ g.F i then H a else g.B a) = _
  rw [if_neg c]
theorem Rep.ownP (R : Rep K g σ H env) (c : ∃ i, a ∈ g.F i) : ∃ b, Priv g b a := by
  obtain ⟨i, m⟩ := c
  obtain ⟨v, o, b, _, _, q⟩ := R.ownC m
  exact ⟨b, q.pv a m⟩
theorem Rep.ownI (R : Rep K g σ H env) (c : ∃ i, a ∈ g.F i) {o} (e : H a = some o) : ¬ Imm o := by
  obtain ⟨i, m⟩ := c
  obtain ⟨v, o, b, _, _, q⟩ := R.ownC m
  exact q.notImm a m _ e
theorem G.lent_le (R : Rep K g σ H env) : G.Le g (g.lent H) := ⟨rfl, rfl, fun _ h => h, fun a o e => by
  by_cases c : ∃ i, a ∈ g.F i
  · obtain ⟨b, q⟩ := R.ownP c
    rw [q.nb] at e; cases e
  · rw [lent_not c]; exact e, rfl, rfl, rfl⟩
theorem Rep.lend (R : Rep K g σ H env) : Rep K (g.lent H) σ H (un env) := by
  have le := G.lent_le R
  refine ⟨⟨fun a o e => ?_, fun a m => ⟨(R.ok.pl a m).1, ?_⟩, fun a o e i => le.b _ _ (R.ok.im a o e i), R.ok.fr, R.ok.nw, fun a o e => ?_, R.ok.m0, fun a o nx e e2 => ?_, R.ok.xp⟩, by rw [un_len]; exact R.ln, fun j => ?_, fun _ _ => rfl, fun i j p _ hi => nomatch hi⟩
  · by_cases c : ∃ i, a ∈ g.F i
    · rw [lent_own c] at e; exact e
    · rw [lent_not c] at e; exact R.ok.sb a o e
  · by_cases c : ∃ i, a ∈ g.F i
    · obtain ⟨b, q⟩ := R.ownP c; exact absurd m q.nm
    · rw [lent_not c]; exact (R.ok.pl a m).2
  · obtain ⟨h1, h2, h3⟩ := R.ok.pv a o e
    refine ⟨h1, ?_, h3⟩
    by_cases c : ∃ i, a ∈ g.F i
    · obtain ⟨b, q⟩ := R.ownP c
      have e : g.P a = some o := e
      rw [q.np] at e; cases e
    · rw [lent_not c]; exact h2
  · by_cases c : ∃ i, a ∈ g.F i
    · obtain ⟨b, q⟩ := R.ownP c
      have e : g.H0 a = some o := e
      rcases q.n0 with q | q
      · rw [q] at e; cases e
      · exact absurd q.2 nx
    · rw [lent_not c]; exact R.ok.bn a o nx e e2
  · have s := R.sl j
    rw [nth_un]
    cases e : nth env j with
    | own l b =>
      rw [e] at s; obtain ⟨v, e1, o⟩ := s
      exact ⟨v, e1, o.is_.is_ le.b fun a m => lent_own ⟨j, m⟩⟩
    | any => trivial
    | d x => rw [e] at s; obtain ⟨v, e1, i1⟩ := s; exact ⟨v, e1, i1.mono le.b⟩
    | pool => rw [e] at s; exact s
    | scr ns => rw [e] at s; exact s
    | err ea dd fs => rw [e] at s; exact ⟨s.1, fun d h => le.b _ _ (s.2 d h)⟩
    | raw v => rw [e] at s; exact s
open Classical in
noncomputable def G.unlent (g g2 : G) : G := { g2 with B := fun a => if ∃ i, a ∈ g.F i then none else g2.B a, F := g.F }
open Classical in
theorem unlent_own (c : ∃ i, a ∈ g.F i) : (g.unlent g2).B a = none := by
  show (if ∃ i, a ∈ g.F i then none else g2.B a) = _
  rw [if_pos c]
open Classical in
theorem unlent_not (c : ¬ ∃ i, a ∈ g.F i) : (g.unlent g2).B a = g2.B a := by
  show (if ∃ i, a ∈ g.F i then none else g2.B a) = _
  rw [if_neg c]
theorem Rep.lentAt (R : Rep K g σ H env) (l2 : G.Le (g.lent H) g2) (c : ∃ i, a ∈ g.F i) : ∃ o, H a = some o ∧ g2.B a = some o := by
  obtain ⟨i, m⟩ := c
  obtain ⟨v, o, b, _, _, q⟩ := R.ownC m
  obtain ⟨u, e⟩ := q.ex a m
  exact ⟨u, e, l2.b _ _ (by rw [lent_own ⟨i, m⟩]; exact e)⟩
theorem Rep.unlend (R : Rep K g σ H env) (l2 : G.Le (g.lent H) g2) (R2 : Rep K g2 σ H' (un env)) : G.Le g (g.unlent g2) ∧ Rep K (g.unlent g2) σ H' env ∧ (∀ a o, g2.B a = some o → Imm o → (g.unlent g2).B a = some o) ∧ (∀ a fs, g2.B a = some (.xd fs) → (g.unlent g2).B a = some (.xd fs)) ∧ ∀ a, (∃ i, a ∈ g.F i) → H' a = H a := by
  have le := (G.lent_le R).trans l2
  have hcell : ∀ a, (∃ i, a ∈ g.F i) → H' a = H a := fun a c => by
    obtain ⟨o, h1, h2⟩ := R.lentAt l2 c
    rw [h1]; exact R2.ok.sb _ _ h2
  have le3 : G.Le g (g.unlent g2) := ⟨le.h0, le.m0, le.m, fun a o e => by
    by_cases c : ∃ i, a ∈ g.F i
    · obtain ⟨b, q⟩ := R.ownP c
      rw [q.nb] at e; cases e
    · rw [unlent_not c]; exact le.b _ _ e, le.p, le.b0, le.x⟩
  have b3 : ∀ {a o}, (g.unlent g2).B a = some o → g2.B a = some o := fun {a o} e => by
    by_cases c : ∃ i, a ∈ g.F i
    · rw [unlent_own c] at e; cases e
    · rw [unlent_not c] at e; exact e
  have n3 : ∀ {a}, g2.B a = none → (g.unlent g2).B a = none := fun {a} e => by
    by_cases c : ∃ i, a ∈ g.F i
    · exact unlent_own c
    · rw [unlent_not c]; exact e
  have keepI : ∀ a o, g2.B a = some o → Imm o → (g.unlent g2).B a = some o := fun a o e i => by
    by_cases c : ∃ i, a ∈ g.F i
    · obtain ⟨u, h1, h2⟩ := R.lentAt l2 c
      rw [e] at h2; cases h2; exact (R.ownI c h1 i).elim
    · rw [unlent_not c]; exact e
  refine ⟨le3, ⟨⟨fun a o e => R2.ok.sb a o (b3 e), fun a m => ⟨(R2.ok.pl a m).1, n3 (R2.ok.pl a m).2⟩, fun a o e i => keepI a o (R2.ok.im a o e i) i, R2.ok.fr, R2.ok.nw, fun a o e => ?_, R2.ok.m0, fun a o nx e e2 => n3 (R2.ok.bn a o nx e e2), R2.ok.xp⟩, R.ln, fun j => ?_, R.nf, R.di⟩, keepI, fun a fs e => ?_, hcell⟩
  · obtain ⟨h1, h2, h3⟩ := R2.ok.pv a o e
    exact ⟨h1, n3 h2, h3⟩
  · have s := R.sl j
    show Sl K (g.unlent g2) H' σ[j]? (g.F j) (nth env j)
    refine s.mono le3 fun b v o a => ⟨a.is_.mono le3.b fun p m => hcell p ⟨j, m⟩, a.nd, fun p m => ⟨unlent_own ⟨j, m⟩, fun mm => ?_, ?_, ?_⟩, fun u e => by rw [le3.x]; exact a.pin u e⟩
    · have := (R2.ok.pl p mm).2
      obtain ⟨u, _, h2⟩ := R.lentAt l2 ⟨j, m⟩
      rw [h2] at this; cases this
    · have := (a.pv p m).n0
      rcases this with q | q
      · exact .inl ((congrFun le3.h0 p).trans q)
      · exact .inr ⟨q.1, by rw [le3.xa]; exact q.2⟩
    · show g2.P p = none
      rw [le.p]; exact (a.pv p m).np
  · by_cases c : ∃ i, a ∈ g.F i
    · obtain ⟨i, m⟩ := c
      obtain ⟨v, o, b, _, _, q⟩ := R.ownC m
      obtain ⟨u, h1, h2⟩ := R.lentAt l2 ⟨i, m⟩
      rw [e] at h2; cases h2
      rcases q.is_.cell a m with ⟨_, h⟩ | ⟨_, h⟩ <;> rw [h1] at h <;> cases h
    · rw [unlent_not c]; exact e
end
theorem qe_loan {p} (h : QP X e p) : QE X W e (dLoan p) := (h W).mono fun σ H Q ⟨g, env, Ed, Qd, R, ⟨x, ex, sx, q⟩, kv, kx⟩ =>
  lift.useP R.lend ex fun v H1 g1 l1 R1 i1 => by
    obtain ⟨l3, R3, im, _⟩ := R.unlend l1 R1
    exact kv v (.d x) H1 _ l3 R3 (i1.less im sx) q
theorem qt_loan {p} (h : QPT X e p) : QT X W e (dLoanT p) := PT.mono (h W) fun σ H Q ⟨g, env, Ed, Qd, R, ⟨b, ex, q⟩, kv, kx⟩ =>
  ⟨g.lent H, un env, fun _ => False, fun c => c = b, R.lend, ⟨b, ex, rfl⟩, fun c H1 g1 l1 R1 ec => by
    subst ec
    obtain ⟨l3, R3, _⟩ := R.unlend l1 R1
    exact kv c H1 _ l3 R3 q, fun _ _ _ _ _ _ _ _ z => z.elim⟩
/-! ## loops -/
theorem Rep.dropE {K : PySem.W.Frag} {g : G} {σ : L2.St} {H : Hp} {env : List Ev} (R : Rep K g σ H env) : ∀ js, ∃ g', G.Le g g' ∧ g'.B = g.B ∧ Rep K g' σ H (wipeE env js)
  | [] => ⟨g, .rfl, rfl, R⟩
  | j :: js =>
    let ⟨_, l, e, R'⟩ := R.dropE js
    ⟨_, l.trans G.setF_le, e, R'.drop j⟩
def dFor (it : DI) (b : DG) (js : List Nat) (body : DS) : DS := fun Dd env => it env (fun e => Dd.er e env) fun l => ∃ I : Nat → List Ev → Prop, I 0 (wipeE env js) ∧
  (∀ i x e, l[i]? = some x → I i e → onS (b x e) fun e2 => body { Dd with nx := fun e' => I (i + 1) (wipeE e' js), ct := fun e' => I (i + 1) (wipeE e' js), bk := Dd.nx } e2) ∧
  ∀ e, I l.length e → Dd.nx e
theorem qs_for {tg iter : Expr} {body : List Stmt} {it vs b db} (js : List Nat) (hp : PassesOwn (model X.prog X.w) X.A X.env X.xe) (hc : X.calm = true) (hi : QI X W tg iter it) (hg : QG X vs tg b) (hb : QSs X W body db)
    (hs : ∀ x, foldedSetIterable iter X.env x = pure x := by intro _; rfl) : QS X W (.For tg iter body [] pos) (dFor it b js db) := (ps_for hp hc hi hg hb hs).mono fun D σ H ⟨g, env, Dd, R, h, l⟩ => by
  refine ⟨g, env, _, _, R, h, fun J l0 H1 g1 l1 R1 rn ⟨I, I0, step, fin⟩ => ?_, l.kx⟩
  obtain ⟨zl, Gd, Y, w, hgd, hy⟩ := rn
  refine for_it w (fun i σ' H' => ∃ g' e, G.Le g1 g' ∧ Rep X.K g' σ' H' e ∧ I i e) (let ⟨g0, l0, _, R0⟩ := R1.dropE js; ⟨g0, _, l0, R0, I0⟩) (fun i σ' H' hi ⟨g', e, l2, R2, _⟩ => hgd g' _ _ H' l2.b R2) ?_ ?_
  · rintro i x σ2 H2 H3 hi ⟨g2, e, l2, R2, Ii⟩ y
    obtain ⟨g3, dx, el, l3, R3, ix⟩ := hy i H2 x H3 hi y g2 σ2 e l2.b R2
    obtain ⟨e2, eb, st⟩ := onS_some (step i dx e el Ii)
    have back : ∀ {σ' H' g' e'}, G.Le g3 g' → Rep X.K g' σ' H' e' → I (i + 1) (wipeE e' js) → ∃ g' e, G.Le g1 g' ∧ Rep X.K g' σ' H' e ∧ I (i + 1) e := fun {σ' H' g' e'} l4 R4 q => let ⟨g5, l5, _, R5⟩ := R4.dropE js; ⟨g5, _, l2.trans (l3.trans (l4.trans l5)), R5, q⟩
    refine ⟨g3, e, dx, e2, R3, ix, eb, fun σ' g4 l4 R4 o => ⟨g4, e2, _, R4, st, ?_⟩⟩
    have l' := l.mono (l1.trans (l2.trans (l3.trans l4)))
    exact ⟨fun σ' H' g' e' l5 R4 q => back (l4.trans l5) R4 q, fun σ' H' g' e' l4 R4 q => l'.nx _ _ _ _ l4 R4 q, fun σ' H' g' e' l5 R4 q => back (l4.trans l5) R4 q, l'.rt, l'.er⟩
  · rintro σ2 H2 ⟨g2, e, l2, R2, Ii⟩
    exact l.nx _ _ _ _ (l1.trans l2) R2 (fin e Ii)
def dWhile (c : DT) (js : List Nat) (body : DS) : DS := fun Dd env => ∃ I : Nat → List Ev → Prop, (∃ m, I m (wipeE env js)) ∧
  ∀ m e, I m e → c e (fun r => Dd.er r e) fun k => (k = true → body { Dd with nx := fun e' => ∃ m', m' < m ∧ I m' (wipeE e' js), ct := fun e' => ∃ m', m' < m ∧ I m' (wipeE e' js), bk := Dd.nx } e) ∧ (k = false → Dd.nx e)
theorem qs_while {c : Expr} {body : List Stmt} {dc db} (js : List Nat) (hp : PassesOwn (model X.prog X.w) X.A X.env X.xe) (hc : QT X W c dc) (hb : QSs X W body db) : QS X W (.While c body [] pos) (dWhile dc js db) := (ps_while hp hc hb).mono fun D σ H ⟨g, env, Dd, R, ⟨I, ⟨m0, I0⟩, step⟩, l⟩ => by
  refine ⟨fun m σ' H' => ∃ g' e, G.Le g g' ∧ Rep X.K g' σ' H' e ∧ I m e, ⟨m0, (let ⟨g0, l0, _, R0⟩ := R.dropE js; ⟨g0, _, l0, R0, I0⟩)⟩, ?_⟩
  rintro m σ1 H1 ⟨g1, e, l1, R1, Im⟩
  refine ⟨g1, e, _, _, R1, step m e Im, fun k H2 g2 l2 R2 ⟨q1, q2⟩ => ?_, fun r cls dd H' g' l2 R2 ir q => l.er _ _ _ _ _ _ _ (l1.trans l2) R2 ir q⟩
  cases k with
  | true =>
    rw [if_pos rfl]
    have back : ∀ {σ' H' g' e'}, G.Le g2 g' → Rep X.K g' σ' H' e' → (∃ m', m' < m ∧ I m' (wipeE e' js)) → ∃ m', m' < m ∧ ∃ g' e, G.Le g g' ∧ Rep X.K g' σ' H' e ∧ I m' e := fun {σ' H' g' e'} l4 R4 ⟨m', hm, q⟩ => let ⟨g5, l5, _, R5⟩ := R4.dropE js; ⟨m', hm, g5, _, l1.trans (l2.trans (l4.trans l5)), R5, q⟩
    have l' := l.mono (l1.trans l2)
    exact ⟨fun σ' H' => ∃ m', m' < m ∧ ∃ g' e, G.Le g g' ∧ Rep X.K g' σ' H' e ∧ I m' e, fun σ' H' h => h, g2, e, _, R2, q1 rfl, ⟨fun σ' H' g' e' l4 R4 q => back l4 R4 q, fun σ' H' g' e' l4 R4 q => l'.nx _ _ _ _ l4 R4 q, fun σ' H' g' e' l4 R4 q => back l4 R4 q, l'.rt, l'.er⟩⟩
  | false =>
    rw [if_neg (by decide)]
    exact l.nx _ _ _ _ (l1.trans l2) R2 (q2 rfl)
end
end LR
set_option Elab.async false
set_option maxRecDepth 100000
set_option linter.all false
set_option maxHeartbeats 4000000
namespace LR
open PySem PySem.Spec PyProof.Rows L2
/-! # the data layer: calls and defs -/
abbrev Fs := List Ar → (Er → Prop) → (Ar → Prop) → Prop
def IsRs (K : PySem.W.Frag) (g : G) (H : Hp) (v : V) : Ar → Prop
  | .d x => Is K g.B v x
  | .pool => ∃ p, v = .ref p ∧ g.M p
  | .fr l => ∃ fs, OwnAt K g H none v l fs
  | .scr _ => False
structure Enter (g : G) (H : Hp) : Prop where
  h0 : g.H0 = H
  m0 : g.M0 = g.M
  b0 : g.B0 = g.B
  p : g.P = fun _ => none
  x : g.X = fun _ => none
  f : g.F = fun _ => []
  ok : WOk g H
def spF (K : PySem.W.Frag) (f : Fs) : Sp := fun vs H Q E => ∃ g as Ed Qd, Enter g H ∧ IsAs K g vs as ∧ f as Ed Qd ∧
  (∀ v r H' g', G.Le g g' → WOk g' H' → IsRs K g' H' v r → Qd r → Q v H') ∧
  (∀ e cls dd H' g', G.Le g g' → WOk g' H' → IsEr g'.B cls dd e → Ed e → E cls dd H')
def enter (g : G) (H : Hp) : G := { H0 := H, M0 := g.M, M := g.M, B := g.B, P := fun _ => none, B0 := g.B, X := fun _ => none, F := fun _ => [] }
section
variable {K : PySem.W.Frag} {g : G} {σ : L2.St} {H H' : Hp} {env : List Ev} {vs : List V} {as : List Ar}
theorem no_xa {g : G} (h : g.X = fun _ => none) {a : Addr} : ¬ g.XA a := fun ⟨i, e⟩ => by rw [h] at e; cases e
theorem WOk.enter (w : WOk g H) : Enter (LR.enter g H) H :=
  ⟨rfl, rfl, rfl, rfl, rfl, rfl, ⟨w.sb, w.pl, w.im, fun _ _ _ _ h => h, fun _ m => .inl m, (fun a o e => nomatch (show (none : Option HO) = some o from e)), fun _ m => m, fun _ _ _ _ e => e, fun _ h => (no_xa rfl h).elim⟩⟩
theorem IsAs.enter (w : WOk g H) : ∀ {vs as}, IsAs K g vs as → IsAs K (LR.enter g H) vs as
  | _, _, .nil => .nil
  | _, _, .d h t => .d h (t.enter w)
  | _, _, .pool h t => .pool h (t.enter w)
  | _, _, .scr h t => .scr (by
      rcases h with h | ⟨o, h1, h2, h3⟩
      · exact .inl h
      · refine .inr ⟨o, w.fr _ _ (fun m => h3 (.inl m)) (fun m => h3 (.inr m)) h1, h2, fun m => ?_⟩
        rcases m with m | m
        · rcases w.nw _ m with q | q
          · exact h3 (.inl q)
          · rw [h1] at q; cases q
        · exact no_xa rfl m) (t.enter w)
/-- behind a call -/
def leave (g g' : G) : G := { g with B := g'.B, M := g'.M }
theorem leave_le {g' : G} (le : G.Le (enter g H) g') : G.Le g (leave g g') := ⟨rfl, rfl, le.m, le.b, rfl, rfl, rfl⟩
theorem Rep.leave (R : Rep K g σ H env) {g' : G} (le : G.Le (LR.enter g H) g') (w : WOk g' H') : Rep K (LR.leave g g') σ H' env := by
  have w0 := R.ok
  have notM : ∀ {a o}, H a = some o → ¬ g.M a → ¬ g'.M a := fun {a o} e n m => by
    rcases w.nw a m with q | q
    · rw [le.m0] at q; exact n q
    · rw [le.h0] at q
      have q : H a = none := q
      rw [e] at q; cases q
  have nx : ∀ {a}, ¬ g'.XA a := fun {a} h => by rw [le.xa] at h; exact no_xa rfl h
  have kp : ∀ {a o}, H a = some o → ¬ g.M a → H' a = some o := fun {a o} e n => w.fr a o (by rw [le.m0]; exact n) nx (by rw [le.h0]; exact e)
  have bn : ∀ {a o}, H a = some o → g.B a = none → g'.B a = none := fun {a o} e n => w.bn a o nx (by rw [le.h0]; exact e) (by rw [le.b0]; exact n)
  have l1 := leave_le le
  refine R.move ⟨w.sb, w.pl, w.im, fun a o n n2 e => ?_, fun a m => ?_, fun a o e => ?_, fun a m => le.m _ (w0.m0 a m), fun a o nx e e2 => ?_, fun a x => ?_⟩ l1 rfl fun i a m => ?_
  · refine kp (w0.fr a o n n2 e) fun m => ?_
    rcases w0.nw a m with q | q
    · exact n q
    · have e : g.H0 a = some o := e
      rw [e] at q; cases q
  · rcases w.nw a m with q | q
    · rw [le.m0] at q; exact w0.nw a q
    · rw [le.h0] at q; exact .inr (w0.entry_none q)
  · obtain ⟨h1, h2, h3⟩ := w0.pv a o e
    exact ⟨kp h1 h3, bn h1 h2, notM h1 h3⟩
  · have q := w0.bn a o nx e e2
    rcases Classical.em (g.M a) with m | m
    · exact (w.pl a (le.m _ m)).2
    · by_cases c : g.M0 a
      · exact absurd (w0.m0 a c) m
      · exact bn (w0.fr a o c nx e) q
  · obtain ⟨⟨o, h1⟩, h2⟩ := w0.xp a x
    refine ⟨?_, h2⟩
    by_cases m : g.M a
    · obtain ⟨⟨_, _, _, _, h⟩, _⟩ := w.pl a (le.m _ m); exact ⟨_, h⟩
    · exact ⟨o, kp h1 m⟩
  · obtain ⟨v, o, b, _, _, q⟩ := R.ownC m
    obtain ⟨u, hu⟩ := q.ex a m
    have p := q.pv a m
    exact ⟨fun b' z => ⟨bn hu p.nb, notM hu p.nm, z.n0, z.np⟩, by rw [hu]; exact kp hu p.nm⟩
theorem IsRs.leave (R : Rep K g σ H env) {g' : G} (le : G.Le (LR.enter g H) g') {v r} (i : IsRs K g' H' v r) : IsR K (LR.leave g g') H' v r := by
  cases r with
  | d x => exact i
  | pool => exact i
  | scr ns => exact i.elim
  | fr l =>
    obtain ⟨fs, o⟩ := i
    have n0 : ∀ p ∈ fs, H p = none := fun p m => by
      rcases (o.pv p m).n0 with q | q
      · rw [le.h0] at q; exact q
      · cases q.1
    refine ⟨fs, ⟨o.is_, o.nd, fun p m => ⟨(o.pv p m).nb, (o.pv p m).nm, .inl (R.ok.entry_none (n0 p m)), ?_⟩, fun _ e => by cases e⟩, fun j p m h => ?_⟩
    · show g.P p = none
      cases e : g.P p with
      | none => rfl
      | some u =>
        have := (R.ok.pv p u e).1
        rw [n0 p m] at this; cases this
    · obtain ⟨v', o', b, _, _, q⟩ := R.ownC h
      obtain ⟨u, hu⟩ := q.ex p h
      rw [n0 p m] at hu; cases hu
end
def dCall (f : Fs) (da : DA) : DE := fun env Ed Q => da env Ed fun as => f as Ed Q
section
variable {X : Cx} {W : WX} {k j : Nat} {C : Addr} {x m : Str} {f : Fs} {p pos apos : Pos} {e o : Expr} {es : List Expr}
theorem spF_run {K : PySem.W.Frag} {g : G} {σ : L2.St} {H : Hp} {env : List Ev} {vs as} {Ed Qd} {Q : VK} (R : Rep K g σ H env) (i : IsAs K g vs as) (h : f as Ed Qd) (kv : KV K g σ env Qd Q) (kx : KX K W g σ env Ed) : spF K f vs H Q (WE W σ) := by
  refine ⟨enter g H, as, Ed, Qd, R.ok.enter, i.enter R.ok, h, fun v r H' g' le w ir q => ?_, fun e cls dd H' g' le w ir q => ?_⟩
  · exact kv v r H' _ (leave_le le) (R.leave le w) (ir.leave R le) q
  · exact kx e cls dd H' _ (leave_le le) (R.leave le w) ir q
theorem lift_call {K : PySem.W.Frag} {da : DA} {σ : L2.St} {H : Hp} {Q : VK} (h : lift K W (dCall f da) σ H Q) : tCallT (spF K f) W (liftA K W da) σ H Q := by
  obtain ⟨g, env, Ed, Qd, R, h, kv, kx⟩ := h
  exact ⟨g, env, Ed, _, R, h, fun vs as H1 g1 l1 R1 i1 q => spF_run R1 i1 q (kv.mono l1) (kx.mono l1), kx⟩
theorem qe_cT {da} (c : CalX X.prog X.w X.K X.mg X.base k x (spF X.K f)) (hr : Room j X.A) (hk : k ≤ j) (tk : Takes X W) (hg : Gl X x) (ha : QA X W (e :: es) da)
    (hdb : (x == ("__debug__" : Str)) = false := by decide) (he : starEach (e :: es) X.env = (false, eval e X.env) :: starEach es X.env := by rfl) (hpl : (backTo pos (starEach es X.env)).any (·.1) = false := by rfl) :
    QE X W (.Call (.Name x p) (e :: es) [] pos) (dCall f da) := (pe_cT c hr hk tk hg ha hdb he hpl).mono fun _ _ _ h => lift_call h
/-- a method of an instance of the class at C -/
def dMeth (C : Addr) (m : Str) (f : Fs) (d : DE) (da : DA) : DE := fun env Ed Q => d env Ed fun a => ∃ ks ds, a = .d (.ins C ks ds) ∧ ks.contains m = false ∧ da env Ed fun as => f (a :: as) Ed Q
theorem lookup_none {β : Type} {m : Str} : ∀ {fs : List (Str × β)}, (fs.map (·.1)).contains m = false → fs.lookup m = none
  | [], _ => rfl
  | (k, v) :: r, h => by
    rw [List.map_cons, List.contains_cons, Bool.or_eq_false_iff] at h
    rw [List.lookup_cons, h.1]
    exact lookup_none h.2
theorem qe_mtT {pl : Sem Bool} {d da} (c : MetX X.prog X.w X.K X.mg X.base k C m (spF X.K f)) (hr : Room j X.A) (hk : k ≤ j) (tk : Takes X W) (ho : QE X W o d) (ha : QA X W (e :: es) da)
    (hst : starEach (e :: es) X.env = (false, eval e X.env) :: starEach es X.env := by rfl) (hpl : (backTo pos (starEach es X.env)).any (·.1) = false := by rfl)
    (ht : eval (.Call (.Attribute o m apos) (e :: es) [] pos) X.env = (do
      let ov ← eval o X.env
      standAt apos.atName
      let (f, first) ← holding [ov] (getMethod ov m pl)
      callWith pos f first (backTo pos (starEach (e :: es) X.env)) (backToKw pos (keywordEach [] X.env))) := by rfl) :
    QE X W (.Call (.Attribute o m apos) (e :: es) [] pos) (dMeth C m f d da) := (pe_mtT (pl := pl) c hr hk tk ho ha hst hpl ht).mono fun σ H Q ⟨g, env, Ed, Qd, R, h, kv, kx⟩ => by
  refine lift.use R h (fun v r H1 g1 l1 R1 i1 ⟨ks, ds, er, em, q⟩ => ?_) kx
  subst er
  have i1 : Is X.K g1.B v (.ins C ks ds) := i1
  cases i1 with
  | ins hp k a cl na =>
    subst k
    refine ⟨_, _, _, rfl, R1.ok.sb _ _ hp, lookup_none em, g1, env, Ed, _, R1, q, fun vs as H2 g2 l2 R2 i2 q2 => ?_, kx.mono l1⟩
    exact spF_run R2 (.d ((Is.ins hp rfl a cl na).mono l2.b) i2) q2 ((kv.mono l1).mono l2) ((kx.mono l1).mono l2)
/-- an instance of the class at C is made -/
theorem qe_mkT {da} (c : MakX X.prog X.w X.K X.mg X.base k x C sp) (hr : Room j X.A) (hk : k + 1 ≤ j) (tk : Takes X W) (hg : Gl X x) (ha : QA X W (e :: es) da)
    (hsp : ∀ {vs H Q E}, spF X.K f vs H Q E → ∀ y dx, H y = none → H dx = none → dx ≠ y → sp (.ref y :: vs) (upd (upd H dx (.own y)) y (.ins C dx [])) (fun v H2 => v = .non ∧ Q (.ref y) H2) E)
    (hdb : (x == ("__debug__" : Str)) = false := by decide) (he : starEach (e :: es) X.env = (false, eval e X.env) :: starEach es X.env := by rfl) (hpl : (backTo pos (starEach es X.env)).any (·.1) = false := by rfl) :
    QE X W (.Call (.Name x p) (e :: es) [] pos) (dCall f da) := (pe_mkT c hr hk tk hg ha hdb he hpl).mono fun σ H Q ⟨g, env, Ed, Qd, R, h, kv, kx⟩ =>
  ⟨g, env, Ed, _, R, h, fun vs as H1 g1 l1 R1 i1 q y dx h1 h2 h3 => hsp (spF_run R1 i1 q (kv.mono l1) (kx.mono l1)) y dx h1 h2 h3, kx⟩
end
/-! ## a def keeps its promise -/
def arE : Ar → Ev
  | .d x => .d x
  | .pool => .pool
  | .scr ns => .scr ns
  | .fr _ => .any
def envOf : List Ar → Nat → List Ev
  | _, 0 => []
  | [], n + 1 => .any :: envOf [] n
  | a :: r, n + 1 => arE a :: envOf r n
def rtF (Qd : Ar → Prop) : Ar → Prop
  | .scr _ => False
  | .d x => Qd (.d x)
  | .pool => Qd .pool
  | .fr l => Qd (.fr l)
def Dn.ofF (Ed : Er → Prop) (Qd : Ar → Prop) : Dn := { nx := fun _ => Qd (.d .non), rt := fun _ => rtF Qd, er := fun e _ => Ed e }
section
variable {P : Program} {w : World} {K : PySem.W.Frag} {mg : Str → Option Value} {base : Heap}
theorem envOf_len : ∀ (as : List Ar) (n : Nat), (envOf as n).length = n
  | _, 0 => by cases ‹List Ar› <;> rfl
  | [], n + 1 => congrArg (· + 1) (envOf_len [] n)
  | _ :: r, n + 1 => congrArg (· + 1) (envOf_len r n)
theorem envOf_nil : ∀ (n i : Nat), nth (envOf [] n) i = .any
  | 0, _ => rfl
  | n + 1, 0 => rfl
  | n + 1, i + 1 => envOf_nil n i
theorem IsAs.slots {g : G} {H : Hp} {fs : List Addr} : ∀ {vs as} (_ : IsAs K g vs as) (n i : Nat), vs.length ≤ n → Sl K g H ((vs.map some ++ List.replicate (n - vs.length) none)[i]?) fs (nth (envOf as n) i)
  | _, _, .nil, n, i, _ => by rw [envOf_nil]; trivial
  | _, _, .d h t, 0, i, hn => absurd hn (Nat.not_succ_le_zero _)
  | _, _, .pool h t, 0, i, hn => absurd hn (Nat.not_succ_le_zero _)
  | _, _, .scr h t, 0, i, hn => absurd hn (Nat.not_succ_le_zero _)
  | _, _, .d h t, n + 1, 0, _ => ⟨_, rfl, h⟩
  | _, _, .pool h t, n + 1, 0, _ => ⟨_, rfl, h⟩
  | _, _, .scr h t, n + 1, 0, _ => ⟨_, rfl, h⟩
  | _, _, .d h t, n + 1, i + 1, hn => by have := t.slots (H := H) (fs := fs) n i (Nat.le_of_succ_le_succ hn); simpa [envOf, nth] using this
  | _, _, .pool h t, n + 1, i + 1, hn => by have := t.slots (H := H) (fs := fs) n i (Nat.le_of_succ_le_succ hn); simpa [envOf, nth] using this
  | _, _, .scr h t, n + 1, i + 1, hn => by have := t.slots (H := H) (fs := fs) n i (Nat.le_of_succ_le_succ hn); simpa [envOf, nth] using this
theorem IsAs.length {g : G} : ∀ {vs as}, IsAs K g vs as → vs.length = as.length
  | _, _, .nil => rfl
  | _, _, .d _ t => congrArg (· + 1) t.length
  | _, _, .pool _ t => congrArg (· + 1) t.length
  | _, _, .scr _ t => congrArg (· + 1) t.length
theorem rep_start {g : G} {H : Hp} {vs as} {N : List Str} (en : Enter g H) (i : IsAs K g vs as) (hn : vs.length ≤ N.length) : Rep K g (L2.start N vs) H (envOf as N.length) := by
  refine ⟨en.ok, ?_, fun j => i.slots N.length j hn, fun j _ => by rw [en.f], fun a b p _ ha => ?_⟩
  · unfold L2.start
    rw [envOf_len, List.length_append, List.length_map, List.length_replicate]; omega
  · rw [en.f] at ha; cases ha
/-- the def's body by its data: every argument list of the promise leads to its end -/
theorem body_dl {X : Cx} {W : WX} {E : XK} {ds : DS} {f : Fs} {N : List Str} {vs : List V} {H : Hp} {Q : VK} (hW : ∀ cls dd σ H, E cls dd H → W cls dd σ H)
    (hd : ∀ as Ed Qd, f as Ed Qd → as.length ≤ N.length ∧ ds (Dn.ofF Ed Qd) (envOf as N.length)) (h : spF X.K f vs H Q E) : liftS X.K W ds { nx := fun _ H' => Q .non H', rt := Q } (L2.start N vs) H := by
  obtain ⟨g, as, Ed, Qd, en, ia, hf, kv, kx⟩ := h
  obtain ⟨hl, hds⟩ := hd as Ed Qd hf
  refine ⟨g, _, Dn.ofF Ed Qd, rep_start en ia (by rw [ia.length]; exact hl), hds, ⟨fun σ' H' g' env' le R q => kv .non (.d .non) H' g' le R.ok .non q, fun _ _ _ _ _ _ z => z.elim, fun _ _ _ _ _ _ z => z.elim, fun v r σ' H' g' env' le R ir q => ?_, fun e cls dd σ' H' g' env' le R ir q => hW _ _ _ _ (kx e cls dd H' g' le R.ok ir q)⟩⟩
  cases r with
  | d x => exact kv v (.d x) H' g' le R.ok ir q
  | pool => exact kv v .pool H' g' le R.ok ir q
  | scr ns => exact (show False from q).elim
  | fr l => obtain ⟨fs, o, _⟩ := ir; exact kv v (.fr l) H' g' le R.ok ⟨fs, o⟩ q
theorem spF_len {f : Fs} {n : Nat} (hl : ∀ as Ed Qd, f as Ed Qd → as.length = n) : ∀ vs H Q E, spF K f vs H Q E → vs.length = n := fun vs H Q E ⟨g, as, Ed, Qd, _, ia, hf, _⟩ => by
  rw [ia.length]; exact hl _ _ _ hf
theorem DefIn.dl {x : Str} {st : Stmt} {N ps : List Str} {k : Nat} {f : Fs} (D : DefIn K mg x st ps) (S : FnScope N ps (defScope st)) (hl : ∀ as Ed Qd, f as Ed Qd → as.length = ps.length) (hN : ps.length ≤ N.length)
    (hbody : ∀ (fa : Addr) (cdv : Value) (A : Around) (outer : List Env) (s : Shared) (H : Hp) (E : XK), Room k (A.deeper (envOfC x (defScope st) s.heap.objs.size fa cdv)) →
      ∃ ds, QSs (cxOf (L2.CX P w) P w K mg base N x (defScope st) fa cdv A outer s H E) (fun cls d _ H => E cls d H) (defBody st) ds ∧ ∀ as Ed Qd, f as Ed Qd → ds (Dn.ofF Ed Qd) (envOf as N.length)) : CalX P w K mg base (k + 1) x (spF K f) := by
  refine D.calX S (spF_len hl) fun fa cdv A outer s H vs Q E hr h => ?_
  obtain ⟨ds, hq, hd⟩ := hbody fa cdv A outer s H E hr
  exact ⟨_, hq, body_dl (X := cxOf (L2.CX P w) P w K mg base N x (defScope st) fa cdv A outer s H E) (fun _ _ _ _ h => h) (fun as Ed Qd hf => ⟨by rw [hl as Ed Qd hf]; exact hN, hd as Ed Qd hf⟩) h⟩
end
end LR
set_option Elab.async false
set_option maxRecDepth 100000
set_option linter.all false
set_option maxHeartbeats 4000000
namespace LR
open PySem PySem.Spec PyProof.Rows L2
/-! # the data layer: raise and try -/
/-- a message: its parts can be written -/
def okMsg : D → Prop
  | .int i => i.natAbs < 2 ^ 1900
  | .str s => s.length ≤ 1000
  | _ => False
def msgs : List PF → List Ev → Prop
  | [], _ => True
  | p :: r, env => (∃ x, p env = some x ∧ okMsg x) ∧ msgs r env
def dMsg (ps : List PF) : DE := fun env _ Q => msgs ps env ∧ ∀ s : Str, Q (.d (.str s))
section
variable {X : Cx} {W : WX} {pos : Pos}
/-- the parts of an f-string: written text, or a value -/
inductive QJ (X : Cx) : List Expr → List PF → Prop
  | nil : QJ X [] []
  | txt {e es ps} {x : Str} (h : QP X e (pc (.str x))) (r : QJ X es ps) : QJ X (e :: es) (pc (.str x) :: ps)
  | val {e es p ps q} (h : QP X e p) (r : QJ X es ps) : QJ X (.FormattedValue e (-1) none q :: es) (p :: ps)
theorem QJ.pj (W : WX) {es ps} (h : QJ X es ps) : ∃ ts, PJ X es ts ∧ ∀ {g : G} {σ H env} (n : Nat) (acc : Str) (Q : Str → Hp → Prop), Rep X.K g σ H env → msgs ps env → acc.length ≤ n → n + 2000 * ps.length ≤ 100000 →
    (∀ out H' g', G.Le g g' → Rep X.K g' σ H' env → Q out H') → tJs ts acc σ H Q := by
  induction h with
  | nil => exact ⟨[], .nil, fun n acc Q R _ _ _ k => k _ _ _ .rfl R⟩
  | @txt e es ps x h r ih =>
    obtain ⟨ts, hts, k⟩ := ih
    refine ⟨_, .cons (h W) hts, fun {g σ H env} n acc Q R m hn hz kk => ?_⟩
    obtain ⟨⟨y, ey, oy⟩, m⟩ := m
    cases ey
    have hz : n + 2000 * (ps.length + 1) ≤ 100000 := hz
    refine lift.useP R rfl fun v H1 g1 l1 R1 i1 => ?_
    have oy : x.length ≤ 1000 := oy
    have hl : (acc ++ x).length ≤ n + 2000 := by rw [Str.length_append]; omega
    exact ⟨x, i1.strE, line5 (by omega), k _ _ _ R1 m hl (by omega) fun out H' g' l2 R2 => kk out H' g' (l1.trans l2) R2⟩
  | @val e es p ps q h r ih =>
    obtain ⟨ts, hts, k⟩ := ih
    refine ⟨_, .cons (pe_fmt (h W)) hts, fun {g σ H env} n acc Q R m hn hz kk => ?_⟩
    obtain ⟨⟨y, ey, oy⟩, m⟩ := m
    have hz : n + 2000 * (ps.length + 1) ≤ 100000 := hz
    refine lift.useP R ey fun v H1 g1 l1 R1 i1 => ?_
    cases y with
    | int i =>
      have oy : i.natAbs < 2 ^ 1900 := oy
      have hy := PyProof.Rows.int_text_len_1921 (log_small oy)
      have hl : (acc ++ Str.ofString (toString i)).length ≤ n + 2000 := by rw [Str.length_append]; omega
      exact .inr ⟨i, i1.intE, log_small oy, _, rfl, line5 (by omega), k _ _ _ R1 m hl (by omega) fun out H' g' l2 R2 => kk out H' g' (l1.trans l2) R2⟩
    | str x =>
      have oy : x.length ≤ 1000 := oy
      have hl : (acc ++ x).length ≤ n + 2000 := by rw [Str.length_append]; omega
      exact .inl ⟨x, i1.strE, line5 (by omega), _, rfl, line5 (by omega), k _ _ _ R1 m hl (by omega) fun out H' g' l2 R2 => kk out H' g' (l1.trans l2) R2⟩
    | _ => exact oy.elim
theorem qe_msg {v1 v2 : Expr} {rest : List Expr} {ps} (h : QJ X (v1 :: v2 :: rest) ps) (hz : ps.length ≤ 40 := by decide) : QE X W (.JoinedStr (v1 :: v2 :: rest) pos) (dMsg ps) := by
  obtain ⟨ts, hts, k⟩ := h.pj W
  exact (pe_joined hts).mono fun σ H Q ⟨g, env, Ed, Qd, R, ⟨m, q⟩, kv, kx⟩ => k 0 Str.empty _ R m (by show 0 ≤ 0; decide) (by omega) fun out H' g' le R' => kv _ (.d (.str out)) H' g' le R' (.str out) (q out)
/-! ## raise -/
/-- raise C(v), the error's own __init__ keeps the field -/
def dRaise (C : Addr) (fld : Str) (d : DE) : DS := fun Dd env => d env (fun e => Dd.er e env) (asD fun x => ∃ v, x = .int v ∧ v.natAbs < 2 ^ 1900 ∧ Dd.er ⟨C, some [(fld, .int v)]⟩ env)
theorem IsEr.new {K : PySem.W.Frag} {g : G} {σ : L2.St} {H : Hp} {env : List Ev} {C : Addr} {fs : List (Str × V)} {d : Addr} (R : Rep K g σ H env) (hd : H d = none) : Rep K (g.new d (.xd fs)) σ (upd H d (.xd fs)) env ∧ IsEr (g.new d (.xd fs)).B (.ref C) (some d) ⟨C, some fs⟩ :=
  ⟨R.new hd, rfl, d, rfl, by show upd g.B d _ d = _; exact upd_same⟩
theorem qs_raise {C : Addr} {fld : Str} {st : Stmt} {d : DE} (hp : PS X st (fun _ σ H => tMkE C fld (tCons (lift X.K W d) tNil) σ H fun cls dd H' => W cls dd σ H')) : QS X W st (dRaise C fld d) := hp.mono fun D σ H ⟨g, env, Dd, R, h, l⟩ => by
  refine lift.useD R h (fun v x H1 g1 l1 R1 i1 ⟨n, ex, hn, q⟩ => ?_) l.kx
  subst ex
  cases i1
  exact mkE (C := C) (fld := fld) (H := H1) (Q := fun cls dd H' => W cls dd σ H') hn fun d hd => by
    obtain ⟨R2, ir⟩ := IsEr.new (C := C) (fs := [(fld, .int n)]) R1 hd
    exact l.er _ _ _ _ _ _ _ (l1.trans (R1.le_new hd)) R2 ir q
/-- raise C('..'), no __init__ of its own -/
def dRaise0 (C : Addr) (d : DE) : DS := fun Dd env => d env (fun e => Dd.er e env) fun _ => Dd.er ⟨C, none⟩ env
/-! ## try -/
end
/-! ## in a suite: the error's field, isinstance -/
def toD : V → D
  | .int i => .int i
  | .str s => .str s
  | .bl b => .bl b
  | _ => .non
end LR
set_option Elab.async false
set_option maxRecDepth 100000
set_option linter.all false
set_option maxHeartbeats 4000000
namespace LR
open PySem PySem.Spec PyProof.Rows L2
/-! # the data layer: the rules as the texts use them -/
section
variable {X : Cx} {W : WX} {st : Stmt} {pos : Pos} {e : Expr} {i : Nat}
theorem qs_setN {x : Str} {d : DE} {pos' : Pos} (w : Bool) (hN : X.N.Nodup) (hi : X.N[i]? = some x) (hx : Loc X.env.scope x) (he : QE X W e d) (hs : swapsWith e (some (.Name x pos')) pos.line X.env = pure false := by rfl) (hf : X.fn x = true ∨ X.env.scope.names.lookup x = some .local := by first | exact .inl rfl | exact .inr rfl | assumption) :
    QS X W (.Assign [.Name x pos'] e pos) (dSet w i d) := (ps_set hN hi hx he hs hf).mono fun _ _ _ h => lift_set h
theorem lift_setT {K : PySem.W.Frag} {W : WX} {w : Bool} {d : DE} {t : TE} {D : Ends} {σ : L2.St} {H : Hp} (m : ∀ {σ H Q}, lift K W d σ H Q → t σ H Q) (h : liftS K W (dSet w i d) D σ H) : tAsg t (gName i) D σ H := m (lift_set h)
theorem qs_setLc {elt tg iter : Expr} {ifs : List Expr} {scope : Scope} {own : List (Str × Nat)} {spos py : Pos} {y : Str} {it : DI} {b : DG} {dt : DT} {de : DE} (w : Bool) (hc : X.calm = true) (hN : X.N.Nodup) (hy : X.N[i]? = some y) (hyl : X.env.scope.names.lookup y = some .local)
    (hsw : swapsWith (.ListComp elt [⟨tg, iter, ifs, 0⟩] scope pos) (some (.Name y py)) spos.line X.env = pure true) (hi : QI X W tg iter it) (ok : BlkOk X.N X.env.scope scope own)
    (hg : ∀ (s : Shared) (H : Hp) (C : Addr) (cl : List (Str × Addr)) (fp : List Addr), QG (X.blk s H scope (compEnvC scope cl C X.env) fp) (own.map Prod.snd) tg b)
    (ht : ∀ (s : Shared) (H : Hp) (C : Addr) (cl : List (Str × Addr)) (fp : List Addr), QTs (X.blk s H scope (compEnvC scope cl C X.env) fp) WF ifs dt)
    (he : ∀ (s : Shared) (H : Hp) (C : Addr) (cl : List (Str × Addr)) (fp : List Addr), QE (X.blk s H scope (compEnvC scope cl C X.env) fp) WF elt de) (hs : ∀ x, foldedSetIterable iter X.env x = pure x := by intro _; rfl) :
    QS X W (.Assign [.Name y py] (.ListComp elt [⟨tg, iter, ifs, 0⟩] scope pos) spos) (dSet w i (dLc (own.map Prod.snd) it b dt de)) :=
  (ps_setLc (g := liftG X.K (own.map Prod.snd) b) (tt := liftT X.K WF dt) (te := lift X.K WF de) hc hN hy hyl hsw hi ok hg ht he hs).mono fun _ _ _ h => lift_setT lift_lc h
theorem qs_setLcP {elt tg iter : Expr} {ifs : List Expr} {scope : Scope} {own : List (Str × Nat)} {spos py : Pos} {y : Str} {it : DIp} {b : DG} {pt pe : PF} (w : Bool) (hc : X.calm = true) (hN : X.N.Nodup) (hy : X.N[i]? = some y) (hyl : X.env.scope.names.lookup y = some .local)
    (hsw : swapsWith (.ListComp elt [⟨tg, iter, ifs, 0⟩] scope pos) (some (.Name y py)) spos.line X.env = pure true) (hi : QI X W tg iter it.di) (ok : BlkOk X.N X.env.scope scope own)
    (hg : ∀ (s : Shared) (H : Hp) (C : Addr) (cl : List (Str × Addr)) (fp : List Addr), QG (X.blk s H scope (compEnvC scope cl C X.env) fp) (own.map Prod.snd) tg b)
    (ht : ∀ (s : Shared) (H : Hp) (C : Addr) (cl : List (Str × Addr)) (fp : List Addr), QPTs (X.blk s H scope (compEnvC scope cl C X.env) fp) ifs pt)
    (he : ∀ (s : Shared) (H : Hp) (C : Addr) (cl : List (Str × Addr)) (fp : List Addr), QP (X.blk s H scope (compEnvC scope cl C X.env) fp) elt pe) (hs : ∀ x, foldedSetIterable iter X.env x = pure x := by intro _; rfl) :
    QS X W (.Assign [.Name y py] (.ListComp elt [⟨tg, iter, ifs, 0⟩] scope pos) spos) (dSet w i (dF (plc (own.map Prod.snd) it.p b pt pe))) :=
  PS.mono (qs_setLc w hc hN hy hyl hsw hi ok hg (fun s H C cl fp => ht s H C cl fp WF) (fun s H C cl fp => he s H C cl fp WF) hs) fun _ _ _ h => h.imp fun Dd env ⟨l, e, q⟩ => plc_dLc e q
/-- targets of several names -/
theorem qgs_cons' {vs : List Nat} {n : Nat} {t : Expr} {ts : List Expr} {b r} (h : QG X vs t b) (h2 : QGs X vs n ts r) (hst : (assignEach (t :: ts) X.env).map (·.2) = assign t X.env :: (assignEach ts X.env).map (·.2) := by rfl) : QGs X vs (n + 1) (t :: ts) (bsCons b r) :=
  qgs_cons h h2 (pgs_cons h h2.run hst)
theorem qg_tup' {vs : List Nat} {es : List Expr} {k n : Nat} {r} (hc : X.calm = true) (h : QGs X vs n es r) (hn : (assignEach es X.env).length = n := by rfl) (hst : (assignEach es X.env).findIdx? (·.1) = none := by rfl) : QG X vs (.Tuple es k pos) (bTup r) := qg_tup hc h (pg_tup hc h.run hn hst)
theorem qs_raiseE {x fld : Str} {C : Addr} {k : Nat} {e : Expr} {p pos2 : Pos} {d : DE} (hc : X.calm = true) (tk : Takes X W) (D : ErrOk X.prog X.w X.K X.mg X.base x C fld) (hr : Room k X.A) (hk : 2 ≤ k) (he : QE X W e d) (hg : Gl X x) (hdb : (x == ("__debug__" : Str)) = false := by decide)
    (hs : starEach [e] X.env = (false, eval e X.env) :: starEach [] X.env := by rfl) (hpl : (backTo pos2 (starEach [] X.env)).any (·.1) = false := by rfl) : QS X W (.Raise (some (.Call (.Name x p) [e] [] pos2)) none pos) (dRaise C fld d) :=
  qs_raise (ps_raise hc tk (pmk_err D hr hk (pa_cons he pa_nil hs) hg hdb hs hpl))
theorem qs_raiseP {x : Str} {C : Addr} {e : Expr} {p pos2 : Pos} {d : DE} {bmB : List Value} {B newId initId : String} (hc : X.calm = true) (tk : Takes X W) (F : ExcBaseFacts B newId initId bmB) (q : PySem.W.excIn X.K C bmB newId = true) (gC : X.mg x = some (.ref C)) (kC : PySem.W.keepIn X.K (.ref C) = true) (r : Raises X (.ref C)) (hg : Gl X x)
    (he : QE X W e d) (hs : starEach [e] X.env = (false, eval e X.env) :: starEach [] X.env := by rfl) (hdb : (x == ("__debug__" : Str)) = false := by decide) : QS X W (.Raise (some (.Call (.Name x p) [e] [] pos2)) none pos) (dRaise0 C d) :=
  (ps_raise hc tk (SkE.pmk_own1 F q gC kC r hg he hs hdb)).mono fun D σ H ⟨g, env, Dd, R, h, l⟩ =>
    lift.use R h (fun v a H1 g1 l1 R1 i1 q => l.er ⟨C, none⟩ _ _ _ _ _ _ l1 R1 ⟨rfl, rfl⟩ q) l.kx
end
end LR
set_option Elab.async false
set_option maxRecDepth 100000
set_option linter.all false
set_option maxHeartbeats 4000000
namespace LR
open PySem PySem.Spec PyProof.Rows L2
/-! # the data layer: what is often asked of data -/
abbrev nat (n : Nat) : D := .int (n : Int)
abbrev natL (l : List Nat) : D := .lst (l.map nat)
abbrev intL (l : List Int) : D := .lst (l.map .int)
abbrev intT (l : List Int) : D := .tup (l.map .int)
abbrev edL (l : List (List Int)) : D := .lst (l.map intT)
abbrev edT (l : List (List Int)) : D := .tup (l.map intT)
/-! ## comprehensions -/
theorem pcol_map {α : Type} {f : D → Option (Option D)} {enc : α → D} {P : α → Bool} {F : α → D} : ∀ {l : List α}, (∀ x ∈ l, f (enc x) = some (if P x = true then some (F x) else none)) → pcol f (l.map enc) = some ((l.filter P).map F)
  | [], _ => rfl
  | x :: l, h => by
    have h1 := h x List.mem_cons_self
    have h2 := pcol_map (l := l) fun y hy => h y (List.mem_cons_of_mem _ hy)
    rw [List.map_cons, pcol, h1, h2]
    by_cases c : P x = true
    · rw [if_pos c, List.filter_cons_of_pos c]; rfl
    · rw [if_neg c, List.filter_cons_of_neg c]
theorem pcol_all {α : Type} {f : D → Option (Option D)} {enc : α → D} {F : α → D} {l : List α} (h : ∀ x ∈ l, f (enc x) = some (some (F x))) : pcol f (l.map enc) = some (l.map F) := by
  have := pcol_map (f := f) (enc := enc) (P := fun _ => true) (F := F) (l := l) fun x hx => by rw [h x hx]; rfl
  rwa [List.filter_eq_self.mpr (fun _ _ => rfl)] at this
theorem pturn_of {b : DG} {pt pe : PF} {env e2 : List Ev} {x y : D} {c : Bool} (h1 : b x env = some e2) (h2 : pt e2 = some (.bl c)) (h3 : c = true → pe e2 = some y) : pturn b pt pe env x = some (if c = true then some y else none) := by
  unfold pturn
  rw [h1]
  dsimp only
  rw [h2]
  cases c with
  | true => dsimp only; rw [h3 rfl]; rfl
  | false => rfl
theorem plc_of {vs : List Nat} {it : List Ev → Option (List D)} {b : DG} {pt pe : PF} {env : List Ev} {l r : List D} (h1 : ownFree env vs = true) (h2 : it env = some l) (h3 : pcol (pturn b pt pe (wipeE env vs)) l = some r) : plc vs it b pt pe env = some (.lst r) := by
  unfold plc
  rw [if_pos h1, h2]
  dsimp only
  rw [h3]
theorem pN1 {f : List D → Option D} {p : PF} {env : List Ev} {x z : D} (h : p env = some x) (h2 : f [x] = some z) : pN f [p] env = some z := by
  unfold pN evs
  rw [h]; exact h2
theorem pN2 {f : List D → Option D} {p q : PF} {env : List Ev} {x y z : D} (h : p env = some x) (h1 : q env = some y) (h2 : f [x, y] = some z) : pN f [p, q] env = some z := by
  unfold pN evs evs
  rw [h, h1]; exact h2
theorem p1_of {f : D → Option D} {p : PF} {env : List Ev} {x z : D} (h : p env = some x) (h2 : f x = some z) : p1 f p env = some z := by
  unfold p1
  rw [h]; exact h2
theorem p2_of {f : D → D → Option D} {p q : PF} {env : List Ev} {x y z : D} (h : p env = some x) (h1 : q env = some y) (h2 : f x y = some z) : p2 f p q env = some z := by
  unfold p2
  rw [h, h1]; exact h2
theorem pand_of {p q : PF} {env : List Ev} {a b : Bool} (h : p env = some (.bl a)) (h2 : a = true → q env = some (.bl b)) (h3 : a = false → b = false) : pand p q env = some (.bl b) := by
  unfold pand andD
  rw [h]
  cases a with
  | true => rw [h2 rfl]; simp
  | false =>
    have h3 := h3 rfl
    subst h3
    dsimp only
    split
    · rw [Bool.false_and]
    · rfl
theorem por_of {p q : PF} {env : List Ev} {a b : Bool} (h : p env = some (.bl a)) (h2 : a = false → q env = some (.bl b)) (h3 : a = true → b = true) : por p q env = some (.bl b) := by
  unfold por orD
  rw [h]
  cases a with
  | false => rw [h2 rfl]; simp
  | true =>
    have h3 := h3 rfl
    subst h3
    dsimp only
    split
    · rw [Bool.true_or]
    · rfl
theorem all_map {α : Type} {l : List α} {g : α → Bool} : allDD [.lst (l.map fun e => .bl (g e))] = some (.bl (l.all g)) := by
  show (bls _).map _ = _
  rw [show (fun e : α => D.bl (g e)) = D.bl ∘ g from rfl, ← List.map_map, bls_map]
  show some (D.bl ((l.map g).all id)) = _
  rw [List.all_map]; rfl
theorem any_map {α : Type} {l : List α} {g : α → Bool} : anyD [.lst (l.map fun e => .bl (g e))] = some (.bl (l.any g)) := by
  show (bls _).map _ = _
  rw [show (fun e : α => D.bl (g e)) = D.bl ∘ g from rfl, ← List.map_map, bls_map]
  show some (D.bl ((l.map g).any id)) = _
  rw [List.any_map]; rfl
/-! ## data that == tells apart as = does -/
theorem okn_ints (n : Nat) (l : List Int) : okn (n + 1) (intL l) = true := by simp [okn]
theorem nbn_ints (n : Nat) (l : List Int) : nbn (n + 1) (intL l) = true := by simp [nbn]
theorem deq_int (i j : Int) : deq (.int i) (.int j) = decide (i = j) := by simp [deq, D.py, PyData.eqv]; rw [Bool.eq_iff_iff]; simp
theorem eqD_ok {x y : D} (h1 : okn 30 x = true) (h2 : okn 30 y = true) : eqD x y = some (.bl (deq x y)) := by
  unfold eqD
  split
  · rw [deq_int]
  · rw [if_pos ⟨by simpa [okn] using h1, by simpa [okn] using h2⟩]
    simp [deq, D.py, PyData.eqv]; rw [Bool.eq_iff_iff]; simp
  · simp [deq, D.py, PyData.eqv]; rw [Bool.eq_iff_iff]; simp
  · simp [deq, D.py, PyData.eqv]
  · simp [deq, D.py, PyData.eqv]
  · simp [deq, D.py, PyData.eqv]
  · rw [if_pos ⟨h1, h2⟩]
theorem eqD_nb {x y : D} (n : Nat) (h1 : okn 30 x = true) (h2 : okn 30 y = true) (h3 : nbn n x = true) (h4 : nbn n y = true) {c : Bool} (hc : c = true ↔ x = y) : eqD x y = some (.bl c) := by
  rw [eqD_ok h1 h2]
  have := deq_iff n x y h3 h4
  rw [← hc] at this
  congr 2
  rw [Bool.eq_iff_iff]; exact this
theorem inL_ints (i : Int) (l : List Int) : inL (.int i) (l.map .int) = some (.bl (decide (i ∈ l))) := by
  unfold inL
  rw [if_pos ⟨rfl, by simp [okn]⟩]
  congr 2
  rw [Bool.eq_iff_iff, List.any_eq_true, decide_eq_true_eq]
  constructor
  · rintro ⟨x, hx, e⟩
    obtain ⟨j, hj, rfl⟩ := List.mem_map.mp hx
    rw [deq_int, decide_eq_true_eq] at e
    subst e; exact hj
  · intro h
    exact ⟨.int i, List.mem_map.mpr ⟨i, h, rfl⟩, by rw [deq_int]; simp⟩
theorem inL_nats (i : Nat) (l : List Nat) : inL (nat i) (l.map nat) = some (.bl (decide (i ∈ l))) := by
  have := inL_ints (i : Int) (l.map Int.ofNat)
  rw [List.map_map] at this
  refine this.trans ?_
  congr 2
  rw [Bool.eq_iff_iff, decide_eq_true_eq, decide_eq_true_eq, List.mem_map]
  constructor
  · rintro ⟨j, hj, e⟩
    have e : ((j : Nat) : Int) = (i : Int) := e
    have : j = i := by omega
    subst this; exact hj
  · intro h; exact ⟨i, h, rfl⟩
/-! ## indices -/
theorem atI_of {α : Type} {xs : List α} {k : Nat} {x : α} (h : xs[k]? = some x) : atI xs (k : Int) = some x := by
  have hk := (List.getElem?_eq_some_iff.mp h).1
  unfold atI ixN
  rw [if_pos (by omega), if_pos (by omega)]
  show xs[(k : Int).toNat]? = some x
  rw [Int.toNat_natCast]; exact h
theorem ixN_of {n k : Nat} (h : k < n) : ixN n (k : Int) = some k := by
  unfold ixN
  rw [if_pos (by omega), if_pos (by omega)]
  rfl
theorem rgD_nat (n : Nat) : rgD 0 ((n : Int).toNat) = (List.range n).map nat := by
  unfold rgD
  rw [Int.toNat_natCast]
  exact List.map_congr_left fun i _ => by show D.int _ = D.int _; rw [Int.zero_add]
end LR
set_option Elab.async false
set_option maxRecDepth 100000
set_option linter.all false
set_option maxHeartbeats 4000000
namespace LR
open PySem PySem.Spec PyProof.Rows L2
/-! # the data layer: more rules -/
section
variable {X : Cx} {W : WX} {pos : Pos} {e a b : Expr}
def negD : D → Option D
  | .int i => some (.int (-i))
  | _ => none
theorem qp_neg {p : PF} (h : QP X a p) : QP X (.UnaryOp .USub a pos) (p1 negD p) := fun W => (pe_un un_neg (h W)).mono fun σ H Q ⟨g, env, Ed, Qd, R, ⟨z, hz, q⟩, kv, kx⟩ => by
  obtain ⟨x, ex, ez⟩ := p1_some hz
  refine lift.useP R ex fun v H1 g1 l1 R1 i1 => ?_
  cases x with
  | int i => cases ez; exact ⟨i, i1.intE, kv _ (.d (.int (-i))) H1 g1 l1 R1 (.int _) q⟩
  | _ => cases ez
/-! ## fresh lists -/
def dListF (d : DE) : DE := fun env Ed Q => d env Ed (asD fun x => ∃ l, listD [x] = some (.lst l) ∧ Q (.fr (.ls l)))
theorem qe_listF {d : DE} {x : Str} {p : Pos} (hg : Gl X x) (hm : X.mg x = none) (hv : bootBuiltins x = some (.type "list")) (ha : QE X W e d) (hn : x ≠ "__name__" := by decide) (hdb : (x == ("__debug__" : Str)) = false := by decide)
    (he : starEach [e] X.env = (false, eval e X.env) :: starEach [] X.env := by rfl) (hpl : (backTo pos (starEach [] X.env)).any (·.1) = false := by rfl) : QE X W (.Call (.Name x p) [e] [] pos) (dListF d) :=
  (pe_callTy call_list_of hg hm hv (pa_cons ha pa_nil he) hn hdb he hpl).mono fun σ H Q ⟨g, env, Ed, Qd, R, h, kv, kx⟩ => by
  refine lift.useD R h (fun v y H1 g1 l1 R1 i1 ⟨l, el, q⟩ => ?_) kx
  have sb := R1.ok.sb
  have fin : ∀ {ys : List V}, Iss X.K g1.B ys l → ys.length ≤ 100000 → ∀ p, H1 p = none → Q (.ref p) (upd H1 p (.lst ys)) := fun {ys} i z p hp => by
    obtain ⟨R2, r2⟩ := upd_own R1 hp i z
    exact kv _ _ _ _ l1 R2 r2 q
  cases y with
  | lst m =>
    cases el
    obtain ⟨p, xs, rfl, hp, ip, zp⟩ := i1.lstE
    exact ⟨p, xs, rfl, .inl (SqL.of (sb _ _ hp)), fin ip zp⟩
  | tup m =>
    cases el
    obtain ⟨p, xs, rfl, hp, ip, zp⟩ := i1.tupE
    exact ⟨p, xs, rfl, .inr (SqT.of (sb _ _ hp)), fin ip zp⟩
  | _ => cases el
def dRepF (d : DE) (dk : DE) : DE := fun env Ed Q => d env Ed (asD fun x => dk env Ed (asD fun y => ∃ l k, x = .lst l ∧ y = .int k ∧ smI k = true ∧ l.length * k.toNat ≤ 100000 ∧ Q (.fr (.ls (List.replicate k.toNat l).flatten))))
theorem qe_repF {d dk : DE} (ha : QE X W a d) (hb : QE X W b dk) : QE X W (.BinOp a .Mult b pos) (dRepF d dk) := (pe_op op_rep ha hb).mono fun σ H Q ⟨g, env, Ed, Qd, R, h, kv, kx⟩ => by
  refine lift.useD R h (fun v x H1 g1 l1 R1 i1 q => lift.useD R1 q (fun u y H2 g2 l2 R2 i2 ⟨l, k, ex, ey, sk, z, qq⟩ => ?_) (kx.mono l1)) kx
  subst ex ey
  obtain ⟨p, xs, rfl, hp, ip, zp⟩ := (i1.mono l2.b).lstE
  have hl := ip.length
  have sm2 := sk
  unfold smI at sm2
  simp only [Bool.and_eq_true, decide_eq_true_eq] at sm2
  refine ⟨p, k, xs, rfl, i2.intE, R2.ok.sb _ _ hp, by omega, by omega, line5 (by rw [hl]; exact z), fun q' hq => ?_⟩
  obtain ⟨R3, r3⟩ := upd_own R2 hq (ip.reps k.toNat) (by rw [reps_len, hl]; exact z)
  exact kv _ _ _ _ (l1.trans l2) R3 r3 qq
/-- list(range(n)) -/
def dListRg (w : Bool) (d : DE) : DE := fun env Ed Q => d env Ed (asD fun x => ∃ n : Int, x = .int n ∧ 0 ≤ n ∧ n ≤ 100000 ∧ Q (if w then .fr (.ls (rgD 0 n.toNat)) else .d (.lst (rgD 0 n.toNat))))
theorem qe_listRg {d : DE} {p p2 pos2 : Pos} (w : Bool) (hc : X.calm = true) (hg : Gl X "list") (hm : X.mg "list" = none) (hg2 : Gl X "range") (hm2 : X.mg "range" = none) (ha : QE X W e d)
    (na : starEach [e] X.env = (false, eval e X.env) :: starEach [] X.env := by rfl) (nb : starEach [.Call (.Name "range" p2) [e] [] pos2] X.env = (false, eval (.Call (.Name "range" p2) [e] [] pos2) X.env) :: starEach [] X.env := by rfl) : QE X W (.Call (.Name "list" p) [.Call (.Name "range" p2) [e] [] pos2] [] pos) (dListRg w d) :=
  (pe_listRg hc hg hm (prg_1 hg2 hm2 ha na) nb).mono fun σ H Q ⟨g, env, Ed, Qd, R, h, kv, kx⟩ => by
  refine lift.useD R h (fun v y H1 g1 l1 R1 i1 ⟨n, ey, h0, h1, q⟩ => ?_) kx
  subst ey
  refine ⟨n, i1.intE, RgOk.of_le (by decide) (by omega) (by decide) h0, fun q' hq => ?_⟩
  have eq : rgV 0 n = (List.range n.toNat).map fun i => V.int (0 + (i : Nat)) := by unfold rgV; rw [Int.sub_zero]
  have iss : Iss X.K g1.B (rgV 0 n) (rgD 0 n.toNat) := by
    rw [eq]; unfold rgD
    have : ∀ l : List Nat, Iss X.K g1.B (l.map fun i => V.int (0 + (i : Nat))) (l.map fun i => D.int (0 + (i : Nat))) := fun l => by
      induction l with
      | nil => exact .nil
      | cons x r ih => exact .cons (.int _) ih
    exact this _
  have z : (rgV 0 n).length ≤ 100000 := by rw [rgV_length]; omega
  cases w with
  | true =>
    obtain ⟨R3, r3⟩ := upd_own R1 hq iss z
    exact kv _ _ _ _ l1 R3 r3 q
  | false => exact new_lst R1 iss z (fun v' H' g' l2 R2 i2 => kv _ (.d (.lst _)) _ _ (l1.trans l2) R2 i2 q) q' hq
def plistRg (p : PF) : PF := fun env => match p env with
  | some (.int n) => if 0 ≤ n ∧ n ≤ 100000 then some (.lst (rgD 0 n.toNat)) else none
  | _ => none
theorem qp_listRg {q : PF} {p p2 pos2 : Pos} (hc : X.calm = true) (hg : Gl X "list") (hm : X.mg "list" = none) (hg2 : Gl X "range") (hm2 : X.mg "range" = none) (ha : QP X e q)
    (na : starEach [e] X.env = (false, eval e X.env) :: starEach [] X.env := by rfl) (nb : starEach [.Call (.Name "range" p2) [e] [] pos2] X.env = (false, eval (.Call (.Name "range" p2) [e] [] pos2) X.env) :: starEach [] X.env := by rfl) : QP X (.Call (.Name "list" p) [.Call (.Name "range" p2) [e] [] pos2] [] pos) (plistRg q) :=
  fun W => PE.mono (qe_listRg false hc hg hm hg2 hm2 (ha W) na nb) fun _ _ _ h => h.imp fun env Ed Q ⟨z, hz, q'⟩ => by
    unfold plistRg at hz
    split at hz
    · rename_i n en
      split at hz
      · rename_i hn; cases hz; exact ⟨_, en, n, rfl, hn.1, hn.2, q'⟩
      · cases hz
    · cases hz
/-! ## what one owns lent to what gives none of it -/
def dLoanE (d : DE) : DE := fun env Ed Q => d (un env) Ed fun r => ∃ x, r = .d x ∧ imd x = true ∧ Q (.d x)
theorem kx_unlend {K : PySem.W.Frag} {W : WX} {g : G} {σ : L2.St} {H : Hp} {env : List Ev} {Ed : Er → Prop} (R : Rep K g σ H env) (kx : KX K W g σ env Ed) : KX K W (g.lent H) σ (un env) Ed := fun er cls dd H1 g1 l1 R1 ir q => by
  obtain ⟨l3, R3, _, hx, _⟩ := R.unlend l1 R1
  refine kx er cls dd H1 _ l3 R3 ⟨ir.1, ?_⟩ q
  have h := ir.2
  cases e : er.fs with
  | none => rw [e] at h; exact h
  | some fs => rw [e] at h; obtain ⟨d, e1, e2⟩ := h; exact ⟨d, e1, hx _ _ e2⟩
theorem qe_loanE {d : DE} (h : QE X W e d) : QE X W e (dLoanE d) := PE.mono h fun σ H Q ⟨g, env, Ed, Qd, R, h, kv, kx⟩ => by
  refine lift.use R.lend h (fun v r H1 g1 l1 R1 i1 ⟨x, er, sx, q⟩ => ?_) (kx_unlend R kx)
  subst er
  obtain ⟨l3, R3, im, _⟩ := R.unlend l1 R1
  exact kv v (.d x) H1 _ l3 R3 (Is.less im i1 sx) q
def dLoanTE (d : DT) : DT := fun env Ed Q => d (un env) Ed Q
theorem qt_loanE {d : DT} (h : QT X W e d) : QT X W e (dLoanTE d) := PT.mono h fun σ H Q ⟨g, env, Ed, Qd, R, h, kv, kx⟩ => by
  refine ⟨g.lent H, un env, Ed, Qd, R.lend, h, fun b H1 g1 l1 R1 q => ?_, kx_unlend R kx⟩
  obtain ⟨l3, R3, _⟩ := R.unlend l1 R1
  exact kv b H1 _ l3 R3 q
end
end LR
set_option Elab.async false
set_option maxRecDepth 100000
set_option linter.all false
set_option maxHeartbeats 4000000
namespace LR
open PySem PySem.Spec PyProof.Rows L2
/-! # the data layer: promises told by heaps, told by data -/
section
variable {P : Program} {w : World} {K : PySem.W.Frag} {mg : Str → Option Value} {base : Heap} {k : Nat} {x m : Str} {C : Addr} {sp : Sp}
theorem fn_x {f : Addr} {fd : FuncData} {ps : List Str} (F : FnOk P w K mg base CX0 k f fd ps sp) : FnOk P w K mg base (L2.CX P w) k f fd ps sp :=
  ⟨F.len, fun A outer s H args us vs Q E hr he hb hv hs => codeAny_mono (F.run A outer s H args us vs Q E hr he hb hv hs) fun r s' h => by
    cases r with
    | ok f => cases f <;> exact h
    | error e => exact (show False from h).elim⟩
theorem Cal.toX (c : Cal P w K mg base k x sp) : CalX P w K mg base k x sp := by
  obtain ⟨f, fd, ps, F, r⟩ := c.ex
  exact ⟨f, fd, ps, fn_x F, r⟩
theorem Met.toX (c : Met P w K mg base k C m sp) : MetX P w K mg base k C m sp := by
  obtain ⟨f, fd, ps, a, b, F, r⟩ := c.ex
  exact ⟨f, fd, ps, a, b, fn_x F, r⟩
theorem Mak.toX (c : Mak P w K mg base k x C sp) : MakX P w K mg base k x C sp := by
  obtain ⟨f, fd, ps, a, F, r⟩ := c.ex
  exact ⟨f, fd, ps, a, fn_x F, r⟩
theorem CalX.imp {sp' : Sp} (c : CalX P w K mg base k x sp) (h : ∀ vs H Q E, sp' vs H Q E → sp vs H Q E) : CalX P w K mg base k x sp' := by
  obtain ⟨f, fd, ps, F, r⟩ := c.ex
  exact ⟨f, fd, ps, F.imp h, r⟩
theorem MetX.imp {sp' : Sp} (c : MetX P w K mg base k C m sp) (h : ∀ vs H Q E, sp' vs H Q E → sp vs H Q E) : MetX P w K mg base k C m sp' := by
  obtain ⟨f, fd, ps, a, b, F, r⟩ := c.ex
  exact ⟨f, fd, ps, a, b, F.imp h, r⟩
end
section
variable {K : PySem.W.Frag} {g : G} {H H' : Hp}
/-- all new objects are data -/
def G.grow (g : G) (H H' : Hp) : G := { g with B := fun a => match H a with
  | none => H' a
  | some _ => g.B a }
theorem grow_new {a} (h : H a = none) : (g.grow H H').B a = H' a := by
  show (match H a with | none => H' a | some _ => g.B a) = _
  rw [h]
theorem grow_old {a o} (h : H a = some o) : (g.grow H H').B a = g.B a := by
  show (match H a with | none => H' a | some _ => g.B a) = _
  rw [h]
theorem grow_le (w : WOk g H) : G.Le g (g.grow H H') := ⟨rfl, rfl, fun _ h => h, fun a o e => by rw [grow_old (w.sb _ _ e)]; exact e, rfl, rfl, rfl⟩
theorem WOk.keep (w : WOk g H) {p : Addr} (m : g.M p) (k : Keep p H H') (hp : IsPool H' p) : WOk (g.grow H H') H' := by
  have np : ∀ a, ¬ g.M a → a ≠ p := fun a n e => n (e ▸ m)
  have hpl : ∃ o, H p = some o := by obtain ⟨⟨_, _, _, _, h⟩, _⟩ := w.pl p m; exact ⟨_, h⟩
  have oldM : ∀ a, g.M a → ∃ o, H a = some o := fun a ma => by obtain ⟨⟨_, _, _, _, h⟩, _⟩ := w.pl a ma; exact ⟨_, h⟩
  have e0 : ∀ a o, g.H0 a = some o → ∃ o', H a = some o' := fun a o e => by
    cases h : H a with
    | some o' => exact ⟨o', rfl⟩
    | none => rw [w.entry_none h] at e; cases e
  have sb' : Same (g.grow H H').B H' := fun a o e => by
    cases h : H a with
    | none => rw [grow_new h] at e; exact e
    | some o' =>
      rw [grow_old h] at e
      have := w.sb _ _ e
      refine k a (fun c => ?_) _ this
      subst c; rw [(w.pl a m).2] at e; cases e
  refine ⟨sb', fun a ma => ?_, fun a o e im => ?_, fun a o n n2 e => ?_, w.nw, fun a o e => ?_, w.m0, fun a o nx e e2 => ?_, fun a x => ?_⟩
  · obtain ⟨o, h⟩ := oldM a ma
    refine ⟨?_, by rw [grow_old h]; exact (w.pl a ma).2⟩
    by_cases c : a = p
    · subst c; exact hp
    · obtain ⟨x1, x2, x3, x4, q⟩ := (w.pl a ma).1
      exact ⟨x1, x2, x3, x4, k a c _ q⟩
  · cases h : H a with
    | none => rw [grow_new h]; exact e
    | some o' =>
      rw [grow_old h]
      by_cases c : a = p
      · subst c; obtain ⟨_, _, _, _, q⟩ := hp; rw [q] at e; cases e; exact im.elim
      · have := k a c _ h
        rw [e] at this; cases this
        exact w.im a o h im
  · have h := w.fr a o n n2 e
    refine k a (fun c => ?_) _ h
    subst c
    rcases w.nw a m with q | q
    · exact n q
    · have e : g.H0 a = some o := e
      rw [e] at q; cases q
  · obtain ⟨h1, h2, h3⟩ := w.pv a o e
    exact ⟨k a (np a h3) _ h1, by rw [grow_old h1]; exact h2, h3⟩
  · obtain ⟨o', h⟩ := e0 a o e
    rw [grow_old h]; exact w.bn a o nx e e2
  · obtain ⟨⟨u, e⟩, q⟩ := w.xp a x
    refine ⟨?_, q⟩
    by_cases c : a = p
    · subst c; obtain ⟨_, _, _, _, q⟩ := hp; exact ⟨_, q⟩
    · exact ⟨u, k a c _ e⟩
theorem WOk.same (w : WOk g H) (s : Same H H') : WOk (g.grow H H') H' := by
  have oldM : ∀ a, g.M a → ∃ o, H a = some o := fun a ma => by obtain ⟨⟨_, _, _, _, h⟩, _⟩ := w.pl a ma; exact ⟨_, h⟩
  have e0 : ∀ a o, g.H0 a = some o → ∃ o', H a = some o' := fun a o e => by
    cases h : H a with
    | some o' => exact ⟨o', rfl⟩
    | none => rw [w.entry_none h] at e; cases e
  refine ⟨fun a o e => ?_, fun a ma => ?_, fun a o e im => ?_, fun a o n n2 e => s _ _ (w.fr a o n n2 e), w.nw, fun a o e => ?_, w.m0, fun a o nx e e2 => ?_, fun a x => ?_⟩
  · cases h : H a with
    | none => rw [grow_new h] at e; exact e
    | some o' => rw [grow_old h] at e; exact s _ _ (w.sb _ _ e)
  · obtain ⟨o, h⟩ := oldM a ma
    exact ⟨(w.pl a ma).1.same s, by rw [grow_old h]; exact (w.pl a ma).2⟩
  · cases h : H a with
    | none => rw [grow_new h]; exact e
    | some o' =>
      rw [grow_old h]
      have := s _ _ h
      rw [e] at this; cases this
      exact w.im a o h im
  · obtain ⟨h1, h2, h3⟩ := w.pv a o e
    exact ⟨s _ _ h1, by rw [grow_old h1]; exact h2, h3⟩
  · obtain ⟨o', h⟩ := e0 a o e
    rw [grow_old h]; exact w.bn a o nx e e2
  · obtain ⟨⟨u, e⟩, q⟩ := w.xp a x
    exact ⟨⟨u, s _ _ e⟩, q⟩
/-- a new pool -/
def G.pool (g : G) (p : Addr) : G := { g with M := fun a => g.M a ∨ a = p }
theorem pool_le {p} : G.Le g (g.pool p) := ⟨rfl, rfl, fun _ h => .inl h, Same.rfl', rfl, rfl, rfl⟩
theorem WOk.pool (w : WOk g H) {p} (h : H p = none) {o} (ho : IsPool (upd H p o) p) : WOk (g.pool p) (upd H p o) := by
  have nb : g.B p = none := by
    cases e : g.B p with
    | none => rfl
    | some u => rw [w.sb _ _ e] at h; cases h
  refine ⟨fun a u e => ?_, fun a m => ?_, fun a u e i => ?_, fun a u n n2 e => ?_, fun a m => ?_, fun a u e => ?_, fun a m => .inl (w.m0 a m), w.bn, fun a x => ?_⟩
  · have := w.sb a u e
    rw [upd_ne (ne_of_none this h)]; exact this
  · rcases m with m | m
    · obtain ⟨⟨x1, x2, x3, x4, q⟩, n⟩ := w.pl a m
      exact ⟨⟨x1, x2, x3, x4, by rw [upd_ne (ne_of_none q h)]; exact q⟩, n⟩
    · subst m; exact ⟨ho, nb⟩
  · by_cases c : a = p
    · subst c; obtain ⟨_, _, _, _, q⟩ := ho; rw [q] at e; cases e; exact i.elim
    · rw [upd_ne c] at e; exact w.im a u e i
  · have := w.fr a u n n2 e
    rw [upd_ne (ne_of_none this h)]; exact this
  · rcases m with m | m
    · exact w.nw a m
    · subst m; exact .inr (w.entry_none h)
  · obtain ⟨h1, h2, h3⟩ := w.pv a u e
    refine ⟨by rw [upd_ne (ne_of_none h1 h)]; exact h1, h2, fun m => ?_⟩
    rcases m with m | m
    · exact h3 m
    · subst m; rw [h] at h1; cases h1
  · obtain ⟨⟨u, e⟩, q⟩ := w.xp a x
    exact ⟨⟨u, by rw [upd_ne (ne_of_none e h)]; exact e⟩, q⟩
theorem ScrAt.at_ {a : Addr} {xs : List V} (en : Enter g H) (h : ScrAt K g.H0 (fun a => g.M0 a ∨ g.XA a) a xs) : SqL K H a xs := by
  rcases h with h | ⟨o, h1, h2, _⟩
  · exact h H
  · rw [en.h0] at h1; exact h2 H h1
/-- rows of ints as they lie -/
theorem iss_rows {B : Hp} : ∀ {es : List (List Int)} {xs}, Iss K B xs (es.map intT) → ∃ ts, xs = ts.map V.ref ∧ RowsH B ts es
  | [], _, h => by cases h; exact ⟨[], rfl, rfl, fun k t e a => by simp at a⟩
  | e :: es, _, h => by
    cases h with
    | cons a t =>
      obtain ⟨ts, rfl, r⟩ := iss_rows t
      obtain ⟨p, ys, rfl, hp, ip, _⟩ := Is.tupE a
      rw [iss_insE ip] at hp
      refine ⟨p :: ts, rfl, by rw [List.length_cons, List.length_cons, r.1], fun k t' e' h1 h2 => ?_⟩
      cases k with
      | zero => simp at h1 h2; subst h1; subst h2; exact hp
      | succ k => exact r.2 k t' e' (by simpa using h1) (by simpa using h2)
theorem rows_iss {B : Hp} : ∀ {es : List (List Int)} {ts}, RowsH B ts es → (∀ e ∈ es, e.length ≤ 1000) → Iss K B (ts.map V.ref) (es.map intT)
  | [], ts, h, _ => by
    have := h.1
    cases ts with
    | nil => exact .nil
    | cons => simp at this
  | e :: es, ts, h, z => by
    have hl := h.1
    cases ts with
    | nil => simp at hl
    | cons t ts =>
      refine .cons (.tup (xs := e.map V.int) (h.2 0 t e rfl rfl) (iss_ints e) ?_) (rows_iss ⟨by simpa using hl, fun k t' e' h1 h2 => h.2 (k + 1) t' e' (by simpa using h1) (by simpa using h2)⟩ fun e' he' => z e' (List.mem_cons_of_mem _ he'))
      rw [List.length_map]
      have := z e List.mem_cons_self
      omega
theorem IsAs.d1 {vs x as} (h : IsAs K g vs (.d x :: as)) : ∃ v r, vs = v :: r ∧ Is K g.B v x ∧ IsAs K g r as := by
  cases h with | d a t => exact ⟨_, _, rfl, a, t⟩
theorem IsAs.p1 {vs as} (h : IsAs K g vs (.pool :: as)) : ∃ p r, vs = .ref p :: r ∧ g.M p ∧ IsAs K g r as := by
  cases h with | pool a t => exact ⟨_, _, rfl, a, t⟩
theorem IsAs.s1 {vs ns as} (h : IsAs K g vs (.scr ns :: as)) : ∃ a r, vs = .ref a :: r ∧ ScrAt K g.H0 (fun a => g.M0 a ∨ g.XA a) a (ns.map V.int) ∧ IsAs K g r as := by
  cases h with | scr a t => exact ⟨_, _, rfl, a, t⟩
theorem IsAs.n0 {vs} (h : IsAs K g vs []) : vs = [] := by cases h; rfl
end
/-- a web, a game, as data -/
def webD (C : Addr) (h n : Int) (ss : List (List Int)) : D := .ins C ["height", "size", "edges"] [.int h, .int n, edT ss]
def gameD (C : Addr) (h : Int) (os : List Bool) (ss : List (List Int)) : D := .ins C ["height", "size", "edges", "owners"] [.int h, nat os.length, edT ss, .str (strO os)]
section
variable {K : PySem.W.Frag} {g : G} {H H' : Hp}
theorem ed3 {h n : Int} {es : List (List Int)} (ok : ∀ e ∈ es, EdgeOk h n e) : ∀ e ∈ es, e.length ≤ 1000 := fun e he => by
  obtain ⟨s, r, t, rfl, _⟩ := ok e he
  show 3 ≤ 1000; decide
/-- a web that lies in the heap is data, where what does not change is data -/
theorem webD_of {C x h n ss} (w : WOk g H) (cl : Cls K C) (na : ∀ f ∈ (["height", "size", "edges"] : List Str), NoAttr K C f) (W : WebAt C H x h n ss) (z : ss.length ≤ 1000) (ok : ∀ e ∈ ss, e.length ≤ 1000) : Is K g.B (.ref x) (webD C h n ss) := by
  obtain ⟨dx, te, us, h1, h2, h3⟩ := W
  have b1 := w.im _ _ h1 trivial
  have b2 := w.im _ _ h2 trivial
  have b3 : RowsH g.B us ss := ⟨h3.1, fun k t e a b => w.im _ _ (h3.2 k t e a b) trivial⟩
  refine .ins b1 rfl (.cons (.int h) (.cons (.int n) (.cons (.tup b2 (rows_iss b3 ok) ?_) .nil))) cl na
  rw [List.length_map, h3.1]; omega
theorem gameD_of {C x h os ss} (w : WOk g H) (cl : Cls K C) (na : ∀ f ∈ (["height", "size", "edges", "owners"] : List Str), NoAttr K C f) (W : GameAt C H x h os ss) (z : ss.length ≤ 1000) (ok : ∀ e ∈ ss, e.length ≤ 1000) : Is K g.B (.ref x) (gameD C h os ss) := by
  obtain ⟨dx, te, us, h1, h2, h3⟩ := W
  have b1 := w.im _ _ h1 trivial
  have b2 := w.im _ _ h2 trivial
  have b3 : RowsH g.B us ss := ⟨h3.1, fun k t e a b => w.im _ _ (h3.2 k t e a b) trivial⟩
  refine .ins b1 rfl (.cons (.int h) (.cons (.int _) (.cons (.tup b2 (rows_iss b3 ok) ?_) (.cons (.str _) .nil)))) cl na
  rw [List.length_map, h3.1]; omega
theorem gameD_at {C x h os ss} {B : Hp} (i : Is K B (.ref x) (gameD C h os ss)) : GameAt C B x h os ss := by
  cases i with
  | ins hp k a cl na =>
    rename_i dx fs
    obtain ⟨⟨k1, v1⟩, ⟨k2, v2⟩, ⟨k3, v3⟩, ⟨k4, v4⟩, rfl⟩ : ∃ p1 p2 p3 p4, fs = [p1, p2, p3, p4] := by
      have := a.length
      simp at this
      match fs, this with
      | [a, b, c, d], _ => exact ⟨a, b, c, d, rfl⟩
    simp only [List.map_cons, List.map_nil, List.cons.injEq, and_true] at k
    obtain ⟨rfl, rfl, rfl, rfl⟩ := k
    cases a with
    | cons a1 t => cases t with
      | cons a2 t => cases t with
        | cons a3 t => cases t with
          | cons a4 t =>
            cases a1; cases a2; cases a4
            obtain ⟨p, xs, e, hq, iq, _⟩ := Is.tupE a3
            have e : v3 = .ref p := e
            subst e
            obtain ⟨ts, rfl, r⟩ := iss_rows iq
            exact ⟨dx, p, ts, hp, hq, r⟩
/-- edges passed as a list or as a tuple -/
def edX (tp : Bool) (es : List (List Int)) : D := if tp then edT es else edL es
theorem edX_at {B : Hp} {v : V} {tp es} (i : Is K B v (edX tp es)) : ∃ a ts, v = .ref a ∧ (B a = some (.lst (ts.map V.ref)) ∨ B a = some (.tup (ts.map V.ref))) ∧ RowsH B ts es := by
  cases tp with
  | true =>
    obtain ⟨p, xs, rfl, hp, ip, _⟩ := Is.tupE i
    obtain ⟨ts, rfl, r⟩ := iss_rows ip
    exact ⟨p, ts, rfl, .inr hp, r⟩
  | false =>
    obtain ⟨p, xs, rfl, hp, ip, _⟩ := Is.lstE i
    obtain ⟨ts, rfl, r⟩ := iss_rows ip
    exact ⟨p, ts, rfl, .inl hp, r⟩
end
theorem made_same {H H' : Hp} {y dx C : Addr} (hy : H y = none) (hd : H dx = none) (k : Keep y (upd (upd H dx (.own y)) y (.ins C dx [])) H') : Same H H' := fun b o e => by
  refine k b (ne_of_none e hy) o ?_
  rw [upd_ne (ne_of_none e hy), upd_ne (ne_of_none e hd)]; exact e
end LR
set_option Elab.async false
set_option maxRecDepth 100000
set_option linter.all false
set_option maxHeartbeats 4000000
set_option Elab.async false
set_option maxRecDepth 100000
set_option linter.all false
set_option maxHeartbeats 4000000
namespace LR
open PySem PySem.Spec PyProof.Rows L2
/-! # the data layer: nested lists of the def's own -/
section
variable {X : Cx} {W : WX} {elt tg iter e : Expr} {es ifs : List Expr} {scope : Scope} {own : List (Str × Nat)} {pos : Pos} {i : Nat}
/-! ## displays of what one owns -/
inductive IsOs (K : PySem.W.Frag) (g : G) (H : Hp) (σ : L2.St) : List V → List (Ow ⊕ Nat) → List Addr → Prop
  | nil : IsOs K g H σ [] [] []
  | o {v t fs vs ts gs} (h : OwIs K g.B H v t fs) (r : IsOs K g H σ vs ts gs) : IsOs K g H σ (v :: vs) (.inl t :: ts) (fs ++ gs)
  | s {v i vs ts gs} (h : σ[i]? = some (some v)) (r : IsOs K g H σ vs ts gs) : IsOs K g H σ (v :: vs) (.inr i :: ts) gs
theorem IsOs.same {K : PySem.W.Frag} {g g' : G} {H H' : Hp} {σ : L2.St} (s : Same g.B g'.B) : ∀ {vs ts fs}, IsOs K g H σ vs ts fs → (∀ a ∈ fs, H' a = H a) → IsOs K g' H' σ vs ts fs
  | _, _, _, .nil, _ => .nil
  | _, _, _, .o h r, k => .o (h.mono s fun a m => k a (List.mem_append_left _ m)) (r.same s fun a m => k a (List.mem_append_right _ m))
  | _, _, _, .s h r, k => .s h (r.same s k)
end
end LR
set_option Elab.async false
set_option maxRecDepth 100000
set_option linter.all false
set_option maxHeartbeats 4000000
namespace LR
open PySem PySem.Spec PyProof.Rows L2
/-! # the data layer: places inside nested lists -/
def atO1 : Ow → Int → Option Ow
  | .tr ts, k => atI ts k
  | .tu ts, k => atI ts k
  | _, _ => none
def atO : Ow → List Int → Option Ow
  | o, [] => some o
  | o, k :: ks => (atO1 o k).bind fun t => atO t ks
def putO1 : Ow → Int → Ow → Ow
  | .tr ts, k, s => match ixN ts.length k with
    | some j => .tr (ts.set j s)
    | none => .tr ts
  | .tu ts, k, s => match ixN ts.length k with
    | some j => .tu (ts.set j s)
    | none => .tu ts
  | o, _, _ => o
def putO : Ow → List Int → Ow → Ow
  | _, [], s => s
  | o, k :: ks, s => match atO1 o k with
    | some t => putO1 o k (putO t ks s)
    | none => o
section
variable {K : PySem.W.Frag} {B H : Hp}
/-- the part at ks of what lies at v0 -/
structure Foc (K : PySem.W.Frag) (B H : Hp) (v0 : V) (o : Ow) (fs : List Addr) (ks : List Int) (v : V) (s : Ow) (gs : List Addr) : Prop where
  at_ : atO o ks = some s
  is_ : OwIs K B H v s gs
  cut : ∃ pre post, fs = pre ++ gs ++ post ∧ ∀ Bx Hx s2 fs2, Same B Bx → OwIs K Bx Hx v s2 fs2 → (∀ a, a ∈ pre ∨ a ∈ post → Hx a = H a) → OwIs K Bx Hx v0 (putO o ks s2) (pre ++ fs2 ++ post)
theorem Foc.nil {v0 o fs} (i : OwIs K B H v0 o fs) : Foc K B H v0 o fs [] v0 o fs := ⟨rfl, i, [], [], by simp, fun Bx Hx s2 fs2 sb i2 k => by simpa [putO] using i2⟩
end
def liftPl (K : PySem.W.Frag) (i : Nat) (pa : List Ev → Option (List Int)) : TE := fun σ H Q => ∃ g env o v0 fs B0 H0, Rep K g σ H env ∧ σ[i]? = some (some v0) ∧ OwIs K B0 H0 v0 o fs ∧ (∀ a ∈ fs, g.B a = H0 a) ∧ Same B0 g.B ∧
  ∃ ks s, pa env = some ks ∧ atO o ks = some s ∧ ∀ v gs H' g', G.Le g g' → Rep K g' σ H' env → Foc K B0 H0 v0 o fs ks v s gs → Q v H'
section
variable {X : Cx} {W : WX} {i : Nat} {e a b : Expr} {pos : Pos} {pa : List Ev → Option (List Int)} {pk : PF} {st : Stmt}
theorem Rep.pl {K : PySem.W.Frag} {g : G} {σ : L2.St} {H : Hp} {env : List Ev} {o : Ow} {Q : VK} (R : Rep K g σ H env) (en : ownO (nth env i) = some o) {ks s} (ep : pa (un env) = some ks) (ea : atO o ks = some s)
    (k : ∀ b v0 v gs H' g', nth env i = .own o b → σ[i]? = some (some v0) → G.Le (g.lent H) g' → Rep K g' σ H' (un env) → Foc K g.B H v0 o (g.F i) ks v s gs → Q v H') : liftPl K i pa σ H Q := by
  have s' := R.sl i
  cases e : nth env i with
  | own o' b =>
    rw [e] at s' en
    obtain ⟨v0, es, oa⟩ := s'
    cases en
    exact ⟨g.lent H, un env, o, v0, g.F i, g.B, H, R.lend, es, oa.is_, fun a m => lent_own ⟨i, m⟩, (G.lent_le R).b, ks, s, ep, ea, fun v gs H' g' le R' f => k b v0 v gs H' g' e es le R' f⟩
  | _ => rw [e] at en; cases en
/-- a fresh list read off what one owns -/
def dLoanF (d : DE) : DE := fun env Ed Q => d (un env) Ed fun r => ∃ l, r = .fr (.ls l) ∧ imds l = true ∧ Q (.fr (.ls l))
end
end LR
set_option Elab.async false
set_option maxRecDepth 100000
set_option linter.all false
set_option maxHeartbeats 4000000
namespace LR
open PySem PySem.Spec PyProof.Rows L2
/-! # the data layer: loops over what one owns -/
section
variable {K : PySem.W.Frag} {W : WX} {g g' : G} {σ σ' : L2.St} {H H' : Hp} {env e : List Ev} {i : Nat} {v : V} {o : Ow} {b : Option Nat} {fs : List Addr}
theorem Rep.unraw (R : Rep K g σ H e) (hr : nth e i = .raw v) (a : OwnAt K g H b v o fs) (ns : Off g fs) : Rep K (g.setF i fs) σ H (sth e i (.own o b)) := by
  have hi : i < e.length := by
    rcases Nat.lt_or_ge i e.length with z | z
    · exact z
    · rw [nth_out z] at hr; cases hr
  have s := R.sl i
  rw [hr] at s
  have s : σ[i]? = some (some v) := s
  exact R.moveS hi _ R.ok.setF G.setF_le rfl rfl (fun _ _ => rfl) ⟨v, s, a.setF⟩ (fun z => by cases z) (fun j _ c m => ns j c m) fun j n c m => ⟨fun b q => q.setF, rfl⟩
theorem Rep.toRaw (R : Rep K g σ H env) (en : nth env i = .own o b) (es : σ[i]? = some (some v)) : Rep K (g.setF i []) σ H (sth env i (.raw v)) :=
  R.moveS (lt_of_own en) _ R.ok.setF G.setF_le rfl rfl (fun _ _ => rfl) es (fun _ => rfl) (fun _ _ a m => nomatch m) fun j n p m => ⟨fun b q => q.setF, rfl⟩
theorem IsR.back {r : Ar} {v : V} {a : G} (tr : ∀ b' v' o' fs', OwnAt K g' H' b' v' o' fs' → OwnAt K (g'.back a.P) H' b' v' o' fs' ∧ ∀ p ∈ fs', p ∉ fs) (i : IsR K g' H' v r) : IsR K (g'.back a.P) H' v r := by
  cases r with
  | d x => exact i
  | pool => exact i
  | scr ns => exact i
  | fr o => obtain ⟨gs, oa, ns⟩ := i; exact ⟨gs, (tr _ _ _ _ oa).1, ns⟩
end
end LR
set_option Elab.async false
set_option maxRecDepth 100000
set_option linter.all false
set_option maxHeartbeats 4000000
namespace LR
open PySem PySem.Spec PyProof.Rows L2
/-! # the data layer: more fresh lists, two iterations in one comprehension -/
section
variable {X : Cx} {W : WX} {e a b : Expr} {pos p2 : Pos}
def revLD : D → Option D
  | .lst l => some (.lst l.reverse)
  | _ => none
theorem qp_revL {p : PF} {k : Nat} {q1 q2 q3 : Pos} (he : QP X e p) : QP X (.Subscript e (.Slice none none (some (.UnaryOp .USub (.Constant (.int 1) k q1) q2)) q3) pos) (p1 revLD p) := fun W => (pe_revL (he W)).mono fun σ H Q ⟨g, env, Ed, Qd, R, ⟨z, ez, q⟩, kv, kx⟩ => by
  obtain ⟨x, ex, ez⟩ := p1_some ez
  refine lift.useP R ex fun v H1 g1 l1 R1 i1 => ?_
  cases x with
  | lst l =>
    cases ez
    obtain ⟨p, xs, rfl, hp, ip, zp⟩ := i1.lstE
    exact ⟨p, xs, rfl, SqL.of (R1.ok.sb _ _ hp), new_lst R1 ip.reverse (by rw [List.length_reverse]; exact zp) fun v' H' g' l2 R2 i2 => kv _ (.d (.lst _)) _ _ (l1.trans l2) R2 i2 q⟩
  | _ => cases ez
end
/-! ## sorted edges -/
def rowD : List D → Option (List Int)
  | [] => some []
  | .int i :: r => (rowD r).map (i :: ·)
  | _ :: _ => none
def rowsD : List D → Option (List (List Int))
  | [] => some []
  | .tup l :: r => match rowD l, rowsD r with
    | some e, some es => some (e :: es)
    | _, _ => none
  | _ :: _ => none
theorem rowD_eq : ∀ {l e}, rowD l = some e → l = e.map .int
  | [], _, h => by cases h; rfl
  | .int i :: r, _, h => by
    obtain ⟨e, he, rfl⟩ := Option.map_eq_some_iff.mp h
    rw [rowD_eq he]; rfl
  | .non :: _, _, h => by cases h
  | .bl _ :: _, _, h => by cases h
  | .str _ :: _, _, h => by cases h
  | .lst _ :: _, _, h => by cases h
  | .tup _ :: _, _, h => by cases h
  | .ins _ _ _ :: _, _, h => by cases h
  | .cls _ :: _, _, h => by cases h
  | .ty _ :: _, _, h => by cases h
  | .dic _ _ :: _, _, h => by cases h
theorem rowD_ints : ∀ e : List Int, rowD (e.map .int) = some e
  | [] => rfl
  | i :: r => by show (rowD (r.map .int)).map (i :: ·) = _; rw [rowD_ints r]; rfl
theorem rowsD_eq : ∀ {l es}, rowsD l = some es → l = es.map intT
  | [], _, h => by cases h; rfl
  | .tup l :: r, es, h => by
    have h : (match rowD l, rowsD r with | some e, some es => some (e :: es) | _, _ => none) = some es := h
    split at h
    · rename_i e es' e1 e2
      cases h
      rw [rowD_eq e1, rowsD_eq e2]; rfl
    · cases h
  | .non :: _, _, h => by cases h
  | .bl _ :: _, _, h => by cases h
  | .int _ :: _, _, h => by cases h
  | .str _ :: _, _, h => by cases h
  | .lst _ :: _, _, h => by cases h
  | .ins _ _ _ :: _, _, h => by cases h
  | .cls _ :: _, _, h => by cases h
  | .ty _ :: _, _, h => by cases h
  | .dic _ _ :: _, _, h => by cases h
theorem rowsD_ed : ∀ es : List (List Int), rowsD (es.map intT) = some es
  | [] => rfl
  | e :: r => by
    show (match rowD (e.map .int), rowsD (r.map intT) with | some e, some es => some (e :: es) | _, _ => none) = _
    rw [rowD_ints, rowsD_ed r]
def leE (a b : List Int) : Bool := decide (TS.code 64 a ≤ TS.code 64 b)
def sortE (es : List (List Int)) : List (List Int) := es.mergeSort leE
def okE (es : List (List Int)) : Bool := decide (es.length < 64) && es.all fun e => decide (e.length = 3) && e.all fun i => decide (0 ≤ i) && decide (i < 64)
theorem sortE_perm (es : List (List Int)) : (sortE es).Perm es := List.mergeSort_perm es leE
theorem sortE_pw (es : List (List Int)) : (sortE es).Pairwise fun a b => TS.code 64 a ≤ TS.code 64 b := by
  have := List.pairwise_mergeSort (le := leE) (fun a b c h1 h2 => by unfold leE at *; simp only [decide_eq_true_eq] at *; omega) (fun a b => by unfold leE; simp only [Bool.or_eq_true, decide_eq_true_eq]; omega) es
  exact this.imp fun h => of_decide_eq_true h
theorem okE_at {es : List (List Int)} (h : okE es = true) : es.length < 64 ∧ ∀ e ∈ es, ∃ s r t, e = [s, r, t] ∧ (0 ≤ s ∧ s < 64) ∧ (0 ≤ r ∧ r < 64) ∧ (0 ≤ t ∧ t < 64) := by
  unfold okE at h
  rw [Bool.and_eq_true, List.all_eq_true] at h
  refine ⟨of_decide_eq_true h.1, fun e he => ?_⟩
  have q := h.2 e he
  rw [Bool.and_eq_true, List.all_eq_true] at q
  match e, q with
  | [s, r, t], q =>
    have b : ∀ i ∈ [s, r, t], 0 ≤ i ∧ i < 64 := fun i hi => by
      have := q.2 i hi
      rw [Bool.and_eq_true] at this
      exact ⟨of_decide_eq_true this.1, of_decide_eq_true this.2⟩
    exact ⟨s, r, t, rfl, b s (by simp), b r (by simp), b t (by simp)⟩
  | [], q => simp at q
  | [_], q => simp at q
  | [_, _], q => simp at q
  | _ :: _ :: _ :: _ :: _, q => simp at q
theorem sortE_unique {es ss : List (List Int)} (h : okE es = true) (p : ss.Perm es) (w : ss.Pairwise fun a b => TS.code 64 a ≤ TS.code 64 b) : ss = sortE es := by
  refine List.Perm.eq_of_pairwise (le := fun a b => TS.code 64 a ≤ TS.code 64 b) (fun a b ha hb h1 h2 => ?_) w (sortE_pw es) (p.trans (sortE_perm es).symm)
  obtain ⟨s, r, t, rfl, hs, hr, ht⟩ := (okE_at h).2 a (p.mem_iff.mp ha)
  obtain ⟨s', r', t', rfl, hs', hr', ht'⟩ := (okE_at h).2 b ((sortE_perm es).mem_iff.mp hb)
  rw [code3, code3] at h1 h2
  have : s = s' := by omega
  have : r = r' := by omega
  have : t = t' := by omega
  simp [*]
def sortED : List D → Option D
  | [.lst l] => match rowsD l with
    | some es => if okE es = true then some (edL (sortE es)) else none
    | none => none
  | [.tup l] => match rowsD l with
    | some es => if okE es = true then some (edL (sortE es)) else none
    | none => none
  | _ => none
section
variable {K : PySem.W.Frag}
theorem iss_ed {B : Hp} : ∀ {es : List (List Int)} {xs}, Iss K B xs (es.map intT) → ∀ ys : List V, ys.Perm xs → ∃ ss : List (List Int), ss.Perm es ∧ Iss K B ys (ss.map intT) := fun {es xs} i ys p => by
  induction p generalizing es with
  | nil => cases es with
    | nil => exact ⟨[], .nil, .nil⟩
    | cons e es => cases i
  | cons x p ih =>
    cases es with
    | nil => cases i
    | cons e es =>
      cases i with
      | cons a t =>
        obtain ⟨ss, h1, h2⟩ := ih t
        exact ⟨e :: ss, .cons e h1, .cons a h2⟩
  | swap x y l =>
    cases es with
    | nil => cases i
    | cons e es =>
      cases es with
      | nil => cases i with | cons a t => cases t
      | cons f es =>
        cases i with
        | cons a t => cases t with
          | cons b t => exact ⟨f :: e :: es, .swap .., .cons b (.cons a t)⟩
  | trans p q ih1 ih2 =>
    obtain ⟨ss, h1, h2⟩ := ih2 i
    obtain ⟨tt, h3, h4⟩ := ih1 h2
    exact ⟨tt, h3.trans h1, h4⟩
theorem iss_intE2 {B : Hp} : ∀ {e : List Int} {xs}, Iss K B xs (e.map .int) → xs = e.map V.int
  | [], _, h => by cases h; rfl
  | i :: r, _, h => by
    cases h with
    | cons a t => rw [a.intE, iss_intE2 t]; rfl
theorem row_tupI {g : G} {H : Hp} (sb : Same g.B H) {v : V} {e : List Int} (i : Is K g.B v (intT e)) : TupI K H v e := by
  obtain ⟨p, xs, rfl, hp, ip, zp⟩ := i.tupE
  rw [iss_intE2 ip] at hp
  exact ⟨p, rfl, SqT.of (sb _ _ hp)⟩
theorem edge_bd2 {e : List Int} (h : ∃ s r t, e = [s, r, t] ∧ (0 ≤ s ∧ s < 64) ∧ (0 ≤ r ∧ r < 64) ∧ (0 ≤ t ∧ t < 64)) : e.length = 3 ∧ TS.Bd 64 e := by
  obtain ⟨s, r, t, rfl, hs, hr, ht⟩ := h
  refine ⟨rfl, fun m hm => ?_⟩
  simp only [List.mem_cons, List.not_mem_nil, or_false] at hm
  rcases hm with rfl | rfl | rfl <;> omega
theorem sortQ_of {g : G} {σ : L2.St} {H : Hp} {env : List Ev} (R : Rep K g σ H env) {p : Addr} {xs : List V} {es : List (List Int)} (hp : g.B p = some (.lst xs) ∨ g.B p = some (.tup xs)) (ip : Iss K g.B xs (es.map intT)) (ok : okE es = true) {Q : VK}
    (k : ∀ ys r, Iss K g.B ys ((sortE es).map intT) → ys.length ≤ 100000 → H r = none → Q (.ref r) (upd H r (.lst ys))) : rSortQ K 3 64 [.ref p] H Q := by
  have sb := R.ok.sb
  have hl : xs.length = es.length := by rw [ip.length, List.length_map]
  have ok2 := okE_at ok
  refine ⟨p, xs, rfl, hp.imp (fun h => SqL.of (sb _ _ h)) (fun h => SqT.of (sb _ _ h)), by rw [hl]; exact ok2.1, fun x hx => ?_, fun ys r pm pw hr => ?_⟩
  · obtain ⟨j, hj⟩ := List.mem_iff_getElem?.mp hx
    obtain ⟨d, ed, id⟩ := ip.get hj
    rw [List.getElem?_map, Option.map_eq_some_iff] at ed
    obtain ⟨e, ee, rfl⟩ := ed
    have := edge_bd2 (ok2.2 e (List.mem_of_getElem? ee))
    exact ⟨e, row_tupI sb id, this.1, this.2⟩
  · obtain ⟨ss, h1, h2⟩ := iss_ed ip ys pm
    have w : ss.Pairwise fun a b => TS.code 64 a ≤ TS.code 64 b := by
      have key : ∀ {ys : List V} {ss : List (List Int)}, Iss K g.B ys (ss.map intT) → ys.Pairwise (fun x y => ∀ n m, TupI K H x n → TupI K H y m → TS.code 64 n ≤ TS.code 64 m) → ss.Pairwise fun a b => TS.code 64 a ≤ TS.code 64 b := fun {ys ss} i w => by
        induction ss generalizing ys with
        | nil => exact .nil
        | cons e es ih =>
          cases i with
          | cons a t =>
            obtain ⟨w1, w2⟩ := List.pairwise_cons.mp w
            refine List.pairwise_cons.mpr ⟨fun f hf => ?_, ih t w2⟩
            obtain ⟨j, hj⟩ := List.mem_iff_getElem?.mp hf
            obtain ⟨y, ey, iy⟩ := t.getD (i := j) (d := intT f) (by rw [List.getElem?_map, hj]; rfl)
            exact w1 y (List.mem_of_getElem? ey) e f (row_tupI sb a) (row_tupI sb iy)
      exact key h2 pw
    have := sortE_unique ok h1 w
    subst this
    exact k ys r h2 (by rw [h2.length, List.length_map, h1.length_eq]; have := ok2.1; omega) hr
theorem o_sortE : OpN K (rSortQ K 3 64) sortED := ⟨fun {g σ H env vs xs z Q} R i e k => by
  unfold sortED at e
  split at e
  · obtain ⟨v, rfl, i1⟩ := i.one_inv
    obtain ⟨p, ys, rfl, hp, ip, zp⟩ := i1.lstE
    split at e
    · rename_i es er
      split at e
      · rename_i ok
        cases e
        rw [rowsD_eq er] at ip
        exact sortQ_of R (.inl hp) ip ok fun ys r iy z hr => new_lst R iy z k r hr
      · cases e
    · cases e
  · obtain ⟨v, rfl, i1⟩ := i.one_inv
    obtain ⟨p, ys, rfl, hp, ip, zp⟩ := i1.tupE
    split at e
    · rename_i es er
      split at e
      · rename_i ok
        cases e
        rw [rowsD_eq er] at ip
        exact sortQ_of R (.inr hp) ip ok fun ys r iy z hr => new_lst R iy z k r hr
      · cases e
    · cases e
  · cases e⟩
end
end LR
set_option Elab.async false
set_option maxRecDepth 100000
set_option linter.all false
set_option maxHeartbeats 4000000
set_option Elab.async false
set_option maxRecDepth 100000
set_option linter.all false
set_option maxHeartbeats 4000000
namespace LR
open PySem PySem.Spec PyProof.Rows L2
/-! # the data layer: operators of an own class -/
/-- what an operator does to two values, at the slots σ -/
def OpRS (X : Cx) (f : Value → Value → Sem Value) (r : L2.St → R2) : Prop := ∀ (pins : List (Addr × Obj)) (s : Shared) (σ : L2.St) (H : Hp) (x y : V) (v u : Value) (Q : VK), Inv X pins σ H s → RelV x v → RelV y u → r σ x y H Q → wpAny (model X.prog X.w) X.A (f v u) (EP X pins σ Q) X.xe s
def tOpS (r : L2.St → R2) (ta tb : TE) : TE := fun σ H Q => ta σ H fun x H1 => tb σ H1 fun y H2 => r σ x y H2 Q
section
variable {X : Cx} {k j : Nat} {C : Addr} {m : Str} {sp : Sp} {W : WX} {pos : Pos} {e o : Expr} {te to : TE}
theorem pt_cmpS {op : CmpOp} {r : L2.St → R2} (ho : OpRS X (compareOp op) r) (ha : PE X o to) (hb : PE X e te) (hm : behindInMarks op e = false) : PT X (.Compare o [op] [e] pos) (tTest (tOpS r to te)) := by
  refine ⟨fun pins s σ H Q I h => ?_⟩
  refine wpAny_isTrue_Compare1 (thn (ha.run pins s σ H _ I h) fun v s1 ⟨x, H1, I1, r1, q1⟩ => thn (hb.run pins s1 σ H1 _ I1 q1) fun u s2 ⟨y, H2, I2, r2, q2⟩ =>
    thn (ho pins s2 σ H2 x y v u _ I2 r1 r2 q2) fun c s3 ⟨z, H3, I3, r3, k, e, q3⟩ => ?_) hm
  subst e
  cases r3
  exact wpAny_truthy_bool ⟨H3, I3, q3⟩
def rInS (C : Addr) (sp : Sp) (W : WX) : L2.St → R2 := fun σ x y H Q => ∃ a dx fs, y = .ref a ∧ H a = some (.ins C dx fs) ∧ sp [y, x] H (fun v H' => ∃ c, v = .bl c ∧ Q (.bl c) H') (WE W σ)
theorem op_inS (c : MetX X.prog X.w X.K X.mg X.base k C "__contains__" sp) (hr : Room j X.A) (hk : k ≤ j) (tk : Takes X W) : OpRS X (compareOp .In) (rInS C sp W) := by
  obtain ⟨f, fd, ps, hc, hm, F, b⟩ := c.ex
  intro pins s σ H x y v u Q I rx ry h
  obtain ⟨a, dx, fs, rfl, ha, q⟩ := h
  cases ry
  obtain ⟨mA, J, _⟩ := ins_get I.hok ha
  obtain ⟨od, J, _⟩ := J.look
  obtain ⟨m', hF⟩ := I.fr
  refine PySem.W.in_K hF I.ok.mod.kin J hm.at_ hm.fn ?_
  refine wpAny_mono (run_fnS (E := WE W) (us := [.ref a, v]) (vs := [.ref a, x]) F (hr.mono hk) b (passAt tk σ) I (.cons rfl (.cons rx .nil)) q) (fun w s' z => ?_) fun _ _ x => x
  obtain ⟨z', H', I', rz, c, ez, qz⟩ := z
  subst ez
  cases rz
  exact wpAny_truthy_bool ⟨.bl c, H', I', rfl, qz⟩
def rNinS (C : Addr) (sp : Sp) (W : WX) : L2.St → R2 := fun σ x y H Q => ∃ a dx fs, y = .ref a ∧ H a = some (.ins C dx fs) ∧ sp [y, x] H (fun v H' => ∃ c, v = .bl c ∧ Q (.bl (!c)) H') (WE W σ)
theorem op_ninS (c : MetX X.prog X.w X.K X.mg X.base k C "__contains__" sp) (hr : Room j X.A) (hk : k ≤ j) (tk : Takes X W) : OpRS X (compareOp .NotIn) (rNinS C sp W) := by
  obtain ⟨f, fd, ps, hc, hm, F, b⟩ := c.ex
  intro pins s σ H x y v u Q I rx ry h
  obtain ⟨a, dx, fs, rfl, ha, q⟩ := h
  cases ry
  obtain ⟨mA, J, _⟩ := ins_get I.hok ha
  obtain ⟨od, J, _⟩ := J.look
  obtain ⟨m', hF⟩ := I.fr
  refine PySem.W.notIn_K hF I.ok.mod.kin J hm.at_ hm.fn ?_
  refine wpAny_mono (run_fnS (E := WE W) (us := [.ref a, v]) (vs := [.ref a, x]) F (hr.mono hk) b (passAt tk σ) I (.cons rfl (.cons rx .nil)) q) (fun w s' z => ?_) fun _ _ x => x
  obtain ⟨z', H', I', rz, c, ez, qz⟩ := z
  subst ez
  cases rz
  exact wpAny_truthy_bool ⟨.bl (!c), H', I', rfl, qz⟩
/-! ## by data -/
def dInO (neg : Bool) (C : Addr) (f : Fs) (da db : DE) : DE := fun env Ed Q => da env Ed (asD fun x => db env Ed (asD fun y => ∃ ks ds, y = .ins C ks ds ∧ f [.d y, .d x] Ed fun r => ∃ b : Bool, r = .d (.bl b) ∧ Q (.d (.bl (if neg then !b else b)))))
variable {f : Fs} {da db : DE}
theorem lift_inS {σ : L2.St} {H : Hp} {Q : VK} (h : lift X.K W (dInO false C f da db) σ H Q) : tOpS (rInS C (spF X.K f) W) (lift X.K W da) (lift X.K W db) σ H Q := by
  obtain ⟨g, env, Ed, Qd, R, h, kv, kx⟩ := h
  refine lift.useD R h (fun v x H1 g1 l1 R1 i1 q => lift.useD R1 q (fun u y H2 g2 l2 R2 i2 ⟨ks, ds, ey, q2⟩ => ?_) (kx.mono l1)) kx
  subst ey
  have i2 : Is X.K g2.B u (.ins C ks ds) := i2
  cases i2 with
  | ins hp kk a cl na =>
    subst kk
    refine ⟨_, _, _, rfl, R2.ok.sb _ _ hp, spF_run R2 (.d (Is.ins hp rfl a cl na) (.d (i1.mono l2.b) .nil)) q2 (fun v' r H3 g3 l3 R3 i3 ⟨b, er, qq⟩ => ?_) ((kx.mono l1).mono l2)⟩
    subst er
    exact ⟨b, Is.blE i3, kv _ (.d (.bl b)) H3 g3 ((l1.trans l2).trans l3) R3 (.bl b) qq⟩
theorem lift_ninS {σ : L2.St} {H : Hp} {Q : VK} (h : lift X.K W (dInO true C f da db) σ H Q) : tOpS (rNinS C (spF X.K f) W) (lift X.K W da) (lift X.K W db) σ H Q := by
  obtain ⟨g, env, Ed, Qd, R, h, kv, kx⟩ := h
  refine lift.useD R h (fun v x H1 g1 l1 R1 i1 q => lift.useD R1 q (fun u y H2 g2 l2 R2 i2 ⟨ks, ds, ey, q2⟩ => ?_) (kx.mono l1)) kx
  subst ey
  have i2 : Is X.K g2.B u (.ins C ks ds) := i2
  cases i2 with
  | ins hp kk a cl na =>
    subst kk
    refine ⟨_, _, _, rfl, R2.ok.sb _ _ hp, spF_run R2 (.d (Is.ins hp rfl a cl na) (.d (i1.mono l2.b) .nil)) q2 (fun v' r H3 g3 l3 R3 i3 ⟨b, er, qq⟩ => ?_) ((kx.mono l1).mono l2)⟩
    subst er
    exact ⟨b, Is.blE i3, kv _ (.d (.bl (!b))) H3 g3 ((l1.trans l2).trans l3) R3 (.bl (!b)) qq⟩
theorem qt_inO (hm : behindInMarks .In e = false) (c : MetX X.prog X.w X.K X.mg X.base k C "__contains__" (spF X.K f)) (hr : Room j X.A) (hk : k ≤ j) (tk : Takes X W) (ha : QE X W o da) (hb : QE X W e db) : QT X W (.Compare o [.In] [e] pos) (dB (dInO false C f da db)) :=
  (pt_cmpS (op_inS c hr hk tk) ha hb hm).mono fun _ _ _ h => lift_inS (lift_dB h)
theorem qt_ninO (hm : behindInMarks .NotIn e = false) (c : MetX X.prog X.w X.K X.mg X.base k C "__contains__" (spF X.K f)) (hr : Room j X.A) (hk : k ≤ j) (tk : Takes X W) (ha : QE X W o da) (hb : QE X W e db) : QT X W (.Compare o [.NotIn] [e] pos) (dB (dInO true C f da db)) :=
  (pt_cmpS (op_ninS c hr hk tk) ha hb hm).mono fun _ _ _ h => lift_ninS (lift_dB h)
end
end LR
set_option Elab.async false
set_option maxRecDepth 100000
set_option linter.all false
set_option maxHeartbeats 4000000
set_option Elab.async false
set_option maxRecDepth 100000
set_option linter.all false
set_option maxHeartbeats 4000000
namespace LR
open PySem PySem.Spec PyProof.Rows L2
/-! # the data layer: ladders, constants of classes, list(o) -/
section
variable {X : Cx} {W : WX} {e : Expr} {f : Str} {pos : Pos} {C : Addr}
/-- C.f, an int that stands in the class -/
theorem qp_cval {i : Int} (cv : ∃ mc u, ClX.CRead X.K C mc ∧ ClX.CVal X.K C mc f (.int i) u) (he : PE X e (tC (.ref C))) (hb : attributeBase e f X.env (eval e X.env) = eval e X.env := by rfl) : QP X (.Attribute e f pos) (pc (.int i)) := fun W => PE.mono (ClX.pe_cval he hb) fun σ H Q h => by
  obtain ⟨g, env, Ed, Qd, R, ⟨y, hx, q⟩, kv, kx⟩ := h
  cases hx
  obtain ⟨mc, u, cr, cx⟩ := cv
  exact ⟨C, mc, _, u, rfl, cr, cx, kv (.int i) (.d (.int i)) H g .rfl R (.int i) q⟩
end
/-! ## ladders -/
/-- counts of the levels of at least lv -/
def cntD (ls : List Int) (lv : Int) : D := .tup ((List.range (ls.length + 1)).map fun i => .int (cn ls lv i))
def ladD (C : Addr) (h : Int) (ls : List Int) : D := .ins C ["height", "levels", "top", "_counts"] [.int h, intT ls, nat ls.length, .tup ((List.range (h + 1).toNat).map fun j : Nat => cntD ls ((j : Nat) + 1))]
section
variable {K : PySem.W.Frag} {g : G} {H : Hp}
theorem iss_cn {B : Hp} {ls : List Int} {lv : Int} : ∀ n, Iss K B (cnL ls lv n) ((List.range n).map fun i => .int (cn ls lv i)) := fun n => by
  unfold cnL
  generalize List.range n = l
  induction l with
  | nil => exact .nil
  | cons i r ih => exact .cons (.int _) ih
theorem iss_get {B : Hp} : ∀ {xs : List V} {ds : List D}, xs.length = ds.length → (∀ (j : Nat) (x : V) (d : D), xs[j]? = some x → ds[j]? = some d → Is K B x d) → Iss K B xs ds
  | [], [], _, _ => .nil
  | [], _ :: _, h, _ => by cases h
  | _ :: _, [], h, _ => by cases h
  | x :: xs, d :: ds, h, k => .cons (k 0 x d rfl rfl) (iss_get (by simpa using h) fun j x d h1 h2 => k (j + 1) x d (by simpa using h1) (by simpa using h2))
theorem ladD_of {C x h ls} (w : WOk g H) (cl : Cls K C) (na : ∀ f ∈ (["height", "levels", "top", "_counts"] : List Str), NoAttr K C f) (L : LadderAt C H x h ls) (z : ls.length ≤ 1000) (hh : h ≤ 1000) : Is K g.B (.ref x) (ladD C h ls) := by
  obtain ⟨dx, tl, tc, h1, h2, cs, h3, h4, h5⟩ := L
  have b1 := w.im _ _ h1 trivial
  have b2 := w.im _ _ h2 trivial
  have b3 := w.im _ _ h3 trivial
  refine .ins b1 rfl (.cons (.int h) (.cons (.tup b2 (iss_ints ls) (by rw [List.length_map]; omega)) (.cons (.int _) (.cons (.tup b3 (iss_get ?_ fun j x d e1 e2 => ?_) ?_) .nil)))) cl na
  · rw [List.length_map, List.length_map, List.length_range, h4]
  · rw [List.getElem?_map] at e1 e2
    cases ec : cs[j]? with
    | none => rw [ec] at e1; cases e1
    | some a =>
      rw [ec] at e1
      cases e1
      have b5 := w.im _ _ (h5 j a ec) trivial
      cases er : (List.range (h + 1).toNat)[j]? with
      | none => rw [er] at e2; cases e2
      | some i =>
        rw [er] at e2
        cases e2
        have ej : i = j := by
          have := List.getElem?_range (n := (h + 1).toNat) (i := j) (by have := (List.getElem?_eq_some_iff.mp er).1; rwa [List.length_range] at this)
          rw [er] at this; exact Option.some.inj this
        subst ej
        exact .tup b5 (iss_cn _) (by rw [cnL_length]; omega)
  · rw [List.length_map, h4]; omega
theorem ladD_at {C x h ls} {B : Hp} (i : Is K B (.ref x) (ladD C h ls)) : LadderAt C B x h ls := by
  cases i with
  | ins hp k a cl na =>
    rename_i dx fs
    obtain ⟨⟨k1, v1⟩, ⟨k2, v2⟩, ⟨k3, v3⟩, ⟨k4, v4⟩, rfl⟩ : ∃ p1 p2 p3 p4, fs = [p1, p2, p3, p4] := by
      have := a.length
      simp at this
      match fs, this with
      | [a, b, c, d], _ => exact ⟨a, b, c, d, rfl⟩
    simp only [List.map_cons, List.map_nil, List.cons.injEq, and_true] at k
    obtain ⟨rfl, rfl, rfl, rfl⟩ := k
    cases a with
    | cons a1 t => cases t with
      | cons a2 t => cases t with
        | cons a3 t => cases t with
          | cons a4 t =>
            cases a1; cases a3
            obtain ⟨p, xs, e, hq, iq, _⟩ := Is.tupE a2
            have e : v2 = .ref p := e
            subst e
            rw [iss_insE iq] at hq
            obtain ⟨q, ys, e, hr, ir, _⟩ := Is.tupE a4
            have e : v4 = .ref q := e
            subst e
            have hl := ir.length
            rw [List.length_map, List.length_range] at hl
            have cells : ∃ cs : List Addr, ys = cs.map V.ref ∧ ∀ (j : Nat) (a : Addr), cs[j]? = some a → Is K B (.ref a) (cntD ls (j + 1)) := by
              have all : ∀ (j : Nat) (y : V), ys[j]? = some y → Is K B y (cntD ls (j + 1)) := fun j y e => by
                obtain ⟨d, e1, e2⟩ := ir.get e
                have hj : j < (h + 1).toNat := by
                  have := (List.getElem?_eq_some_iff.mp e1).1
                  rwa [List.length_map, List.length_range] at this
                rw [List.getElem?_map, List.getElem?_range hj] at e1
                cases e1; exact e2
              clear hl ir hr a4
              have gen : ∀ (ys : List V) (n : Nat), (∀ (j : Nat) (y : V), ys[j]? = some y → Is K B y (cntD ls ((j + n : Nat) + 1))) → ∃ cs : List Addr, ys = cs.map V.ref ∧ ∀ (j : Nat) (a : Addr), cs[j]? = some a → Is K B (.ref a) (cntD ls ((j + n : Nat) + 1)) := fun ys => by
                induction ys with
                | nil => exact fun n _ => ⟨[], rfl, fun j a e => by simp at e⟩
                | cons y r ih =>
                  intro n al
                  obtain ⟨cs, e1, e2⟩ := ih (n + 1) fun j y e => by
                    have := al (j + 1) y (by simpa using e)
                    rwa [show j + 1 + n = j + (n + 1) by omega] at this
                  obtain ⟨a0, _, e0, _⟩ := Is.tupE (al 0 y rfl)
                  refine ⟨a0 :: cs, by rw [e0, e1]; rfl, fun j a e => ?_⟩
                  cases j with
                  | zero => simp at e; subst e; rw [← e0]; exact al 0 y rfl
                  | succ j =>
                    have := e2 j a (by simpa using e)
                    rwa [show j + (n + 1) = j + 1 + n by omega] at this
              obtain ⟨cs, e1, e2⟩ := gen ys 0 all
              exact ⟨cs, e1, e2⟩
            obtain ⟨cs, rfl, hc⟩ := cells
            refine ⟨dx, p, q, hp, hq, cs, hr, by rw [List.length_map] at hl; exact hl, fun j a e => ?_⟩
            obtain ⟨p', xs', e', hq', iq', _⟩ := Is.tupE (hc j a e)
            cases e'
            rw [hq']
            congr 2
            unfold cnL
            have : ∀ (l : List Nat) (xs : List V), Iss K B xs (l.map fun i => .int (cn ls (j + 1) i)) → xs = l.map fun i => V.int (cn ls (j + 1) i) := fun l => by
              induction l with
              | nil => intro xs h; cases h; rfl
              | cons i r ih => intro xs h; cases h with | cons a t => rw [Is.intE a, ih _ t]; rfl
            exact this _ _ iq'
end
end LR
set_option Elab.async false
set_option maxRecDepth 100000
set_option linter.all false
set_option maxHeartbeats 4000000
namespace LR
open PySem PySem.Spec PyProof.Rows L2
/-! # the data layer: the law itself -/
section
variable {P : Program} {w : World} {K : PySem.W.Frag} {mg : Str → Option Value} {base : Heap}
def g0 (H : Hp) : G := { H0 := H, M0 := fun _ => False, M := fun _ => False, B := H, P := fun _ => none, B0 := H, X := fun _ => none, F := fun _ => [] }
theorem g0_enter {H : Hp} : Enter (g0 H) H :=
  ⟨rfl, rfl, rfl, rfl, rfl, rfl, ⟨Same.rfl', fun _ h => h.elim, fun _ _ h _ => h, fun _ _ _ _ h => h, fun _ h => h.elim, (fun a o e => nomatch (show (none : Option HO) = some o from e)), fun _ h => h.elim, fun _ _ _ _ e => e, fun _ h => (no_xa rfl h).elim⟩⟩
/-- the law keeps its promise where its body leads to True from every script -/
theorem law_dl {st : Stmt} {N : List Str} {k : Nat} {f : Addr} {fd : FuncData} (F : Fun K "law" "law" st f fd) (S : FnScope N ["script"] (defScope st)) (hN : 1 ≤ N.length)
    (hbody : ∀ (cdv : Value) (A : Around) (outer : List Env) (s : Shared) (H : Hp) (E : XK), Room k (A.deeper (envOfC "law" (defScope st) s.heap.objs.size f cdv)) →
      ∃ ds, QSs (cxOf CX0 P w K mg base N "law" (defScope st) f cdv A outer s H E).nox WF (defBody st) ds ∧ ∀ ns : List Int, ds (Dn.ofF (fun _ => False) (fun r => r = .d (.bl true))) (envOf [.scr ns] N.length)) :
    FnOk P w K mg base CX0 (k + 1) f fd ["script"] (spLaw K) := by
  refine F.ok S (fun vs H Q E h => ?_) (fun cdv A outer s H vs Q E hr h => ?_)
  · obtain ⟨a, ns, rfl, _⟩ := h; rfl
  obtain ⟨a, ns, rfl, hS, kk⟩ := h
  obtain ⟨ds, hq, hd⟩ := hbody cdv A outer s H E hr
  refine ⟨_, hq, ?_⟩
  refine body_dl (X := (cxOf CX0 P w K mg base N "law" (defScope st) f cdv A outer s H E).nox) (E := fun _ _ _ => False) (f := fun as Ed Qd => ∃ ns, as = [.scr ns] ∧ Ed = (fun _ => False) ∧ Qd = (fun r => r = .d (.bl true))) (fun _ _ _ _ h => h.elim) (fun as Ed Qd hf => ?_) (Q := Q) ?_
  · obtain ⟨ns, rfl, rfl, rfl⟩ := hf
    exact ⟨hN, hd ns⟩
  refine ⟨g0 H, [.scr ns], fun _ => False, fun r => r = .d (.bl true), g0_enter, .scr (ScrAt.of hS (fun _ h => ?_) fun _ h => ?_) .nil, ⟨ns, rfl, rfl, rfl⟩, fun v r H' g' le w ir e => ?_, fun _ _ _ _ _ _ _ _ z => z.elim⟩
  · exact (h.elim (fun z => z) fun z => no_xa rfl z).elim
  · exact (h.elim (fun z => z) fun z => no_xa rfl z).elim
  · subst e
    rw [Is.blE ir]; exact kk H'
theorem MetIn.dl {C : Addr} {m qual : Str} {st : Stmt} {N ps : List Str} {k : Nat} {f : Fs} (c : Cls K C) (D : MetIn K C m qual st ps) (S : FnScope N ps (defScope st)) (hl : ∀ as Ed Qd, f as Ed Qd → as.length = ps.length) (hN : ps.length ≤ N.length)
    (hbody : ∀ (fa : Addr) (cdv : Value) (A : Around) (outer : List Env) (s : Shared) (H : Hp) (E : XK), Room k (A.deeper (envOfC qual (defScope st) s.heap.objs.size fa cdv)) →
      ∃ ds, QSs (cxOf (L2.CX P w) P w K mg base N qual (defScope st) fa cdv A outer s H E) (fun cls d _ H => E cls d H) (defBody st) ds ∧ ∀ as Ed Qd, f as Ed Qd → ds (Dn.ofF Ed Qd) (envOf as N.length)) : MetX P w K mg base (k + 1) C m (spF K f) := by
  refine D.metX c S (spF_len hl) fun fa cdv A outer s H vs Q E hr h => ?_
  obtain ⟨ds, hq, hd⟩ := hbody fa cdv A outer s H E hr
  exact ⟨_, hq, body_dl (X := cxOf (L2.CX P w) P w K mg base N qual (defScope st) fa cdv A outer s H E) (fun _ _ _ _ h => h) (fun as Ed Qd hf => ⟨by rw [hl as Ed Qd hf]; exact hN, hd as Ed Qd hf⟩) h⟩
end
/-! ## data for the law's own comparing -/
mutual
def dtF : Dt → D
  | .non => .non
  | .bl b => .bl b
  | .int i => .int i
  | .str x => .str x
  | .lst l => .lst (dtFs l)
  | .tup l => .tup (dtFs l)
def dtFs : List Dt → List D
  | [] => []
  | d :: r => dtF d :: dtFs r
end
section
variable {K : PySem.W.Frag} {B H : Hp}
mutual
theorem dtF_at (s : Same B H) : ∀ {v : V} (d : Dt), Is K B v (dtF d) → At H v d
  | _, .non, h => by cases h; exact .non
  | _, .bl b, h => by cases h; exact .bl b
  | _, .int i, h => by cases h; exact .int i
  | _, .str x, h => by cases h; exact .str x
  | _, .lst l, h => by
    rw [dtF] at h
    cases h with | lst h a z => exact .lst (s _ _ h) (dtFs_at s l a) z
  | _, .tup l, h => by
    rw [dtF] at h
    cases h with | tup h a z => exact .tup (s _ _ h) (dtFs_at s l a) z
theorem dtFs_at (s : Same B H) : ∀ {vs : List V} (l : List Dt), Iss K B vs (dtFs l) → Ats H vs l
  | _, [], h => by
    rw [dtFs] at h; cases h; exact .nil
  | _, d :: r, h => by
    rw [dtFs] at h
    cases h with | cons a t => exact .cons (dtF_at s d a) (dtFs_at s r t)
end
end
mutual
theorem dtF_inj : ∀ (a b : Dt), dtF a = dtF b → a = b
  | .lst l, .lst m, h => by rw [dtF, dtF] at h; injection h with h; rw [dtFs_inj l m h]
  | .tup l, .tup m, h => by rw [dtF, dtF] at h; injection h with h; rw [dtFs_inj l m h]
  | .non, .non, _ => rfl
  | .bl b, .bl c, h => by rw [dtF, dtF] at h; injection h with h; rw [h]
  | .int b, .int c, h => by rw [dtF, dtF] at h; injection h with h; rw [h]
  | .str b, .str c, h => by rw [dtF, dtF] at h; injection h with h; rw [h]
  | .lst _, .non, h => by rw [dtF, dtF] at h; cases h
  | .lst _, .bl _, h => by rw [dtF, dtF] at h; cases h
  | .lst _, .int _, h => by rw [dtF, dtF] at h; cases h
  | .lst _, .str _, h => by rw [dtF, dtF] at h; cases h
  | .lst _, .tup _, h => by rw [dtF, dtF] at h; cases h
  | .tup _, .non, h => by rw [dtF, dtF] at h; cases h
  | .tup _, .bl _, h => by rw [dtF, dtF] at h; cases h
  | .tup _, .int _, h => by rw [dtF, dtF] at h; cases h
  | .tup _, .str _, h => by rw [dtF, dtF] at h; cases h
  | .tup _, .lst _, h => by rw [dtF, dtF] at h; cases h
  | .non, .bl _, h => by rw [dtF, dtF] at h; cases h
  | .non, .int _, h => by rw [dtF, dtF] at h; cases h
  | .non, .str _, h => by rw [dtF, dtF] at h; cases h
  | .non, .lst _, h => by rw [dtF, dtF] at h; cases h
  | .non, .tup _, h => by rw [dtF, dtF] at h; cases h
  | .bl _, .non, h => by rw [dtF, dtF] at h; cases h
  | .bl _, .int _, h => by rw [dtF, dtF] at h; cases h
  | .bl _, .str _, h => by rw [dtF, dtF] at h; cases h
  | .bl _, .lst _, h => by rw [dtF, dtF] at h; cases h
  | .bl _, .tup _, h => by rw [dtF, dtF] at h; cases h
  | .int _, .non, h => by rw [dtF, dtF] at h; cases h
  | .int _, .bl _, h => by rw [dtF, dtF] at h; cases h
  | .int _, .str _, h => by rw [dtF, dtF] at h; cases h
  | .int _, .lst _, h => by rw [dtF, dtF] at h; cases h
  | .int _, .tup _, h => by rw [dtF, dtF] at h; cases h
  | .str _, .non, h => by rw [dtF, dtF] at h; cases h
  | .str _, .bl _, h => by rw [dtF, dtF] at h; cases h
  | .str _, .int _, h => by rw [dtF, dtF] at h; cases h
  | .str _, .lst _, h => by rw [dtF, dtF] at h; cases h
  | .str _, .tup _, h => by rw [dtF, dtF] at h; cases h
theorem dtFs_inj : ∀ (a b : List Dt), dtFs a = dtFs b → a = b
  | [], [], _ => rfl
  | x :: r, y :: t, h => by
    rw [dtFs, dtFs] at h
    injection h with h1 h2
    rw [dtF_inj x y h1, dtFs_inj r t h2]
  | [], _ :: _, h => by rw [dtFs, dtFs] at h; cases h
  | _ :: _, [], h => by rw [dtFs, dtFs] at h; cases h
end
/-- plain data of depth n at most: what the law's comparing takes -/
def okp : Nat → D → Bool
  | _, .non => true
  | _, .bl _ => true
  | _, .int _ => true
  | _, .str _ => true
  | n + 1, .lst l => l.all (okp n)
  | n + 1, .tup l => l.all (okp n)
  | _, _ => false
theorem okp_dt : ∀ (n : Nat) (x : D), okp n x = true → ∃ d, dtF d = x ∧ dep d ≤ n := by
  have alls : ∀ (n : Nat), (∀ x, okp n x = true → ∃ d, dtF d = x ∧ dep d ≤ n) → ∀ l : List D, l.all (okp n) = true → ∃ m, dtFs m = l ∧ deps m ≤ n := fun n ih l => by
    induction l with
    | nil => exact fun _ => ⟨[], by rw [dtFs], by rw [deps]; omega⟩
    | cons x r ih2 =>
      intro h
      rw [List.all_cons, Bool.and_eq_true] at h
      obtain ⟨d, e1, e2⟩ := ih x h.1
      obtain ⟨m, e3, e4⟩ := ih2 h.2
      exact ⟨d :: m, by rw [dtFs, e1, e3], by rw [deps]; omega⟩
  have flat : ∀ (n : Nat) (x : D), (∀ l, x ≠ .lst l) → (∀ l, x ≠ .tup l) → okp n x = true → ∃ d, dtF d = x ∧ dep d ≤ n := fun n x h1 h2 h => by
    cases x with
    | non => exact ⟨.non, by rw [dtF], by simp [dep]⟩
    | bl b => exact ⟨.bl b, by rw [dtF], by simp [dep]⟩
    | int b => exact ⟨.int b, by rw [dtF], by simp [dep]⟩
    | str b => exact ⟨.str b, by rw [dtF], by simp [dep]⟩
    | lst l => exact absurd rfl (h1 l)
    | tup l => exact absurd rfl (h2 l)
    | _ => cases n <;> simp [okp] at h
  intro n
  induction n with
  | zero =>
    intro x h
    refine flat 0 x (fun l e => ?_) (fun l e => ?_) h
    · subst e; simp [okp] at h
    · subst e; simp [okp] at h
  | succ n ih =>
    intro x h
    by_cases c : ∃ l, x = .lst l
    · obtain ⟨l, rfl⟩ := c
      obtain ⟨m, e1, e2⟩ := alls n ih l (by simpa [okp] using h)
      exact ⟨.lst m, by rw [dtF, e1], by rw [dep]; omega⟩
    by_cases c2 : ∃ l, x = .tup l
    · obtain ⟨l, rfl⟩ := c2
      obtain ⟨m, e1, e2⟩ := alls n ih l (by simpa [okp] using h)
      exact ⟨.tup m, by rw [dtF, e1], by rw [dep]; omega⟩
    exact flat _ x (fun l e => c ⟨l, e⟩) (fun l e => c2 ⟨l, e⟩) h
end LR
set_option Elab.async false
set_option maxRecDepth 100000
set_option linter.all false
set_option maxHeartbeats 4000000
namespace LR
open PySem PySem.Spec PyProof.Rows L2
/-! # the data layer: zip of a tuple and a list; reversed of a tuple -/
/-- pairs of the tuple at t and the list at l -/
def ItzX (K : PySem.W.Frag) (t l : Addr) : It where
  go i H := ∃ (ts ls : List V) (u v : V), SqT K H t ts ∧ SqL K H l ls ∧ ts[i]? = some u ∧ ls[i]? = some v
  yld i H p H' := ∃ c u v, p = .ref c ∧ H c = none ∧ H' = upd H c (.tup [u, v]) ∧ (∀ ts, SqT K H t ts → ts[i]? = some u) ∧ ∀ ls, SqL K H l ls → ls[i]? = some v
  stop i H := ∃ ts ls : List V, SqT K H t ts ∧ SqL K H l ls ∧ i ≤ ts.length ∧ i ≤ ls.length ∧ (i = ts.length ∨ i = ls.length)
structure ZCells (z TI TO a b t l : Addr) (h : Heap) (i : Nat) : Prop where
  zz : IsZip h z TI TO .none
  ti : IsTupOf2 h TI (.ref a) (.ref b)
  to_ : ∃ x y, IsTupOf2 h TO x y
  ia : h.IsTupleIter a t i
  ib : h.IsListIter b l i
theorem turn_zipX {P : Program} {w : World} {K : PySem.W.Frag} {es : List Expr} {n : Nat} {ps : Pos} {t l z TI TO a b : Addr} (S : ZipSep2 z TI TO a b [a, t] [b, l]) :
    Turn P w K (.Tuple es n ps) (ItzX K t l) [z, TI, TO, a, b] z (fun i h => ZCells z TI TO a b t l h i) where
  mem := by simp
  obj i h st c hc := by
    obtain ⟨zz, ti, ⟨x, y, to_⟩, ⟨oa, ea, _, da⟩, ⟨ob, eb, _, db⟩⟩ := st
    simp only [List.mem_cons, List.not_mem_nil, or_false] at hc
    rcases hc with rfl | rfl | rfl | rfl | rfl
    · exact ⟨_, zz, fun v q => by cases q⟩
    · exact ⟨_, ti, fun v q => by cases q⟩
    · exact ⟨_, to_, fun v q => by cases q⟩
    · exact ⟨oa, ea, fun v q => by rw [da] at q; cases q⟩
    · exact ⟨ob, eb, fun v q => by rw [db] at q; cases q⟩
  keep i h h' st k := by
    obtain ⟨zz, ti, ⟨x, y, to_⟩, ia, ib⟩ := st
    exact ⟨k z (by simp) _ zz, k TI (by simp) _ ti, ⟨x, y, k TO (by simp) _ to_⟩, ia.at fun o q => k a (by simp) o q, ib.at fun o q => k b (by simp) o q⟩
  item X hP hw hK hc i pins s σ H E I hf st hg := by
    subst hP hw hK
    obtain ⟨zz, ti, ⟨x0, y0, to_⟩, ia, ib⟩ := st
    obtain ⟨ts, ls, u, v, ht, hl, hu, hv⟩ := hg
    obtain ⟨its, rv, pt, _⟩ := I.tuple ht
    obtain ⟨its2, rv2, pl, _⟩ := I.list hl
    obtain ⟨u', hu', ru⟩ := rv.get hu
    obtain ⟨v', hv', rv'⟩ := rv2.get hv
    have nt : t ≠ a := fun e => by
      obtain ⟨o, e1, c1, d1⟩ := ia
      obtain ⟨o2, e2, c2, _⟩ := pt
      rw [e, e1] at e2; cases e2; rw [c1] at c2; exact absurd c2 (by decide)
    have nl : l ≠ b := fun e => by
      obtain ⟨o, e1, c1, d1⟩ := ib
      obtain ⟨o2, e2, c2, _⟩ := pl.isList
      rw [e, e1] at e2; cases e2; rw [c1] at c2; exact absurd c2 (by decide)
    have hzl : z < s.heap.objs.size := Heap.lt_size zz
    have hh : X.A.in1.handled = none := I.ok.hd hc
    have li := (List.getElem?_eq_some_iff.mp hu').1
    have lj := (List.getElem?_eq_some_iff.mp hv').1
    have D1 : Draws X.prog X.w X.A.in1 a [a, t] its.toArray.size (fun i v => its.toArray[i]? = some v) (fun i h => h.IsTupleIter a t i ∧ h.IsTuple t its.toArray) := Draws.tuple hh a t nt its.toArray
    have D2 : Draws X.prog X.w X.A.in1 b [b, l] its2.toArray.size (fun i v => its2.toArray[i]? = some v) (fun i h => h.IsListIter b l i ∧ h.IsList l its2.toArray) := Draws.list hh b l nl its2.toArray
    refine wpAny_pyNext_zipD2_item S D1 D2 zz ti to_ ⟨ia, pt⟩ ⟨ib, pl.isList⟩ (by rw [List.size_toArray]; exact li) (by rw [List.size_toArray]; exact lj) fun x1 x2 h1 tk e1 e2 z1 to1 s1 s2 new sz keep => ?_
    have e1 : x1 = u' := by
      have e1 : its.toArray[i]? = some x1 := e1
      rw [List.getElem?_toArray, hu'] at e1; cases e1; rfl
    have e2 : x2 = v' := by
      have e2 : its2.toArray[i]? = some x2 := e2
      rw [List.getElem?_toArray, hv'] at e2; cases e2; rfl
    subst e1 e2
    refine ⟨_, rfl, wpAny_letOwnedTupleGo_zip (s := { s with heap := h1, toks := tk }) z1 fun h2 z2 sb => ?_⟩
    have cell : h2.get? s.heap.objs.size = some { cls := .type "tuple", data := .seq #[x1, x2] } := (sb.2 _ (Nat.ne_of_gt hzl)).trans new
    have ok : ObjOk X.prog X.w (upd H s.heap.objs.size (.tup [u, v])) h2 s.heap.objs.size (.tup [u, v]) :=
      ⟨by show 2 ≤ sizeLine; decide, [x1, x2], .cons ru (.cons rv' .nil), ⟨_, cell, rfl, _, rfl⟩⟩
    have up : ∀ c o, c ≠ z → c ≠ TO → c ≠ a → c ≠ b → s.heap.get? c = some o → h2.get? c = some o := fun c o n1 n2 n3 n4 q => (sb.2 c n1).trans (keep c o n1 n2 n3 n4 q)
    have I2 : Inv X pins σ (upd H s.heap.objs.size (.tup [u, v])) { s with heap := h2, toks := tk } :=
      I.turnedNew (t' := tk) (ch := [z, TI, TO, a, b]) (fun c o hb q => up c o (fun e => hb (by simp [e])) (fun e => hb (by simp [e])) (fun e => hb (by simp [e])) (fun e => hb (by simp [e])) q) hf (Nat.le_refl _) ok
    refine ⟨.ref s.heap.objs.size, _, I2, rfl, ⟨_, u, v, rfl, I.hok.fresh (Nat.le_refl _), rfl, fun m hm => by rw [I.tuple_inj hm ht]; exact hu, fun m hm => by rw [I.list_inj hm hl]; exact hv⟩, ⟨z2, ?_, ⟨x1, x2, (sb.2 _ S.TOz).trans to1⟩, ?_, ?_⟩, fun c hcm => ?_⟩
    · exact up _ _ S.TIz S.TITO S.TIi1 S.TIi2 ti
    · exact s1.1.at fun o q => (sb.2 _ S.zi1.symm).trans q
    · exact s2.1.at fun o q => (sb.2 _ S.zi2.symm).trans q
    · have lt : c < s.heap.objs.size := by
        simp only [List.mem_cons, List.not_mem_nil, or_false] at hcm
        obtain ⟨_, ea, _⟩ := ia
        obtain ⟨_, eb, _⟩ := ib
        rcases hcm with rfl | rfl | rfl | rfl | rfl
        · exact hzl
        · exact Heap.lt_size ti
        · exact Heap.lt_size to_
        · exact Heap.lt_size ea
        · exact Heap.lt_size eb
      rw [upd_ne (Nat.ne_of_lt lt)]
      exact (hf c hcm).1
  done X hP hw hK hc i pins s σ H E I hf st hg := by
    subst hP hw hK
    obtain ⟨zz, ti, ⟨x0, y0, to_⟩, ia, ib⟩ := st
    obtain ⟨ts, ls, ht, hl, h1, h2, h3⟩ := hg
    obtain ⟨its, rv, pt, _⟩ := I.tuple ht
    obtain ⟨its2, rv2, pl, _⟩ := I.list hl
    have n1 := rv.length
    have n2 := rv2.length
    have nt : t ≠ a := fun e => by
      obtain ⟨o, e1, c1, d1⟩ := ia
      obtain ⟨o2, e2, c2, _⟩ := pt
      rw [e, e1] at e2; cases e2; rw [c1] at c2; exact absurd c2 (by decide)
    have nl : l ≠ b := fun e => by
      obtain ⟨o, e1, c1, d1⟩ := ib
      obtain ⟨o2, e2, c2, _⟩ := pl.isList
      rw [e, e1] at e2; cases e2; rw [c1] at c2; exact absurd c2 (by decide)
    have hh : X.A.in1.handled = none := I.ok.hd hc
    have D1 : Draws X.prog X.w X.A.in1 a [a, t] its.toArray.size (fun i v => its.toArray[i]? = some v) (fun i h => h.IsTupleIter a t i ∧ h.IsTuple t its.toArray) := Draws.tuple hh a t nt its.toArray
    have D2 : Draws X.prog X.w X.A.in1 b [b, l] its2.toArray.size (fun i v => its2.toArray[i]? = some v) (fun i h => h.IsListIter b l i ∧ h.IsList l its2.toArray) := Draws.list hh b l nl its2.toArray
    refine wpAny_pyNext_zipD2_end S D1 D2 zz ti to_ ⟨ia, pt⟩ ⟨ib, pl.isList⟩ (by rw [List.size_toArray]; omega) (by rw [List.size_toArray]; omega) (by rw [List.size_toArray, List.size_toArray]; omega) fun h1 tk keep => ⟨rfl, ?_⟩
    exact I.turnedL (t' := tk) (ch := [z, TI, TO, a, b]) (fun c o hb q => keep c o (fun e => hb (by simp [e])) (fun e => hb (by simp [e])) (fun e => hb (by simp [e])) (fun e => hb (by simp [e])) q) hf
  self A i s Q E st h := wpAny_pyIter_zip st.zz h
def iZipX (K : PySem.W.Frag) (ta : TA) : TI := fun σ H R => ta σ H fun vs H1 => ∃ t l ts ls, vs = [.ref t, .ref l] ∧ SqT K H1 t ts ∧ SqL K H1 l ls ∧ R (ItzX K t l) H1
theorem pi_zipX {X : Cx} {e e2 : Expr} {ta : TA} {p pos tpos : Pos} {elts : List Expr} {kk : Nat} (hg : Gl X "zip") (hm : X.mg "zip" = none) (ha : PA X [e, e2] ta)
    (hs : starEach [e, e2] X.env = (false, eval e X.env) :: starEach [e2] X.env) (hpl : (backTo pos (starEach [e2] X.env)).any (·.1) = false) :
    PI X (.Tuple elts kk tpos) (.Call (.Name "zip" p) [e, e2] [] pos) (iZipX X.K ta) := ⟨fun pins s σ H R I h => by
  refine Call_ (ld_blt I hg hm PyProof.Rows.boot_zip (PyProof.Rows.callWith_type1 (thn (ha.run pos pins s σ H _ I h) fun us s1 q0 => ?_) hs hpl))
  obtain ⟨vs, H1, I1, r1, t, l, ts, ls, ex, ht, hl, q⟩ := q0
  subst ex
  cases r1 with
  | cons r rr => cases rr with
    | cons r' rr =>
      cases rr; cases r; cases r'
      obtain ⟨its, rv, pt, _⟩ := I1.tuple ht
      obtain ⟨its2, rv2, pl, _⟩ := I1.list hl
      have lt1 : t < s1.heap.objs.size := let ⟨o, ho, _⟩ := pt; Heap.lt_size ho
      have lt2 : l < s1.heap.objs.size := pl.lt
      refine zip_begins2 (begins_tuple t its.toArray) (begins_list l its2.toArray) pt pl.isList fun h' zz ti to_ g1 g2 hsz hk => wpAny_pyIter_zip zz ?_
      have I2 : Inv X pins σ H1 { s1 with heap := h' } := I1.kept (t' := s1.toks) hk
      refine ⟨s1.heap.objs.size + 4, [s1.heap.objs.size + 4, s1.heap.objs.size + 2, s1.heap.objs.size + 3, s1.heap.objs.size, s1.heap.objs.size + 1], _, _, H1, rfl, I2, turn_zipX (zip_sep2 (fp1 := [t]) (fp2 := [l]) (fun b hb => by rw [List.mem_singleton.mp hb]; exact lt1) (fun b hb => by rw [List.mem_singleton.mp hb]; exact lt2)), ⟨zz, ti, ⟨_, _, to_⟩, ⟨_, g1, rfl, rfl⟩, ⟨_, g2, rfl, rfl⟩⟩, fun c hcm => ?_, q⟩
      have hle : s1.heap.objs.size ≤ c := by
        simp only [List.mem_cons, List.not_mem_nil, or_false] at hcm
        rcases hcm with rfl | rfl | rfl | rfl | rfl <;> first | exact Nat.le_refl _ | exact Nat.le_add_right _ _
      exact I1.fpOk hle (I1.hok.fresh hle)⟩
theorem _root_.L2.PI.or {X : Cx} {tg e : Expr} {a b : TI} (h : PI X tg e a) (k : PI X tg e b) : PI X tg e (fun σ H R => a σ H R ∨ b σ H R) := ⟨fun pins s σ H R I q => q.elim (fun q => h.run pins s σ H R I q) fun q => k.run pins s σ H R I q⟩
theorem _root_.L2.PI.alt {X : Cx} {tg e : Expr} {t : TI} (h : ∀ σ H R, t σ H R → ∃ a : TI, PI X tg e a ∧ a σ H R) : PI X tg e t := ⟨fun pins s σ H R I q => let ⟨_, k, r⟩ := h σ H R q; k.run pins s σ H R I r⟩
section
variable {X : Cx} {W : WX} {tg e e2 : Expr} {p pos : Pos}
theorem walk_rt {K : PySem.W.Frag} {a : Addr} {xs : List V} : Walk (RT.ItvT K a xs.length) xs.length (fun H => SqT K H a xs) (fun i H x H' => H' = H ∧ xs[xs.length - 1 - i]? = some x) where
  goes i H hi q := ⟨hi, xs, xs[xs.length - 1 - i]'(by omega), q, List.getElem?_eq_getElem (by omega)⟩
  stops _ _ := Nat.le_refl _
  yields i H x H' hi q y := ⟨y.1, y.2 xs q⟩
/-- reversed of a list or a tuple -/
def iRevDA (d : DE) : DI := fun env Ed Ld => d env Ed (asD (seqI fun l => Ld l.reverse))
theorem qi_revA {d : DE} (hg : Gl X "reversed") (hm : X.mg "reversed" = none) (h : QE X W e d) (hs : starEach [e] X.env = (false, eval e X.env) :: starEach [] X.env := by rfl) :
    QI X W tg (.Call (.Name "reversed" p) [e] [] pos) (iRevDA d) := (RT.pi_revA hg hm h hs).mono fun σ H R ⟨g, env, Ed, Ld, Rp, h, kv, kx⟩ => by
  refine lift.useD Rp h (fun v x H1 g1 l1 R1 i1 q => ?_) kx
  cases x with
  | lst l =>
    obtain ⟨p, xs, rfl, hp, ip, zp⟩ := i1.lstE
    have hl := ip.length
    refine ⟨p, xs, rfl, .inl ⟨SqL.of (R1.ok.sb _ _ hp), kv _ _ H1 g1 l1 R1 ⟨by rw [List.length_reverse]; omega, _, _, by rw [List.length_reverse, ← hl]; exact walk_rev, gd_of fun H' s => SqL.of (s _ _ hp), fun j H v H' hj y g2 σ env le R => ?_⟩ q⟩⟩
    obtain ⟨rfl, e⟩ := y
    obtain ⟨d, ed, id⟩ := ip.get e
    rw [List.length_reverse] at hj
    refine ⟨g2, d, ?_, .rfl, R, id.mono le⟩
    rw [List.getElem?_reverse hj, ← hl]; exact ed
  | tup l =>
    obtain ⟨p, xs, rfl, hp, ip, zp⟩ := i1.tupE
    have hl := ip.length
    refine ⟨p, xs, rfl, .inr ⟨SqT.of (R1.ok.sb _ _ hp), kv _ _ H1 g1 l1 R1 ⟨by rw [List.length_reverse]; omega, _, _, by rw [List.length_reverse, ← hl]; exact walk_rt, gd_of fun H' s => SqT.of (s _ _ hp), fun j H v H' hj y g2 σ env le R => ?_⟩ q⟩⟩
    obtain ⟨rfl, e⟩ := y
    obtain ⟨d, ed, id⟩ := ip.get e
    rw [List.length_reverse] at hj
    refine ⟨g2, d, ?_, .rfl, R, id.mono le⟩
    rw [List.getElem?_reverse hj, ← hl]; exact ed
  | _ => exact q.elim
/-- zip of a list or a tuple and a list -/
def iZipTL (p1 p2 : PF) : DI := fun env Ed Ld => ∃ a b, (p1 env = some (.tup a) ∨ p1 env = some (.lst a)) ∧ p2 env = some (.lst b) ∧ Ld (zipD a b)
theorem qi_zipTL {p1 p2 : PF} {elts : List Expr} {kk : Nat} {tpos : Pos} (hg : Gl X "zip") (hm : X.mg "zip" = none) (h : QP X e p1) (h2 : QP X e2 p2) (hs : starEach [e, e2] X.env = (false, eval e X.env) :: starEach [e2] X.env := by rfl) (hpl : (backTo pos (starEach [e2] X.env)).any (·.1) = false := by rfl) (hs2 : starEach [e2] X.env = (false, eval e2 X.env) :: starEach [] X.env := by rfl) :
    QI X W (.Tuple elts kk tpos) (.Call (.Name "zip" p) [e, e2] [] pos) (iZipTL p1 p2) := PI.alt fun σ H R ⟨g, env, Ed, Ld, Rp, ⟨a, b, ea, eb, q⟩, kv, kx⟩ => by
  rcases ea with ea | ea
  · refine ⟨_, pi_zipX hg hm (pa_cons (h W) (pa_cons (h2 W) pa_nil hs2) hs) hs hpl, ?_⟩
    refine lift.useP Rp ea fun v H1 g1 l1 R1 i1 => lift.useP R1 eb fun u H2 g2 l2 R2 i2 => ?_
    have sb := R2.ok.sb
    obtain ⟨p1, xs, rfl, h1, j1, z1⟩ := (i1.mono l2.b).tupE
    obtain ⟨p2, ys, rfl, h2, j2, z2⟩ := i2.lstE
    have n1 := j1.length
    have n2 := j2.length
    have wz : Walk (ItzX X.K p1 p2) (zipD a b).length (fun H => SqT X.K H p1 xs ∧ SqL X.K H p2 ys) (YPair (fun i => xs[i]?) (fun i => ys[i]?)) := by
      unfold zipD
      rw [List.length_zipWith]
      refine ⟨fun i _ hi q => ?_, fun _ q => ⟨xs, ys, q.1, q.2, by omega, by omega, by omega⟩, fun i H v H' _ q y => ?_⟩
      · exact ⟨xs, ys, xs[i]'(by omega), ys[i]'(by omega), q.1, q.2, List.getElem?_eq_getElem _, List.getElem?_eq_getElem _⟩
      · obtain ⟨c, u, v, h1, h2, h3, h4, h5⟩ := y
        exact ⟨c, u, v, h1, h2, h3, h4 xs q.1, h5 ys q.2⟩
    refine ⟨p1, p2, xs, ys, rfl, SqT.of (sb _ _ h1), SqL.of (sb _ _ h2), kv _ _ H2 g2 (l1.trans l2) R2 (runs_pair (n := 0) wz (fun H' s => ⟨SqT.of (s _ _ h1), SqL.of (s _ _ h2)⟩) (by unfold zipD; rw [List.length_zipWith]; omega) fun j x y _ e1 e2 => ?_) q⟩
    obtain ⟨d, ed, id⟩ := j1.get e1
    obtain ⟨f, ef, jf⟩ := j2.get e2
    exact ⟨d, f, by unfold zipD; rw [List.getElem?_zipWith, ed, ef], id, jf⟩
  · exact ⟨_, qi_zip (W := W) hg hm (h W) (h2 W) hs hpl hs2, g, env, Ed, Ld, Rp, ⟨_, ea, _, eb, q⟩, kv, kx⟩
/-- what holds between two statements -/
def dCut (a b : DS) : DS := fun Dd env => ∃ P : List Ev → Prop, a { Dd with nx := P } env ∧ ∀ e, P e → b Dd e
theorem qss_cut {st : Stmt} {rest : List Stmt} {a b : DS} (h : QS X W st a) (t : QSs X W rest b) : QSs X W (st :: rest) (dCut a b) := (pss_cons h t).mono fun D σ H ⟨g, env, Dd, R, ⟨P, h, hb⟩, l⟩ =>
  ⟨g, env, { Dd with nx := P }, R, h, ⟨fun σ' H' g' env' le R' q => ⟨g', env', Dd, R', hb _ q, l.mono le⟩, l.bk, l.ct, l.rt, l.er⟩⟩
/-! ## is, is not of two bools -/
end
end LR
set_option Elab.async false
set_option maxRecDepth 100000
set_option linter.all false
set_option maxHeartbeats 4000000
namespace LR
open PySem PySem.Spec PyProof.Rows L2
/-! # the data layer: constants of the module, isinstance of an own class -/
section
variable {X : Cx} {W : WX} {pos p1 : Pos} {e : Expr} {x : Str}
theorem qp_gint {i : Int} (hg : Gl X x) (h : ∃ u, X.mg x = some u ∧ RelV (.int i) u) (hd : (x == ("__debug__" : Str)) = false := by decide) : QP X (.Name x pos) (pc (.int i)) := by
  obtain ⟨u, hm, r⟩ := h
  exact qp_c (pe_glob hg hm r hd) fun _ _ => .int i
/-- isinstance of an instance of the class at C -/
def isiOD (C : Addr) : List D → Option D
  | [.ins C' _ _, .cls C''] => if C' = C ∧ C'' = C then some (.bl true) else none
  | _ => none
theorem o_isiO {K : PySem.W.Frag} {C : Addr} (cl : Cls K C) (ai : PySem.W.findIn K (.ref C) "__class__" = some (some (.builtin "object.__class__"))) (O : ObjC K) (mo : PySem.W.mroIn K C (.type "object") = some true) (kit : PySem.W.kitOne K (.ref C) (.ref C) = some true) : OpN K (rIsi K) (isiOD C) := ⟨fun {g σ H env vs xs z Q} R i e k => by
  unfold isiOD at e
  split at e
  · split at e
    · rename_i h
      obtain ⟨rfl, rfl⟩ := h
      cases e
      obtain ⟨v, u, rfl, i1, j1⟩ := i.two_inv
      cases j1
      cases i1 with
      | ins hp kk a cl' na => exact ⟨_, _, _, _, true, rfl, .own _, .base (.ins (R.ok.sb _ _ hp) cl ai O.gt O.tk mo), kit, k _ _ _ .rfl R (.bl true)⟩
    · cases e
  · cases e⟩
end
end LR
set_option Elab.async false
set_option maxRecDepth 100000
set_option linter.all false
set_option maxHeartbeats 4000000
set_option Elab.async false
set_option maxRecDepth 100000
set_option linter.all false
set_option maxHeartbeats 4000000
set_option Elab.async false
set_option maxRecDepth 100000
set_option linter.all false
set_option maxHeartbeats 4000000
namespace LR
open PySem PySem.Spec PyProof.Rows L2
/-! # rows of edges: equal to themselves, sorted -/
theorem sortED_ed {es : List (List Int)} (h : okE es = true) : sortED [edL es] = some (edL (sortE es)) := by
  show (match rowsD (es.map intT) with | some es => if okE es = true then some (edL (sortE es)) else none | none => none) = _
  rw [rowsD_ed]
  show (if okE es = true then _ else none) = _
  rw [if_pos h]
theorem okE_ed {h n : Int} {es : List (List Int)} (O : ∀ e ∈ es, EdgeOk h n e) (hh : h ≤ 3) (hn : n ≤ 9) (hl : es.length ≤ 63) : okE es = true := by
  unfold okE
  rw [Bool.and_eq_true, decide_eq_true_eq, List.all_eq_true]
  refine ⟨by omega, fun e he => ?_⟩
  obtain ⟨s, r, t, rfl, a, b, c⟩ := O e he
  simp
  omega
theorem elt_pw {h n : Int} {ss : List (List Int)} (O : ∀ e ∈ ss, EdgeOk h n e) (hh : h ≤ 3) (hn : n ≤ 9) (pw : ss.Pairwise elt) : ss.Pairwise fun a b => TS.code 64 a ≤ TS.code 64 b := by
  refine pw.imp_of_mem fun {a b} ha hb e => ?_
  obtain ⟨s, r, t, s', r', t', rfl, rfl, o⟩ := e
  obtain ⟨_, _, _, e1, a1, a2, a3⟩ := O _ ha
  obtain ⟨_, _, _, e2, b1, b2, b3⟩ := O _ hb
  cases e1; cases e2
  rw [code3, code3]
  omega
/-- the edges that a web keeps -/
theorem kept_sorted {h n : Int} {es ss : List (List Int)} (O : ∀ e ∈ es, EdgeOk h n e) (hh : h ≤ 3) (hn : n ≤ 9) (hl : es.length ≤ 63) (p : ss.Perm es) (pw : ss.Pairwise elt) : ss = sortE es :=
  sortE_unique (okE_ed O hh hn hl) p (elt_pw (fun e he => O e (p.mem_iff.mp he)) hh hn pw)
theorem prng1_nat {p : PF} {env : List Ev} {n : Nat} (h : p env = some (nat n)) (hn : n ≤ 100000) : (ipRng1 p).p env = some ((List.range n).map nat) := by
  show prng1 p env = _
  unfold prng1
  rw [h]
  show (if (-100000 : Int) ≤ (n : Int) ∧ (n : Int) ≤ 100000 then some (rgD 0 ((n : Int).toNat)) else none) = _
  rw [if_pos (by omega), rgD_nat]
theorem imds_intsL : ∀ l : List Int, imds (l.map .int) = true
  | [] => by simp [imds]
  | x :: l => by rw [List.map_cons, imds, imds_intsL l]; simp [imd]
theorem pand_b {p q : PF} {env : List Ev} {a b : Bool} (h : p env = some (.bl a)) (h2 : q env = some (.bl b)) : pand p q env = some (.bl (a && b)) :=
  pand_of h (fun z => by rw [z, Bool.true_and]; exact h2) fun z => by rw [z]; rfl
theorem por_b {p q : PF} {env : List Ev} {a b : Bool} (h : p env = some (.bl a)) (h2 : q env = some (.bl b)) : por p q env = some (.bl (a || b)) :=
  por_of h (fun z => by rw [z, Bool.false_or]; exact h2) fun z => by rw [z]; rfl
theorem some_dec {p q : Prop} [Decidable p] [Decidable q] (h : p ↔ q) : some (D.bl (decide p)) = some (D.bl (decide q)) := by
  congr 2; rw [decide_eq_decide]; exact h
theorem some_nat {i : Int} {n : Nat} (h : i = n) : some (D.int i) = some (nat n) := by rw [h]
end LR
set_option Elab.async false
set_option maxRecDepth 100000
set_option linter.all false
set_option maxHeartbeats 4000000
namespace LR
open PySem PySem.Spec PyProof.Rows L2
/-! # dict comprehensions with ints for keys; two names for one list, for two statements -/
/-! ## x = o[..]; x[k] = e, and x = o[..]; x.append(e) -/
theorem Foc.mono {K : PySem.W.Frag} {B H B' H' : Hp} {v0 : V} {o : Ow} {fs : List Addr} {ks : List Int} {v : V} {s : Ow} {gs : List Addr} (f : Foc K B H v0 o fs ks v s gs) (sb : Same B B') (hc : ∀ a ∈ fs, H' a = H a) : Foc K B' H' v0 o fs ks v s gs := by
  obtain ⟨at_, is_, pre, post, ef, cut⟩ := f
  refine ⟨at_, is_.mono sb fun a m => hc a (by rw [ef]; simp [m]), pre, post, ef, fun Bx Hx s2 fs2 sb2 i2 k => cut Bx Hx s2 fs2 (fun p o e => sb2 _ _ (sb _ _ e)) i2 fun a m => ?_⟩
  rw [k a m]
  refine hc a ?_
  rw [ef]
  rcases m with m | m <;> simp [m]
/-! ## l.remove(x), l.index(x) of data -/
end LR
set_option Elab.async false
set_option maxRecDepth 100000
set_option linter.all false
set_option maxHeartbeats 4000000
namespace LR
open PySem PySem.Spec PyProof.Rows L2
/-! # a comprehension over a list of the def's own -/
section
variable {X : Cx} {W : WX} {i j : Nat} {elt tg iter : Expr} {ifs : List Expr} {scope : Scope} {own : List (Str × Nat)} {pos spos py : Pos} {y : Str} {b : DG} {dt : DT} {de : DE}
/-! ## .. and over what one has lent, put into a name -/
theorem lift_loanF {K : PySem.W.Frag} {σ : L2.St} {H : Hp} {Q : VK} {d : DE} (h : lift K W (dLoanF d) σ H Q) : lift K W d σ H Q := by
  obtain ⟨g, env, Ed, Qd, R, h, kv, kx⟩ := h
  refine lift.use R.lend h (fun v r H1 g1 l1 R1 i1 ⟨l, er, sx, q⟩ => ?_) (kx_unlend R kx)
  subst er
  obtain ⟨l3, R3, im, _⟩ := R.unlend l1 R1
  obtain ⟨fs, oa, ns⟩ := i1
  obtain ⟨p, xs, rfl, rfl, hp, ix, z⟩ := oa.is_.lE
  have pp := oa.pv p (by simp)
  refine kv _ (.fr (.ls l)) H1 _ l3 R3 ⟨[p], ⟨.l hp (ix.less im sx) z, by simp, fun a m => ?_, fun _ h => by cases h⟩, fun j a m h => ?_⟩ q
  · rw [List.mem_singleton.mp m]
    refine ⟨?_, pp.nm, pp.n0, pp.np⟩
    by_cases c : ∃ i, p ∈ g.F i
    · exact unlent_own c
    · rw [unlent_not c]; exact pp.nb
  · rw [List.mem_singleton.mp m] at h
    obtain ⟨u, _, e2⟩ := R.lentAt l1 ⟨j, h⟩
    rw [pp.nb] at e2; cases e2
theorem qs_setLcL {it : DI} (w : Bool) (hc : X.calm = true) (hN : X.N.Nodup) (hy : X.N[i]? = some y) (hyl : X.env.scope.names.lookup y = some .local)
    (hsw : swapsWith (.ListComp elt [⟨tg, iter, ifs, 0⟩] scope pos) (some (.Name y py)) spos.line X.env = pure true) (hi : QI X W tg iter it) (ok : BlkOk X.N X.env.scope scope own)
    (hg : ∀ (s : Shared) (H : Hp) (C : Addr) (cl : List (Str × Addr)) (fp : List Addr), QG (X.blk s H scope (compEnvC scope cl C X.env) fp) (own.map Prod.snd) tg b)
    (ht : ∀ (s : Shared) (H : Hp) (C : Addr) (cl : List (Str × Addr)) (fp : List Addr), QTs (X.blk s H scope (compEnvC scope cl C X.env) fp) WF ifs dt)
    (he : ∀ (s : Shared) (H : Hp) (C : Addr) (cl : List (Str × Addr)) (fp : List Addr), QE (X.blk s H scope (compEnvC scope cl C X.env) fp) WF elt de) (hs : ∀ x, foldedSetIterable iter X.env x = pure x := by intro _; rfl) :
    QS X W (.Assign [.Name y py] (.ListComp elt [⟨tg, iter, ifs, 0⟩] scope pos) spos) (dSet w i (dLoanF (dLc (own.map Prod.snd) it b dt de))) :=
  (ps_setLc (g := liftG X.K (own.map Prod.snd) b) (tt := liftT X.K WF dt) (te := lift X.K WF de) hc hN hy hyl hsw hi ok hg ht he hs).mono fun _ _ _ h => lift_setT (fun h => lift_lc (lift_loanF h)) h
end
end LR
set_option Elab.async false
set_option maxRecDepth 100000
set_option linter.all false
set_option maxHeartbeats 4000000
set_option Elab.async false
set_option maxRecDepth 100000
set_option linter.all false
set_option maxHeartbeats 4000000
set_option Elab.async false
set_option maxRecDepth 100000
set_option linter.all false
set_option maxHeartbeats 4000000
set_option Elab.async false
set_option maxRecDepth 100000
set_option linter.all false
set_option maxHeartbeats 4000000
namespace LR
open PySem PySem.Spec PyProof.Rows L2
/-! # paths in a web -/
def es0 (e : List Int) : Int := e.getD 0 0
def es2 (e : List Int) : Int := e.getD 2 0
inductive Wk (es : List (List Int)) (a : Int) : List (List Int) → Int → Prop
  | nil : Wk es a [] a
  | snoc {b : Int} {p : List (List Int)} {e : List Int} (w : Wk es a p b) (m : e ∈ es) (s : es0 e = b) : Wk es a (p ++ [e]) (es2 e)
/-- a path on which no node occurs twice -/
structure Pth (es : List (List Int)) (a : Int) (ks : List Int) (x : Int) (p : List (List Int)) : Prop where
  wk : Wk es a p x
  nd : (p.map es0 ++ [x]).Nodup
  sub : ∀ v ∈ p.map es0, v ∈ ks
def RchI (es : List (List Int)) (a b : Int) : Prop := ∃ p, Wk es a p b
structure SrI (es : List (List Int)) (a n : Int) (ks : List Int) (ps : List (List (List Int))) (i : Nat) : Prop where
  len : ks.length = ps.length
  il : i ≤ ks.length
  nd : ks.Nodup
  hd : a ∈ ks
  bd : ∀ x ∈ ks, 0 ≤ x ∧ x < n
  pt : ∀ (j : Nat) x p, ks[j]? = some x → ps[j]? = some p → Pth es a ks x p
  cl : ∀ (j : Nat) x, j < i → ks[j]? = some x → ∀ e ∈ es, es0 e = x → es2 e ∈ ks
theorem SrI.start {es : List (List Int)} {a n : Int} (h : 0 ≤ a ∧ a < n) : SrI es a n [a] [[]] 0 where
  len := rfl
  il := Nat.zero_le _
  nd := by simp
  hd := List.mem_cons_self
  bd := fun x hx => by rw [List.mem_singleton.mp hx]; exact h
  pt := fun j x p e1 e2 => by
    cases j with
    | zero => cases e1; cases e2; exact ⟨.nil, by simp, fun v hv => by cases hv⟩
    | succ j => cases e1
  cl := fun j x hj => by omega
end LR
namespace LR
open PySem PySem.Spec PyProof.Rows L2
theorem SrI.next {es : List (List Int)} {a n u : Int} {ks ps i} (s : SrI es a n ks ps i) (hu : ks[i]? = some u) (cl : ∀ e ∈ es, es0 e = u → es2 e ∈ ks) : SrI es a n ks ps (i + 1) where
  len := s.len
  il := (List.getElem?_eq_some_iff.mp hu).1
  nd := s.nd
  hd := s.hd
  bd := s.bd
  pt := s.pt
  cl := fun j x hj e1 e he h0 => by
    by_cases c : j < i
    · exact s.cl j x c e1 e he h0
    · have : j = i := by omega
      subst this
      rw [hu] at e1; cases e1
      exact cl e he h0
end LR
set_option Elab.async false
set_option maxRecDepth 100000
set_option linter.all false
set_option maxHeartbeats 4000000
namespace LR
/-! # cycles -/
def es1 (e : List Int) : Int := e.getD 1 0
theorem ed_at0 {h n : Int} {e : List Int} (o : EdgeOk h n e) : ixD (intT e) (.int 0) = some (.int (es0 e)) := by
  obtain ⟨s, r, t, rfl, _⟩ := o
  exact atI_of (k := 0) rfl
theorem ed_at1 {h n : Int} {e : List Int} (o : EdgeOk h n e) : ixD (intT e) (.int 1) = some (.int (es1 e)) := by
  obtain ⟨s, r, t, rfl, _⟩ := o
  exact atI_of (k := 1) rfl
theorem ed_at2 {h n : Int} {e : List Int} (o : EdgeOk h n e) : ixD (intT e) (.int 2) = some (.int (es2 e)) := by
  obtain ⟨s, r, t, rfl, _⟩ := o
  exact atI_of (k := 2) rfl
theorem Wk.mem {es a p b} (w : Wk es a p b) : ∀ e ∈ p, e ∈ es := by
  induction w with
  | nil => exact fun e h => by cases h
  | snoc w m s ih =>
    intro e h
    rcases List.mem_append.mp h with z | z
    · exact ih e z
    · rw [List.mem_singleton.mp z]; exact m
theorem Wk.mono {es es' : List (List Int)} {a p b} (h : ∀ e ∈ es, e ∈ es') (w : Wk es a p b) : Wk es' a p b := by
  induction w with
  | nil => exact .nil
  | snoc w m s ih => exact .snoc ih (h _ m) s
theorem Wk.cons {es : List (List Int)} {e : List Int} {p b} (m : e ∈ es) (w : Wk es (es2 e) p b) : Wk es (es0 e) (e :: p) b := by
  generalize ha : es2 e = a at w
  induction w with
  | nil => subst ha; exact Wk.snoc (p := []) .nil m rfl
  | snoc w m2 s ih => exact Wk.snoc (p := e :: _) ih m2 s
theorem Wk.at_nil {es : List (List Int)} {a b : Int} {p : List (List Int)} (w : Wk es a p b) (h : p = []) : b = a := by
  cases w with
  | nil => rfl
  | snoc w m s => simp at h
theorem Wk.first {es : List (List Int)} {a b : Int} {p : List (List Int)} (w : Wk es a p b) : ∀ e, p[0]? = some e → es0 e = a := by
  induction w with
  | nil => intro e h; cases h
  | @snoc b p e w m s ih =>
    intro f h
    cases p with
    | nil =>
      cases h
      exact s.trans (w.at_nil rfl)
    | cons x p => exact ih f h
theorem RchI.mono {es es' : List (List Int)} {a b} (h : ∀ e ∈ es, e ∈ es') (r : RchI es a b) : RchI es' a b := let ⟨p, w⟩ := r; ⟨p, w.mono h⟩
end LR
set_option Elab.async false
set_option maxRecDepth 100000
set_option linter.all false
set_option maxHeartbeats 4000000
namespace LR
open PySem PySem.Spec PyProof.Rows L2
/-! # edges in order: all fit, none twice -/
structure Eds (h n : Int) (es : List (List Int)) : Prop where
  ok : ∀ e ∈ es, EdgeOk h n e
  nd : es.Nodup
theorem Eds.ins {h n : Int} {es : List (List Int)} (E : Eds h n es) {e : List Int} (o : EdgeOk h n e) (m : e ∉ es) (k : Nat) : Eds h n (es.take k ++ [e] ++ es.drop k) := by
  have p : (es.take k ++ [e] ++ es.drop k).Perm (e :: es) := by
    rw [List.append_assoc]
    refine List.Perm.trans List.perm_middle ?_
    show (e :: (es.take k ++ es.drop k)).Perm (e :: es)
    rw [List.take_append_drop]
  refine ⟨fun f hf => ?_, p.nodup_iff.mpr (List.nodup_cons.mpr ⟨m, E.nd⟩)⟩
  rcases List.mem_cons.mp (p.mem_iff.mp hf) with z | z
  · rw [z]; exact o
  · exact E.ok f z
theorem ptup3 {p q r : PF} {env : List Ev} {a b c : D} (h1 : p env = some a) (h2 : q env = some b) (h3 : r env = some c) : ptup [p, q, r] env = some (.tup [a, b, c]) := by
  have e : evs [p, q, r] env = some [a, b, c] := by simp [evs, h1, h2, h3]
  unfold ptup
  rw [e]
theorem Eds.snoc {h n : Int} {es : List (List Int)} (E : Eds h n es) {e : List Int} (o : EdgeOk h n e) (m : e ∉ es) : Eds h n (es ++ [e]) := by
  have := E.ins o m es.length
  rwa [List.take_length, List.drop_length, List.append_nil] at this
end LR
set_option Elab.async false
set_option maxRecDepth 100000
set_option linter.all false
set_option maxHeartbeats 4000000
namespace LR
open PySem PySem.Spec PyProof.Rows L2
/-! # games as the laws draw them -/
structure GameIn (h : Int) (os : List Bool) (es : List (List Int)) : Prop where
  sz : 1 ≤ os.length ∧ os.length ≤ 9
  eds : Eds h os.length es
  len : es.length ≤ 63
  out : ∀ v : Nat, v < os.length → ∃ e ∈ es, es0 e = (v : Int)
theorem GameIn.head {h os es} (G : GameIn h os es) : ∀ v : Nat, v < os.length → ∃ e ∈ es, e.head? = some (v : Int) := fun v hv => by
  obtain ⟨e, he, h0⟩ := G.out v hv
  obtain ⟨s, r, t, rfl, _⟩ := G.eds.ok e he
  exact ⟨_, he, congrArg some h0⟩
/-! ## the edges of a row's game -/
def rowP (ls : List Int) (i : Nat) : List (List Int) := (List.range i).flatMap fun k : Nat => [[(k : Int), 2 * ls.getD k 0, (k : Int) + 1], [(k : Int) + 1, 2 * ls.getD k 0 - 1, (k : Int)]]
theorem rowP_succ {ls : List Int} {i : Nat} : rowP ls (i + 1) = rowP ls i ++ [[(i : Int), 2 * ls.getD i 0, (i : Int) + 1]] ++ [[(i : Int) + 1, 2 * ls.getD i 0 - 1, (i : Int)]] := by
  unfold rowP
  rw [List.range_succ, List.flatMap_append, List.append_assoc]
  rfl
theorem rowP_len (ls : List Int) (i : Nat) : (rowP ls i).length = 2 * i := by
  induction i with
  | zero => rfl
  | succ i ih => rw [rowP_succ, List.length_append, List.length_append, ih]; rfl
def rowE (ls : List Int) : List (List Int) := if ls.length = 0 then [[0, 0, 0]] else rowP ls ls.length
theorem mem_rowP {ls : List Int} {i : Nat} {e : List Int} : e ∈ rowP ls i ↔ ∃ k, k < i ∧ (e = [(k : Int), 2 * ls.getD k 0, (k : Int) + 1] ∨ e = [(k : Int) + 1, 2 * ls.getD k 0 - 1, (k : Int)]) := by
  unfold rowP
  rw [List.mem_flatMap]
  constructor
  · rintro ⟨k, hk, he⟩
    refine ⟨k, List.mem_range.mp hk, ?_⟩
    simpa using he
  · rintro ⟨k, hk, he⟩
    exact ⟨k, List.mem_range.mpr hk, by simpa using he⟩
theorem getD_get {α : Type} {ls : List α} {k : Nat} {d : α} (h : k < ls.length) : ls.getD k d = ls[k] := by
  rw [List.getD_eq_getElem?_getD, List.getElem?_eq_getElem h]; rfl
theorem lev_at {h : Int} {ls : List Int} (hb : ∀ l ∈ ls, 1 ≤ l ∧ l ≤ h) {k : Nat} (hk : k < ls.length) : 1 ≤ ls.getD k 0 ∧ ls.getD k 0 ≤ h := by
  rw [getD_get hk]
  exact hb _ (List.getElem_mem hk)
theorem rowP_eds {h : Int} {ls : List Int} (hb : ∀ l ∈ ls, 1 ≤ l ∧ l ≤ h) : ∀ i, i ≤ ls.length → Eds h (ls.length + 1) (rowP ls i) ∧ ∀ e ∈ rowP ls i, es0 e ≤ i ∧ es2 e ≤ i
  | 0, _ => ⟨⟨fun _ h => (by cases h), .nil⟩, fun _ h => (by cases h)⟩
  | i + 1, hi => by
    obtain ⟨O, fb⟩ := rowP_eds hb i (by omega)
    have lb := lev_at hb (k := i) (by omega)
    rw [rowP_succ]
    generalize ls.getD i 0 = l at lb
    have o1 : EdgeOk h (ls.length + 1) [(i : Int), 2 * l, (i : Int) + 1] := ⟨_, _, _, rfl, ⟨by omega, by omega⟩, ⟨by omega, by omega⟩, ⟨by omega, by omega⟩⟩
    have o2 : EdgeOk h (ls.length + 1) [(i : Int) + 1, 2 * l - 1, (i : Int)] := ⟨_, _, _, rfl, ⟨by omega, by omega⟩, ⟨by omega, by omega⟩, ⟨by omega, by omega⟩⟩
    have O1 := O.snoc o1 fun m => by
      have := (fb _ m).2
      have e : es2 [(i : Int), 2 * l, (i : Int) + 1] = (i : Int) + 1 := rfl
      omega
    have O2 := O1.snoc o2 fun m => by
      rcases List.mem_append.mp m with z | z
      · have := (fb _ z).1
        have e : es0 [(i : Int) + 1, 2 * l - 1, (i : Int)] = (i : Int) + 1 := rfl
        omega
      · have := List.mem_singleton.mp z
        injection this with h1 _
        omega
    refine ⟨O2, fun e he => ?_⟩
    rcases List.mem_append.mp he with z | z
    · rcases List.mem_append.mp z with z | z
      · have := fb e z; omega
      · rw [List.mem_singleton.mp z]
        show (i : Int) ≤ ((i + 1 : Nat) : Int) ∧ (i : Int) + 1 ≤ ((i + 1 : Nat) : Int)
        omega
    · rw [List.mem_singleton.mp z]
      show (i : Int) + 1 ≤ ((i + 1 : Nat) : Int) ∧ (i : Int) ≤ ((i + 1 : Nat) : Int)
      omega
theorem rowE_eds {h : Int} {ls : List Int} (h1 : 1 ≤ h) (hb : ∀ l ∈ ls, 1 ≤ l ∧ l ≤ h) : Eds h (ls.length + 1) (rowE ls) := by
  unfold rowE
  split
  · refine ⟨fun e he => ?_, by simp⟩
    rw [List.mem_singleton.mp he]
    exact ⟨_, _, _, rfl, ⟨by omega, by omega⟩, ⟨by omega, by omega⟩, ⟨by omega, by omega⟩⟩
  · exact (rowP_eds hb _ (Nat.le_refl _)).1
theorem rowE_len (ls : List Int) : (rowE ls).length ≤ 2 * ls.length + 1 := by
  unfold rowE
  split
  · show 1 ≤ _; omega
  · rw [rowP_len]; omega
theorem rowE_out (ls : List Int) : ∀ v : Nat, v < ls.length + 1 → ∃ e ∈ rowE ls, es0 e = (v : Int) := fun v hv => by
  unfold rowE
  split
  · rename_i c
    exact ⟨_, List.mem_singleton.mpr rfl, by show (0 : Int) = v; omega⟩
  · by_cases c : v < ls.length
    · exact ⟨_, mem_rowP.mpr ⟨v, c, .inl rfl⟩, rfl⟩
    · exact ⟨_, mem_rowP.mpr ⟨v - 1, by omega, .inr rfl⟩, by show ((v - 1 : Nat) : Int) + 1 = v; omega⟩
theorem strIx {z : Str} {l : List Nat} (e : z.cps.toList = l) (hl : l.length ≤ 1000) {k : Nat} {c : Nat} (h : l[k]? = some c) : ixD (.str z) (.int (k : Int)) = some (.str ⟨#[c]⟩) := by
  have hz : z.length ≤ 100000 := by
    show z.cps.size ≤ _
    rw [← Array.length_toList, e]; omega
  show (if z.length ≤ 100000 then (atI z.cps.toList (k : Int)).map (fun c => D.str ⟨#[c]⟩) else none) = _
  rw [if_pos hz, e, atI_of h]; rfl
theorem strO_ix {os : List Bool} (hl : os.length ≤ 1000) {k : Nat} {b : Bool} (h : os[k]? = some b) : ixD (.str (strO os)) (.int (k : Int)) = some (.str ⟨#[ltr b]⟩) :=
  strIx (l := os.map ltr) (by unfold strO; simp) (by rw [List.length_map]; exact hl) (by rw [List.getElem?_map, h]; rfl)
/-- levels as a list or a tuple -/
def seqX (tp : Bool) (ls : List Int) : D := if tp then intT ls else intL ls
theorem seqX_at {tp ls} {k : Nat} {x : Int} (h : ls[k]? = some x) : ixD (seqX tp ls) (nat k) = some (.int x) := by
  cases tp
  · exact atI_of (by rw [List.getElem?_map, h]; rfl)
  · exact atI_of (by rw [List.getElem?_map, h]; rfl)
theorem GameIn.snoc {h : Int} {os : List Bool} {es : List (List Int)} (G : GameIn h os es) {e : List Int} (o : EdgeOk h os.length e) (m : e ∉ es) (hl : es.length + 1 ≤ 63) : GameIn h os (es ++ [e]) :=
  ⟨G.sz, G.eds.snoc o m, by rw [List.length_append]; exact hl, fun v hv => by
    obtain ⟨f, hf, h0⟩ := G.out v hv
    exact ⟨f, List.mem_append_left _ hf, h0⟩⟩
end LR
set_option Elab.async false
set_option maxRecDepth 100000
set_option linter.all false
set_option maxHeartbeats 4000000
namespace LR
open PySem PySem.Spec PyProof.Rows L2
/-! # placements: steps of the nodes, none for off -/
abbrev Plc := List (Option Nat)
def optN : Option Nat → D
  | none => .non
  | some s => nat s
def plcD (φ : Plc) : D := .lst (φ.map optN)
def optI : Option Int → D
  | none => .non
  | some s => .int s
def plcI (φ : List (Option Int)) : D := .lst (φ.map optI)
def toI (φ : Plc) : List (Option Int) := φ.map fun o => o.map fun n : Nat => (n : Int)
theorem plcI_toI (φ : Plc) : plcI (toI φ) = plcD φ := by
  unfold plcI plcD toI
  rw [List.map_map]
  congr 1
  refine List.map_congr_left fun o _ => ?_
  cases o <;> rfl
def pat (φ : Plc) (v : Int) : Option Nat := φ.getD v.toNat none
/-- the edge lets a node at s stay -/
def okAt (ls : List Int) (φ : Plc) (s : Nat) (e : List Int) : Bool := match pat φ (es2 e) with
  | none => false
  | some t => alw ls s (es1 e) t
def outs (es : List (List Int)) (v : Nat) : List (List Int) := es.filter fun e => decide (es0 e = (v : Int))
theorem mem_outs {es v e} : e ∈ outs es v ↔ e ∈ es ∧ es0 e = (v : Int) := by unfold outs; rw [List.mem_filter, decide_eq_true_eq]
def goodAt (ls : List Int) (os : List Bool) (es : List (List Int)) (φ : Plc) (v s : Nat) : Bool := if os.getD v false = true then (outs es v).any (okAt ls φ s) else (outs es v).all (okAt ls φ s)
def fitsB (ls : List Int) (os : List Bool) (es : List (List Int)) (φ : Plc) (v : Nat) : Bool := match φ.getD v none with
  | none => true
  | some s => goodAt ls os es φ v s
theorem any_perm {α : Type} {l m : List α} (h : ∀ x, x ∈ l ↔ x ∈ m) (p : α → Bool) : l.any p = m.any p := by
  rw [Bool.eq_iff_iff, List.any_eq_true, List.any_eq_true]
  exact ⟨fun ⟨x, a, b⟩ => ⟨x, (h x).mp a, b⟩, fun ⟨x, a, b⟩ => ⟨x, (h x).mpr a, b⟩⟩
theorem all_perm {α : Type} {l m : List α} (h : ∀ x, x ∈ l ↔ x ∈ m) (p : α → Bool) : l.all p = m.all p := by
  rw [Bool.eq_iff_iff, List.all_eq_true, List.all_eq_true]
  exact ⟨fun k x a => k x ((h x).mpr a), fun k x a => k x ((h x).mp a)⟩
theorem fitsB_perm {ls os es es' φ v} (h : ∀ e, e ∈ es ↔ e ∈ es') : fitsB ls os es φ v = fitsB ls os es' φ v := by
  have h2 : ∀ e, e ∈ outs es v ↔ e ∈ outs es' v := fun e => by rw [mem_outs, mem_outs, h]
  unfold fitsB
  cases φ.getD v none with
  | none => rfl
  | some s => show goodAt ls os es φ v s = goodAt ls os es' φ v s; unfold goodAt; rw [any_perm h2, all_perm h2]
/-- a placement on the ladder's steps -/
structure PlcOk (n top : Nat) (φ : Plc) : Prop where
  len : φ.length = n
  le : ∀ s, some s ∈ φ → s ≤ top
theorem PlcOk.at_le {n top φ} (P : PlcOk n top φ) {v : Nat} {s : Nat} (h : φ.getD v none = some s) : v < n ∧ s ≤ top := by
  rw [List.getD_eq_getElem?_getD] at h
  cases e : φ[v]? with
  | none => rw [e] at h; cases h
  | some o =>
    rw [e] at h
    have h : o = some s := h
    subst h
    have := (List.getElem?_eq_some_iff.mp e).1
    exact ⟨by rw [← P.len]; exact this, P.le s (List.mem_of_getElem? e)⟩
theorem PlcOk.set {n top φ} (P : PlcOk n top φ) {v : Nat} {o : Option Nat} (h : ∀ s, o = some s → s ≤ top) : PlcOk n top (φ.set v o) := by
  refine ⟨by rw [List.length_set, P.len], fun s hs => ?_⟩
  rcases List.mem_or_eq_of_mem_set hs with m | m
  · exact P.le s m
  · exact h s m.symm
theorem plc_at {φ : Plc} {v : Nat} (h : v < φ.length) : ixD (plcD φ) (.int (v : Int)) = some (optN (φ.getD v none)) := by
  refine atI_of ?_
  rw [List.getElem?_map, List.getElem?_eq_getElem h, getD_get h]; rfl
theorem getD_set_eq {φ : Plc} {v : Nat} {o : Option Nat} (h : v < φ.length) : (φ.set v o).getD v none = o := by
  rw [List.getD_eq_getElem?_getD, List.getElem?_set_self (by simpa using h)]; rfl
theorem getD_set_ne {φ : Plc} {v u : Nat} {o : Option Nat} (h : u ≠ v) : (φ.set v o).getD u none = φ.getD u none := by
  rw [List.getD_eq_getElem?_getD, List.getD_eq_getElem?_getD, List.getElem?_set_ne (Ne.symm h)]
/-- the step to which a node is lifted -/
def liftV (ls : List Int) (os : List Bool) (es : List (List Int)) (φ : Plc) (v : Nat) : Option Nat := match φ.getD v none with
  | none => none
  | some s0 => (List.range (ls.length + 1)).find? fun s => decide (s0 ≤ s) && fitsB ls os es (φ.set v (some s)) v
def liftP (ls : List Int) (os : List Bool) (es : List (List Int)) (φ : Plc) (v : Nat) : Plc := φ.set v (liftV ls os es φ v)
theorem find_range {n : Nat} {p : Nat → Bool} {s : Nat} : (List.range n).find? p = some s ↔ s < n ∧ p s = true ∧ ∀ j, j < s → p j = false := by
  rw [List.find?_eq_some_iff_append]
  constructor
  · rintro ⟨h, as, bs, e, hn⟩
    have hl : as.length < n := by have := congrArg List.length e; simp at this; omega
    have es : as.length = s := by
      have : (List.range n)[as.length]? = some s := by rw [e, List.getElem?_append_right (Nat.le_refl _)]; simp
      rw [List.getElem?_range hl] at this
      exact Option.some.inj this
    refine ⟨by omega, h, fun j hj => ?_⟩
    have : (List.range n)[j]? = as[j]? := by rw [e, List.getElem?_append_left (by omega)]
    rw [List.getElem?_range (by omega)] at this
    have := hn j (List.mem_of_getElem? this.symm)
    simpa using this
  · rintro ⟨hs, h, hn⟩
    refine ⟨h, List.range s, (List.range' (s + 1) (n - (s + 1))), ?_, fun j hj => ?_⟩
    · have e : n = s + (1 + (n - (s + 1))) := by omega
      conv => lhs; rw [e, List.range_add]
      congr 1
      rw [List.range_add]
      simp [List.range'_eq_map_range, Nat.add_assoc]
    · have := hn j (List.mem_range.mp hj)
      simpa using this
theorem liftV_none {ls os es φ v s0} (h0 : φ.getD v none = some s0) (hn : ∀ s, s0 ≤ s → s ≤ ls.length → fitsB ls os es (φ.set v (some s)) v = false) : liftV ls os es φ v = none := by
  unfold liftV
  rw [h0]
  show (List.range (ls.length + 1)).find? _ = none
  rw [List.find?_eq_none]
  intro s hs
  have := List.mem_range.mp hs
  by_cases c : s0 ≤ s
  · rw [hn s c (by omega)]; simp
  · simp [c]
theorem liftV_some {ls os es φ v s0 s} (h0 : φ.getD v none = some s0) (h1 : s0 ≤ s) (h2 : s ≤ ls.length) (h3 : fitsB ls os es (φ.set v (some s)) v = true) (hn : ∀ j, s0 ≤ j → j < s → fitsB ls os es (φ.set v (some j)) v = false) : liftV ls os es φ v = some s := by
  unfold liftV
  rw [h0]
  show (List.range (ls.length + 1)).find? _ = some s
  refine find_range.mpr ⟨by omega, by simp [h1, h3], fun j hj => ?_⟩
  by_cases c : s0 ≤ j
  · rw [hn j c hj]; simp
  · simp [c]
theorem liftV_le {ls os es φ v s} (h : liftV ls os es φ v = some s) : s ≤ ls.length := by
  unfold liftV at h
  split at h
  · cases h
  · have := (find_range.mp h).1; omega
theorem pif_of {c p q : PF} {env : List Ev} {b : Bool} {z : D} (h : c env = some (.bl b)) (h1 : b = true → p env = some z) (h2 : b = false → q env = some z) : pif c p q env = some z := by
  unfold pif
  rw [h]
  cases b
  · exact h2 rfl
  · exact h1 rfl
theorem ltr_A (b : Bool) : eqD (.str ⟨#[ltr b]⟩) (.str (Str.ofString "A")) = some (.bl b) := by
  show (if PyData.strOk ⟨#[ltr b]⟩ = true ∧ PyData.strOk (Str.ofString "A") = true then some (D.bl (decide ((⟨#[ltr b]⟩ : Str) = Str.ofString "A"))) else none) = _
  cases b
  · rw [if_pos ⟨by decide +kernel, by decide +kernel⟩, decide_eq_false (by decide +kernel)]
  · rw [if_pos ⟨by decide +kernel, by decide +kernel⟩, decide_eq_true (by decide +kernel)]
theorem owner_A {os : List Bool} {v : Nat} (hl : os.length ≤ 1000) (hv : v < os.length) : ∃ x, ixD (.str (strO os)) (.int (v : Int)) = some x ∧ eqD x (.str (Str.ofString "A")) = some (.bl (os.getD v false)) :=
  ⟨_, strO_ix hl (List.getElem?_eq_getElem hv), by rw [getD_get hv]; exact ltr_A _⟩
end LR
set_option Elab.async false
set_option maxRecDepth 100000
set_option linter.all false
set_option maxHeartbeats 4000000
namespace LR
open PySem PySem.Spec PyProof.Rows L2
/-! # the least placement that fits -/
/-- off stands above all -/
def ple : Option Nat → Option Nat → Prop
  | _, none => True
  | none, some _ => False
  | some s, some t => s ≤ t
theorem ple_refl : ∀ a, ple a a
  | none => trivial
  | some s => Nat.le_refl s
theorem ple_anti : ∀ {a b}, ple a b → ple b a → a = b
  | none, none, _, _ => rfl
  | none, some _, h, _ => h.elim
  | some _, none, _, h => h.elim
  | some s, some t, h, k => by rw [Nat.le_antisymm h k]
theorem ple_trans : ∀ {a b c}, ple a b → ple b c → ple a c
  | _, _, none, _, _ => trivial
  | none, none, some _, _, h => h
  | none, some _, some _, h, _ => h.elim
  | some _, none, some _, _, h => h.elim
  | some s, some t, some u, h, k => Nat.le_trans h k
theorem ple_some {a : Option Nat} {t : Nat} (h : ple a (some t)) : ∃ s, a = some s ∧ s ≤ t := by
  cases a with
  | none => exact h.elim
  | some s => exact ⟨s, rfl, h⟩
def PLe (φ ψ : Plc) : Prop := ∀ v, ple (φ.getD v none) (ψ.getD v none)
theorem PLe.refl {φ : Plc} : PLe φ φ := fun _ => ple_refl _
theorem PLe.trans {a b c : Plc} (h : PLe a b) (k : PLe b c) : PLe a c := fun v => ple_trans (h v) (k v)
theorem PLe.anti {n : Nat} {φ ψ : Plc} (h : PLe φ ψ) (k : PLe ψ φ) (l1 : φ.length = n) (l2 : ψ.length = n) : φ = ψ := by
  refine List.ext_getElem? fun v => ?_
  have e := ple_anti (h v) (k v)
  rw [List.getD_eq_getElem?_getD, List.getD_eq_getElem?_getD] at e
  rcases Nat.lt_or_ge v n with z | z
  · rw [List.getElem?_eq_getElem (by omega), List.getElem?_eq_getElem (by omega)] at e ⊢
    exact congrArg some e
  · rw [List.getElem?_eq_none (by omega), List.getElem?_eq_none (by omega)]
theorem PLe.set {φ ψ : Plc} {v : Nat} {o : Option Nat} (h : PLe φ ψ) (k : ple o (ψ.getD v none)) : PLe (φ.set v o) ψ := fun u => by
  by_cases c : u = v
  · subst c
    rcases Nat.lt_or_ge u φ.length with z | z
    · rw [getD_set_eq z]; exact k
    · rw [List.set_eq_of_length_le z]; exact h u
  · rw [getD_set_ne c]; exact h u
section
variable {ls : List Int} {os : List Bool} {es : List (List Int)} {φ ψ : Plc} {h : Int} {n v s : Nat}
theorem ok_mono (p : PLe φ ψ) {e : List Int} (k : okAt ls ψ s e = true) : okAt ls φ s e = true := by
  unfold okAt pat at k ⊢
  have q := p (es2 e).toNat
  cases c : ψ.getD (es2 e).toNat none with
  | none => rw [c] at k; cases k
  | some t =>
    rw [c] at q k
    obtain ⟨t', e1, lt⟩ := ple_some q
    rw [e1]
    exact alw_down k (Int.ofNat_le.mpr lt)
theorem good_mono (p : PLe φ ψ) (k : goodAt ls os es ψ v s = true) : goodAt ls os es φ v s = true := by
  unfold goodAt at k ⊢
  by_cases c : os.getD v false = true
  · rw [if_pos c] at k ⊢
    obtain ⟨e, m, q⟩ := List.any_eq_true.mp k
    exact List.any_eq_true.mpr ⟨e, m, ok_mono p q⟩
  · rw [if_neg c] at k ⊢
    exact List.all_eq_true.mpr fun e m => ok_mono p (List.all_eq_true.mp k e m)
theorem fits_at (e : φ.getD v none = some s) : fitsB ls os es φ v = goodAt ls os es φ v s := by unfold fitsB; rw [e]
/-- .. at the same step -/
theorem fits_mono (p : PLe φ ψ) (e1 : φ.getD v none = some s) (e2 : ψ.getD v none = some s) (k : fitsB ls os es ψ v = true) : fitsB ls os es φ v = true := by
  rw [fits_at e2] at k
  rw [fits_at e1]
  exact good_mono p k
/-- a wrong node stands below a fitting placement -/
theorem wrong_below (p : PLe φ ψ) (w : fitsB ls os es φ v = false) (k : fitsB ls os es ψ v = true) {t : Nat} (e : ψ.getD v none = some t) : ∃ s, φ.getD v none = some s ∧ s < t := by
  have q := p v
  rw [e] at q
  obtain ⟨s, e1, lt⟩ := ple_some q
  refine ⟨s, e1, Nat.lt_of_le_of_ne lt fun z => ?_⟩
  subst z
  rw [fits_mono p e1 e k] at w
  cases w
theorem wrong_on (w : fitsB ls os es φ v = false) : ∃ s, φ.getD v none = some s := by
  cases c : φ.getD v none with
  | none => unfold fitsB at w; rw [c] at w; cases w
  | some s => exact ⟨s, rfl⟩
/-- one step up stays below -/
def stepV (top : Nat) (φ : Plc) (v : Nat) : Option Nat := match φ.getD v none with
  | none => none
  | some s => if s < top then some (s + 1) else none
theorem step_below (p : PLe φ ψ) (w : fitsB ls os es φ v = false) (k : fitsB ls os es ψ v = true) (ok : PlcOk n ls.length ψ) : ple (stepV ls.length φ v) (ψ.getD v none) := by
  cases c : ψ.getD v none with
  | none => exact trivial
  | some t =>
    obtain ⟨s, e1, lt⟩ := wrong_below p w k c
    have tl := (ok.at_le c).2
    unfold stepV
    rw [e1]
    show ple (if s < ls.length then some (s + 1) else none) (some t)
    rw [if_pos (by omega)]
    exact lt
theorem lift_below (p : PLe φ ψ) (k : fitsB ls os es ψ v = true) (ok : PlcOk n ls.length ψ) (okp : PlcOk n ls.length φ) : ple (liftV ls os es φ v) (ψ.getD v none) := by
  cases c : ψ.getD v none with
  | none => exact trivial
  | some t =>
    have q := p v
    rw [c] at q
    obtain ⟨s0, e0, lt⟩ := ple_some q
    obtain ⟨vn, tl⟩ := ok.at_le c
    have vl : v < φ.length := by rw [okp.len]; exact vn
    have fit : fitsB ls os es (φ.set v (some t)) v = true := fits_mono (p.set (o := some t) (by rw [c]; exact Nat.le_refl t)) (getD_set_eq vl) c k
    unfold liftV
    rw [e0]
    show ple ((List.range (ls.length + 1)).find? fun s => decide (s0 ≤ s) && fitsB ls os es (φ.set v (some s)) v) (some t)
    cases f : (List.range (ls.length + 1)).find? fun s => decide (s0 ≤ s) && fitsB ls os es (φ.set v (some s)) v with
    | none =>
      have := List.find?_eq_none.mp f t (List.mem_range.mpr (by omega))
      rw [fit, decide_eq_true lt] at this
      exact (this rfl).elim
    | some s =>
      obtain ⟨_, _, hn⟩ := find_range.mp f
      refine Nat.le_of_not_lt fun z => ?_
      have := hn t z
      rw [fit, decide_eq_true lt] at this
      cases this
/-- the heights' sum -/
def hgt (top : Nat) : Option Nat → Nat
  | none => top + 1
  | some s => s
def wgt (top : Nat) (φ : Plc) : Nat := (φ.map (hgt top)).sum
theorem wgt_le {top : Nat} : ∀ {φ : Plc}, (∀ s, some s ∈ φ → s ≤ top) → wgt top φ ≤ φ.length * (top + 1)
  | [], _ => Nat.zero_le _
  | a :: r, h => by
    have ih := wgt_le (top := top) (φ := r) fun s m => h s (List.mem_cons_of_mem _ m)
    have ha : hgt top a ≤ top + 1 := by
      cases a with
      | none => exact Nat.le_refl _
      | some s => exact Nat.le_succ_of_le (h s List.mem_cons_self)
    show hgt top a + wgt top r ≤ (r.length + 1) * (top + 1)
    rw [Nat.succ_mul]
    omega
theorem wgt_set {top : Nat} : ∀ {φ : Plc} {v : Nat} {o : Option Nat}, v < φ.length → wgt top (φ.set v o) + hgt top (φ.getD v none) = wgt top φ + hgt top o
  | [], _, _, h => absurd h (Nat.not_lt_zero _)
  | a :: r, 0, o, _ => by
    show hgt top o + wgt top r + hgt top a = hgt top a + wgt top r + hgt top o
    omega
  | a :: r, v + 1, o, h => by
    have ih := wgt_set (top := top) (φ := r) (v := v) (o := o) (Nat.lt_of_succ_lt_succ h)
    have e : (a :: r).getD (v + 1) none = r.getD v none := rfl
    rw [e]
    show hgt top a + wgt top (r.set v o) + hgt top (r.getD v none) = hgt top a + wgt top r + hgt top o
    omega
theorem lift_up (w : fitsB ls os es φ v = false) (okp : PlcOk n ls.length φ) : wgt ls.length φ < wgt ls.length (liftP ls os es φ v) := by
  obtain ⟨s0, e0⟩ := wrong_on w
  obtain ⟨vn, sl⟩ := okp.at_le e0
  have vl : v < φ.length := by rw [okp.len]; exact vn
  have same : φ.set v (some s0) = φ := by
    refine List.ext_getElem? fun u => ?_
    by_cases c : u = v
    · subst c
      rw [List.getElem?_set_self vl]
      rw [List.getD_eq_getElem?_getD, List.getElem?_eq_getElem vl] at e0
      rw [List.getElem?_eq_getElem vl]
      exact congrArg some e0.symm
    · rw [List.getElem?_set_ne (Ne.symm c)]
  have up : s0 < hgt ls.length (liftV ls os es φ v) := by
    unfold liftV
    rw [e0]
    show s0 < hgt ls.length ((List.range (ls.length + 1)).find? fun s => decide (s0 ≤ s) && fitsB ls os es (φ.set v (some s)) v)
    cases f : (List.range (ls.length + 1)).find? fun s => decide (s0 ≤ s) && fitsB ls os es (φ.set v (some s)) v with
    | none => exact Nat.lt_succ_of_le sl
    | some s =>
      obtain ⟨_, q, _⟩ := find_range.mp f
      rw [Bool.and_eq_true, decide_eq_true_eq] at q
      refine Nat.lt_of_le_of_ne q.1 fun z => ?_
      have q2 := q.2
      have z : s0 = s := z
      rw [← z, same, w] at q2
      cases q2
  have := wgt_set (top := ls.length) (φ := φ) (v := v) (o := liftV ls os es φ v) vl
  rw [e0] at this
  have this : wgt ls.length (liftP ls os es φ v) + s0 = wgt ls.length φ + hgt ls.length (liftV ls os es φ v) := this
  omega
/-- THE LEAST that fits -/
structure LeastFit (ls : List Int) (os : List Bool) (es : List (List Int)) (φ : Plc) : Prop where
  ok : PlcOk os.length ls.length φ
  fit : ∀ v, v < os.length → fitsB ls os es φ v = true
  le : ∀ ψ, PlcOk os.length ls.length ψ → (∀ v, v < os.length → fitsB ls os es ψ v = true) → PLe φ ψ
theorem LeastFit.uniq (a : LeastFit ls os es φ) (b : LeastFit ls os es ψ) : φ = ψ := (a.le ψ b.ok b.fit).anti (b.le φ a.ok a.fit) a.ok.len b.ok.len
theorem LeastFit.perm {es' : List (List Int)} (a : LeastFit ls os es φ) (k : ∀ e, e ∈ es ↔ e ∈ es') : LeastFit ls os es' φ :=
  ⟨a.ok, fun v hv => by rw [← fitsB_perm k]; exact a.fit v hv, fun ψ o f => a.le ψ o fun v hv => by rw [fitsB_perm k]; exact f v hv⟩
theorem zeros_le {m : Nat} {ψ : Plc} (l : ψ.length = m) : PLe (List.replicate m (some 0)) ψ := fun v => by
  rw [List.getD_eq_getElem?_getD, List.getD_eq_getElem?_getD]
  rcases Nat.lt_or_ge v m with z | z
  · rw [List.getElem?_eq_getElem (by rw [List.length_replicate]; exact z), List.getElem_replicate]
    cases ψ[v]?.getD none with
    | none => exact trivial
    | some t => exact Nat.zero_le t
  · rw [List.getElem?_eq_none (l := List.replicate m (some 0)) (by rw [List.length_replicate]; exact z), List.getElem?_eq_none (l := ψ) (by omega)]
    exact trivial
end
end LR
set_option Elab.async false
set_option maxRecDepth 100000
set_option linter.all false
set_option maxHeartbeats 4000000
namespace LR
/-! # rows that a ladder holds: the mathematics -/
def gp (ls : List Int) (s t : Nat) : Int := gapI ls s t
section
variable {ls : List Int} (hb : ∀ l ∈ ls, 1 ≤ l)
include hb
theorem gp_is {s t : Nat} (h : s ≤ t) : IsGap ls s t (gp ls s t) := by
  have := isGap_gapI hb (u := s) (w := t) (by omega) (by omega)
  rwa [Int.toNat_natCast, Int.toNat_natCast, Nat.min_eq_left h, Nat.max_eq_right h] at this
theorem gp_of {s t : Nat} {g : Int} (h : s ≤ t) (x : IsGap ls s t g) : gp ls s t = g := (gp_is hb h).one x
theorem gp_split {s t u : Nat} (h1 : s ≤ t) (h2 : t ≤ u) : gp ls s u = max (gp ls s t) (gp ls t u) := by
  obtain ⟨a0, a1, a2⟩ := gp_is hb h1
  obtain ⟨b0, b1, b2⟩ := gp_is hb h2
  refine gp_of hb (by omega) ⟨by omega, fun m z c d e => ?_, ?_⟩
  · by_cases q : m < t
    · have := a1 m z c q e; omega
    · have := b1 m z (by omega) d e; omega
  · by_cases q : gp ls s t ≤ gp ls t u
    · rw [Int.max_eq_right q]
      rcases b2 with b2 | ⟨m, c, d, e⟩
      · exact .inl b2
      · exact .inr ⟨m, by omega, d, e⟩
    · rw [Int.max_eq_left (by omega)]
      rcases a2 with a2 | ⟨m, c, d, e⟩
      · exact .inl a2
      · exact .inr ⟨m, c, by omega, e⟩
theorem gp_nil {s : Nat} : gp ls s s = 0 := gp_of hb (Nat.le_refl _) ⟨Int.le_refl _, fun m z c d e => by omega, .inl rfl⟩
theorem gp_one {s : Nat} {z : Int} (e : ls[s]? = some z) : gp ls s (s + 1) = z := by
  have := hb z (List.mem_of_getElem? e)
  refine gp_of hb (by omega) ⟨by omega, fun m y c d e2 => ?_, .inr ⟨s, Nat.le_refl _, by omega, e⟩⟩
  have : m = s := by omega
  subst this
  rw [e] at e2; cases e2; exact Int.le_refl _
theorem gp_mono {s s' t t' : Nat} (h1 : s ≤ s') (h2 : s' ≤ t') (h3 : t' ≤ t) : gp ls s' t' ≤ gp ls s t := by
  rw [gp_split hb h1 (by omega : s' ≤ t), gp_split hb h2 h3]; omega
theorem gp_pos {s t : Nat} (h1 : s < t) (h2 : t ≤ ls.length) : 1 ≤ gp ls s t := by
  have h := List.getElem?_eq_getElem (l := ls) (i := s) (by omega)
  have := gp_one hb h
  have := hb _ (List.mem_of_getElem? h)
  have := gp_mono hb (Nat.le_refl s) (by omega : s ≤ s + 1) (by omega : s + 1 ≤ t)
  omega
theorem gp_le {s t : Nat} {h : Int} (h0 : 0 ≤ h) (hh : ∀ l ∈ ls, l ≤ h) (c : s ≤ t) : gp ls s t ≤ h := by
  obtain ⟨a0, a1, a2⟩ := gp_is hb c
  rcases a2 with a2 | ⟨m, _, _, e⟩
  · omega
  · exact hh _ (List.mem_of_getElem? e)
theorem gp_rev {s t : Nat} (c : s ≤ t) (d : t ≤ ls.length) : gp ls.reverse (ls.length - t) (ls.length - s) = gp ls s t := by
  refine gp_of (fun l hl => hb l (List.mem_reverse.mp hl)) (by omega) (gap_rev d (gp_is hb c))
end
/-! ## choices of steps -/
/-- t above s, the gap r between -/
def rel (ls : List Int) (s t : Nat) (r : Int) : Bool := decide (s < t) && decide (gp ls s t = r)
theorem rel_iff {ls s t r} : rel ls s t r = true ↔ s < t ∧ gp ls s t = r := by unfold rel; simp
/-- steps c, one more than the row has levels, with the row's gaps between -/
def Ch (ls : List Int) : List Int → List Nat → Prop
  | [], [s] => s ≤ ls.length
  | r :: row, s :: t :: c => rel ls s t r = true ∧ Ch ls row (t :: c)
  | _, _ => False
theorem Ch.ne {ls row c} (h : Ch ls row c) : ∃ s r, c = s :: r := by
  cases c with
  | nil => cases row <;> exact h.elim
  | cons s r => exact ⟨s, r, rfl⟩
theorem Ch.one {ls row s} (h : Ch ls row [s]) : row = [] := by
  cases row with
  | nil => rfl
  | cons r row => exact h.elim
/-- by places -/
theorem ch_iff {ls : List Int} : ∀ {row c}, Ch ls row c ↔ c.length = row.length + 1 ∧ (∀ s ∈ c, s ≤ ls.length) ∧ ∀ k s t r, c[k]? = some s → c[k + 1]? = some t → row[k]? = some r → rel ls s t r = true := by
  intro row
  induction row with
  | nil =>
    intro c
    match c with
    | [] => exact ⟨fun h => h.elim, fun h => by have := h.1; simp at this⟩
    | [s] => exact ⟨fun h => ⟨rfl, fun s' hs => by rw [List.mem_singleton.mp hs]; exact h, fun k s t r h1 h2 h3 => by simp at h3⟩, fun h => h.2.1 s List.mem_cons_self⟩
    | _ :: _ :: _ => exact ⟨fun h => h.elim, fun h => by have := h.1; simp at this⟩
  | cons r row ih =>
    intro c
    match c with
    | [] => exact ⟨fun h => h.elim, fun h => by have := h.1; simp at this⟩
    | [s] => exact ⟨fun h => h.elim, fun h => by have := h.1; simp at this⟩
    | s :: t :: c =>
      constructor
      · rintro ⟨h1, h2⟩
        obtain ⟨q1, q2, q3⟩ := ih.mp h2
        refine ⟨by rw [List.length_cons, q1, List.length_cons], fun x hx => ?_, fun k a b g e1 e2 e3 => ?_⟩
        · rcases List.mem_cons.mp hx with rfl | hx
          · have := q2 t List.mem_cons_self
            have := (rel_iff.mp h1).1
            omega
          · exact q2 x hx
        · cases k with
          | zero => simp at e1 e2 e3; subst e1 e2 e3; exact h1
          | succ k => exact q3 k a b g (by simpa using e1) (by simpa using e2) (by simpa using e3)
      · rintro ⟨q1, q2, q3⟩
        exact ⟨q3 0 s t r rfl rfl rfl, ih.mpr ⟨by simpa using q1, fun x hx => q2 x (List.mem_cons_of_mem _ hx), fun k a b g e1 e2 e3 => q3 (k + 1) a b g (by simpa using e1) (by simpa using e2) (by simpa using e3)⟩⟩
/-! ## the least choice -/
def stps (ls : List Int) : List Nat := List.range (ls.length + 1)
/-- where a choice of the row may begin -/
def bk (ls : List Int) : List Int → List Nat
  | [] => stps ls
  | r :: row => (stps ls).filter fun s => (bk ls row).any fun t => rel ls s t r
def greedy (ls : List Int) : List Int → Nat → List Nat
  | [], _ => []
  | r :: row, s => match (bk ls row).find? fun t => rel ls s t r with
    | some t => t :: greedy ls row t
    | none => []
def least (ls row : List Int) : List Nat := match bk ls row with
  | [] => []
  | s :: _ => s :: greedy ls row s
theorem mem_stps {ls : List Int} {s : Nat} : s ∈ stps ls ↔ s ≤ ls.length := by unfold stps; rw [List.mem_range]; omega
theorem mem_bk {ls : List Int} : ∀ {row s}, s ∈ bk ls row ↔ ∃ c, Ch ls row (s :: c) := by
  intro row
  induction row with
  | nil => intro s; unfold bk; rw [mem_stps]; exact ⟨fun h => ⟨[], h⟩, fun ⟨c, h⟩ => by cases c with | nil => exact h | cons => exact h.elim⟩
  | cons r row ih =>
    intro s
    unfold bk
    rw [List.mem_filter, List.any_eq_true]
    constructor
    · rintro ⟨_, t, h1, h2⟩
      obtain ⟨c, hc⟩ := ih.mp h1
      exact ⟨t :: c, h2, hc⟩
    · rintro ⟨c, h⟩
      cases c with
      | nil => exact h.elim
      | cons t c =>
        refine ⟨mem_stps.mpr ?_, t, ih.mpr ⟨c, h.2⟩, h.1⟩
        exact (ch_iff.mp (show Ch ls (r :: row) (s :: t :: c) from h)).2.1 s List.mem_cons_self
theorem bk_sorted {ls : List Int} : ∀ row, (bk ls row).Pairwise (· < ·)
  | [] => List.pairwise_lt_range
  | _ :: _ => List.Pairwise.filter _ List.pairwise_lt_range
theorem find_least {l : List Nat} {p : Nat → Bool} (h : l.Pairwise (· < ·)) {t : Nat} (e : l.find? p = some t) : t ∈ l ∧ p t = true ∧ ∀ u ∈ l, p u = true → t ≤ u := by
  induction l with
  | nil => simp at e
  | cons x r ih =>
    rw [List.find?_cons] at e
    obtain ⟨h1, h2⟩ := List.pairwise_cons.mp h
    cases c : p x with
    | true =>
      rw [c] at e; cases e
      exact ⟨List.mem_cons_self, c, fun u hu _ => (List.mem_cons.mp hu).elim (fun e => by omega) fun m => by have := h1 u m; omega⟩
    | false =>
      rw [c] at e
      obtain ⟨q1, q2, q3⟩ := ih h2 e
      exact ⟨List.mem_cons_of_mem _ q1, q2, fun u hu pu => (List.mem_cons.mp hu).elim (fun e => by rw [e, c] at pu; cases pu) fun m => q3 u m pu⟩
theorem greedy_ch {ls : List Int} : ∀ {row s}, s ∈ bk ls row → Ch ls row (s :: greedy ls row s) := by
  intro row
  induction row with
  | nil => intro s h; exact mem_stps.mp h
  | cons r row ih =>
    intro s h
    unfold greedy
    unfold bk at h
    obtain ⟨_, h2⟩ := List.mem_filter.mp h
    cases e : (bk ls row).find? fun t => rel ls s t r with
    | none =>
      obtain ⟨t, m, q⟩ := List.any_eq_true.mp h2
      have := List.find?_eq_none.mp e t m
      exact absurd q this
    | some t =>
      obtain ⟨q1, q2, _⟩ := find_least (bk_sorted row) e
      exact ⟨q2, ih q1⟩
/-- not above, place by place -/
def Below (c d : List Nat) : Prop := c.length = d.length ∧ ∀ (k s t : Nat), c[k]? = some s → d[k]? = some t → s ≤ t
theorem below_cons {s t c d} (h : s ≤ t) (k : Below c d) : Below (s :: c) (t :: d) := ⟨by rw [List.length_cons, List.length_cons, k.1], fun i a b e1 e2 => by
  cases i with
  | zero => simp at e1 e2; subst e1 e2; exact h
  | succ i => exact k.2 i a b (by simpa using e1) (by simpa using e2)⟩
theorem greedy_below {ls : List Int} (hb : ∀ l ∈ ls, 1 ≤ l) : ∀ {row s t c}, s ∈ bk ls row → s ≤ t → Ch ls row (t :: c) → Below (s :: greedy ls row s) (t :: c) := by
  intro row
  induction row with
  | nil =>
    intro s t c h le k
    cases c with
    | nil => exact below_cons le ⟨rfl, fun k s t e => by unfold greedy at e; simp at e⟩
    | cons => exact k.elim
  | cons r row ih =>
    intro s t c h le k
    cases c with
    | nil => exact k.elim
    | cons u c =>
      unfold bk at h
      obtain ⟨_, h2⟩ := List.mem_filter.mp h
      unfold greedy
      cases e : (bk ls row).find? fun t => rel ls s t r with
      | none =>
        obtain ⟨t, m, q⟩ := List.any_eq_true.mp h2
        exact absurd q (List.find?_eq_none.mp e t m)
      | some v =>
        obtain ⟨q1, q2, q3⟩ := find_least (bk_sorted row) e
        refine below_cons le (ih q1 ?_ k.2)
        have hu : u ∈ bk ls row := mem_bk.mpr ⟨c, k.2⟩
        obtain ⟨a1, a2⟩ := rel_iff.mp k.1
        obtain ⟨b1, b2⟩ := rel_iff.mp q2
        apply Classical.byContradiction
        intro n
        have n : u < v := by omega
        refine absurd (q3 u hu (rel_iff.mpr ⟨by omega, ?_⟩)) (by omega)
        have m1 := gp_mono hb le (by omega : t ≤ u) (Nat.le_refl u)
        have m2 := gp_mono hb (Nat.le_refl s) (by omega : s ≤ u) (by omega : u ≤ v)
        omega
theorem least_ne {ls row : List Int} : least ls row ≠ [] ↔ ∃ c, Ch ls row c := by
  unfold least
  cases e : bk ls row with
  | nil =>
    refine ⟨fun h => absurd rfl h, fun ⟨c, h⟩ => ?_⟩
    obtain ⟨s, r, rfl⟩ := h.ne
    have := mem_bk.mpr ⟨r, h⟩
    rw [e] at this; cases this
  | cons s r => exact ⟨fun _ => ⟨_, greedy_ch (by rw [e]; exact List.mem_cons_self)⟩, fun _ h => by cases h⟩
theorem least_ch {ls row : List Int} (h : least ls row ≠ []) : Ch ls row (least ls row) := by
  unfold least at h ⊢
  cases e : bk ls row with
  | nil => rw [e] at h; exact absurd rfl h
  | cons s r => exact greedy_ch (by rw [e]; exact List.mem_cons_self)
theorem least_below {ls row : List Int} (hb : ∀ l ∈ ls, 1 ≤ l) {c : List Nat} (h : Ch ls row c) : Below (least ls row) c := by
  obtain ⟨t, r, rfl⟩ := h.ne
  have m := mem_bk.mpr ⟨r, h⟩
  unfold least
  cases e : bk ls row with
  | nil => rw [e] at m; cases m
  | cons s r' =>
    refine greedy_below hb (by rw [e]; exact List.mem_cons_self) ?_ h
    rw [e] at m
    have := bk_sorted (ls := ls) row
    rw [e] at this
    rcases List.mem_cons.mp m with m | m
    · omega
    · have := (List.pairwise_cons.mp this).1 t m; omega
theorem Ch.len {ls row c} (h : Ch ls row c) : c.length = row.length + 1 := (ch_iff.mp h).1
theorem Ch.le {ls row c} (h : Ch ls row c) : ∀ s ∈ c, s ≤ ls.length := (ch_iff.mp h).2.1
theorem Ch.rel {ls row c k s t r} (h : Ch ls row c) (e1 : c[k]? = some s) (e2 : c[k + 1]? = some t) (e3 : row[k]? = some r) : LR.rel ls s t r = true := (ch_iff.mp h).2.2 k s t r e1 e2 e3
theorem Ch.at {ls row c} (h : Ch ls row c) {k : Nat} (hk : k ≤ row.length) : ∃ s, c[k]? = some s ∧ s ≤ ls.length := by
  have hl := h.len
  exact ⟨_, List.getElem?_eq_getElem (by omega), h.le _ (List.getElem_mem _)⟩
theorem Ch.levels {ls row c} (hb : ∀ l ∈ ls, 1 ≤ l) (h : Ch ls row c) {H : Int} (h0 : 0 ≤ H) (hh : ∀ l ∈ ls, l ≤ H) : ∀ l ∈ row, 1 ≤ l ∧ l ≤ H := fun l hl => by
  obtain ⟨k, e⟩ := List.mem_iff_getElem?.mp hl
  have hk := (List.getElem?_eq_some_iff.mp e).1
  have hc := h.len
  have e1 := List.getElem?_eq_getElem (l := c) (i := k) (by omega)
  have e2 := List.getElem?_eq_getElem (l := c) (i := k + 1) (by omega)
  obtain ⟨a1, a2⟩ := rel_iff.mp (h.rel e1 e2 e)
  have := h.le _ (List.mem_of_getElem? e2)
  have := gp_pos hb a1 this
  have := gp_le hb h0 hh (Nat.le_of_lt a1)
  omega
theorem Ch.mono {ls row c} (h : Ch ls row c) {i j s t : Nat} (e1 : c[i]? = some s) (e2 : c[j]? = some t) (hij : i < j) : s + (j - i) ≤ t := by
  induction hij generalizing t with
  | refl =>
    have hl := h.len
    have hj2 : i + 1 < c.length := (List.getElem?_eq_some_iff.mp e2).1
    have := rel_iff.mp (h.rel e1 e2 (List.getElem?_eq_getElem (by omega)))
    omega
  | @step j hj ih =>
    have hl := h.len
    have hj2 : j + 1 < c.length := (List.getElem?_eq_some_iff.mp e2).1
    have e3 := List.getElem?_eq_getElem (l := c) (i := j) (by omega)
    have := ih e3
    have := rel_iff.mp (h.rel e3 e2 (List.getElem?_eq_getElem (by omega)))
    have : i ≤ j := Nat.le_of_lt hj
    omega
/-- a choice in itself takes all steps -/
theorem Ch.full {ls row c} (h : Ch ls row c) (e : row.length = ls.length) : c = List.range (ls.length + 1) := by
  have hl := h.len
  refine List.ext_getElem (by rw [hl, List.length_range, e]) fun i h1 h2 => ?_
  rw [List.getElem_range]
  have e1 := List.getElem?_eq_getElem h1
  have lo : ∀ (k : Nat) (hk : k < c.length), k ≤ c[k] := fun k hk => by
    by_cases z : k = 0
    · omega
    · have := h.mono (List.getElem?_eq_getElem (l := c) (i := 0) (by omega)) (List.getElem?_eq_getElem hk) (by omega); omega
  have up : c[i] + (row.length - i) ≤ ls.length := by
    have e3 := List.getElem?_eq_getElem (l := c) (i := row.length) (by omega)
    have q := h.le _ (List.mem_of_getElem? e3)
    by_cases z : i = row.length
    · subst z; simpa using q
    · have := h.mono e1 e3 (by omega); omega
  have := lo i h1
  omega
/-! ## turned round -/
theorem Ch.rev {ls row c} (hb : ∀ l ∈ ls, 1 ≤ l) (h : Ch ls row c) : Ch ls.reverse row.reverse (c.map (fun s => ls.length - s)).reverse := by
  have hl := h.len
  refine ch_iff.mpr ⟨by simp [hl], fun s hs => ?_, fun k s t r e1 e2 e3 => ?_⟩
  · rw [List.length_reverse]
    rw [List.mem_reverse] at hs
    obtain ⟨x, hx, rfl⟩ := List.mem_map.mp hs
    omega
  · have hk : k < row.length := by have := (List.getElem?_eq_some_iff.mp e3).1; rwa [List.length_reverse] at this
    rw [List.getElem?_reverse (by rw [List.length_map]; omega), List.length_map, List.getElem?_map] at e1 e2
    rw [List.getElem?_reverse hk] at e3
    have g1 := List.getElem?_eq_getElem (l := c) (i := c.length - 1 - k) (by omega)
    have g2 := List.getElem?_eq_getElem (l := c) (i := c.length - 1 - (k + 1)) (by omega)
    rw [g1] at e1; rw [g2] at e2
    cases e1; cases e2
    have g1' : c[row.length - 1 - k + 1]? = some c[c.length - 1 - k] := by rw [← g1]; congr 1; omega
    have g2' : c[row.length - 1 - k]? = some c[c.length - 1 - (k + 1)] := by rw [← g2]; congr 1; omega
    obtain ⟨a1, a2⟩ := rel_iff.mp (h.rel g2' g1' e3)
    have b1 := h.le _ (List.mem_of_getElem? g1)
    refine rel_iff.mpr ⟨(show ls.length - c[c.length - 1 - k] < ls.length - c[c.length - 1 - (k + 1)] from by omega), ?_⟩
    show gp ls.reverse (ls.length - c[c.length - 1 - k]) (ls.length - c[c.length - 1 - (k + 1)]) = r
    rw [gp_rev hb (Nat.le_of_lt a1) b1]; exact a2
/-! ## a longer ladder -/
end LR
set_option Elab.async false
set_option maxRecDepth 100000
set_option linter.all false
set_option maxHeartbeats 4000000
namespace LR
open PySem PySem.Spec PyProof.Rows L2
/-! # rows that a ladder holds: as data -/
theorem atI_end {α : Type} {xs : List α} {x : α} : atI (xs ++ [x]) (-1) = some x := by
  unfold atI ixN
  rw [if_neg (by omega), if_pos (by rw [List.length_append]; simp; omega)]
  have e : (-1 + ((xs ++ [x]).length : Int)).toNat = xs.length := by rw [List.length_append, List.length_singleton]; omega
  show (xs ++ [x])[(-1 + ((xs ++ [x]).length : Int)).toNat]? = _
  rw [e]; simp
/-- gaps of neighbours -/
def gapsOf (ls : List Int) (c : List Nat) : List Int := (List.range (c.length - 1)).map fun k => gp ls (c.getD k 0) (c.getD (k + 1) 0)
theorem gapsOf_ch {ls : List Int} {c : List Nat} (h0 : c ≠ []) (h1 : c.Pairwise (· < ·)) (h2 : ∀ s ∈ c, s ≤ ls.length) : Ch ls (gapsOf ls c) c := by
  have hl : 0 < c.length := List.length_pos_iff.mpr h0
  refine ch_iff.mpr ⟨by unfold gapsOf; rw [List.length_map, List.length_range]; omega, h2, fun k s t r e1 e2 e3 => ?_⟩
  unfold gapsOf at e3
  have hk := (List.getElem?_eq_some_iff.mp e2).1
  rw [List.getElem?_map, List.getElem?_range (by omega)] at e3
  cases e3
  show rel ls s t (gp ls (c.getD k 0) (c.getD (k + 1) 0)) = true
  rw [List.getD_eq_getElem?_getD, List.getD_eq_getElem?_getD, e1, e2]
  obtain ⟨a1, a2⟩ := List.getElem?_eq_some_iff.mp e1
  obtain ⟨b1, b2⟩ := List.getElem?_eq_some_iff.mp e2
  have := List.pairwise_iff_getElem.mp h1 k (k + 1) a1 b1 (by omega)
  rw [a2, b2] at this
  exact rel_iff.mpr ⟨this, rfl⟩
/-! ## forwards -/
def nx (ls : List Int) (m : List Nat) (r : Int) : List Nat := (stps ls).filter fun t => m.any fun s => rel ls s t r
def fw (ls : List Int) (row : List Int) : List Nat := row.foldl (nx ls) (stps ls)
theorem fw_snoc {ls row : List Int} {r : Int} : fw ls (row ++ [r]) = nx ls (fw ls row) r := by unfold fw; rw [List.foldl_append]; rfl
theorem fw_sorted {ls : List Int} (row : List Int) : (fw ls row).Pairwise (· < ·) := by
  rcases List.eq_nil_or_concat row with rfl | ⟨a, b, rfl⟩
  · exact List.pairwise_lt_range
  · rw [List.concat_eq_append, fw_snoc]; exact List.Pairwise.filter _ List.pairwise_lt_range
theorem ch_snoc {ls : List Int} {r : Int} {s t : Nat} : ∀ {row : List Int} {c : List Nat}, Ch ls (row ++ [r]) (c ++ [s, t]) ↔ Ch ls row (c ++ [s]) ∧ rel ls s t r = true ∧ t ≤ ls.length := by
  intro row
  induction row with
  | nil =>
    intro c
    cases c with
    | nil =>
      constructor
      · rintro ⟨h1, h2⟩
        have := (rel_iff.mp h1).1
        have h2 : t ≤ ls.length := h2
        exact ⟨(show s ≤ ls.length by omega), h1, h2⟩
      · rintro ⟨h1, h2, h3⟩; exact ⟨h2, h3⟩
    | cons x c =>
      constructor
      · intro h; have := h.len; simp at this
      · rintro ⟨h, _⟩; have := h.len; simp at this
  | cons r0 row ih =>
    intro c
    match c with
    | [] =>
      constructor
      · intro h; have := h.len; simp at this
      · rintro ⟨h, _⟩; have := h.len; simp at this
    | [x] =>
      constructor
      · rintro ⟨h1, h2⟩
        obtain ⟨q1, q2, q3⟩ := (ih (c := [])).mp h2
        exact ⟨⟨h1, q1⟩, q2, q3⟩
      · rintro ⟨⟨h1, h2⟩, h3⟩
        exact ⟨h1, (ih (c := [])).mpr ⟨h2, h3⟩⟩
    | x :: y :: c =>
      constructor
      · rintro ⟨h1, h2⟩
        obtain ⟨q1, q2, q3⟩ := (ih (c := y :: c)).mp h2
        exact ⟨⟨h1, q1⟩, q2, q3⟩
      · rintro ⟨⟨h1, h2⟩, h3⟩
        exact ⟨h1, (ih (c := y :: c)).mpr ⟨h2, h3⟩⟩
theorem mem_nx {ls m r t} : t ∈ nx ls m r ↔ t ≤ ls.length ∧ ∃ s ∈ m, rel ls s t r = true := by
  unfold nx; rw [List.mem_filter, mem_stps, List.any_eq_true]
theorem rev_ind {α : Type} {p : List α → Prop} (h0 : p []) (h1 : ∀ l x, p l → p (l ++ [x])) (l : List α) : p l := by
  have : ∀ m : List α, p m.reverse := fun m => by
    induction m with
    | nil => exact h0
    | cons x m ih => rw [List.reverse_cons]; exact h1 _ _ ih
  have := this l.reverse
  rwa [List.reverse_reverse] at this
theorem mem_fw {ls : List Int} : ∀ {row t}, t ∈ fw ls row ↔ ∃ c, Ch ls row (c ++ [t]) := by
  intro row
  induction row using rev_ind with
  | h0 =>
    intro t
    show t ∈ stps ls ↔ _
    rw [mem_stps]
    constructor
    · intro h; exact ⟨[], h⟩
    · rintro ⟨c, h⟩
      cases c with
      | nil => exact h
      | cons x c => have := h.len; simp at this
  | h1 row r ih =>
    intro t
    rw [fw_snoc, mem_nx]
    constructor
    · rintro ⟨h1, s, hs, hr⟩
      obtain ⟨c, hc⟩ := ih.mp hs
      exact ⟨c ++ [s], by rw [List.append_assoc]; exact ch_snoc.mpr ⟨hc, hr, h1⟩⟩
    · rintro ⟨c, h⟩
      rcases List.eq_nil_or_concat c with rfl | ⟨a, s, rfl⟩
      · have := h.len; simp at this
      · rw [List.concat_eq_append, List.append_assoc] at h
        obtain ⟨q1, q2, q3⟩ := ch_snoc.mp h
        exact ⟨q3, s, ih.mpr ⟨a, q1⟩, q2⟩
theorem fw_ne {ls row : List Int} : fw ls row ≠ [] ↔ least ls row ≠ [] := by
  rw [least_ne]
  constructor
  · intro h
    obtain ⟨t, ht⟩ := List.exists_mem_of_ne_nil _ h
    obtain ⟨c, hc⟩ := mem_fw.mp ht
    exact ⟨_, hc⟩
  · rintro ⟨c, h⟩ e
    rcases List.eq_nil_or_concat c with rfl | ⟨a, t, rfl⟩
    · obtain ⟨_, _, q⟩ := h.ne; cases q
    · have := mem_fw.mpr ⟨a, by rw [List.concat_eq_append] at h; exact h⟩
      rw [e] at this; cases this
/-! ## the law's own least choice: the least of what lies on a choice, place by place -/
theorem ch_app {ls r2 : List Int} {s : Nat} {b : List Nat} : ∀ {r1 : List Int} {a : List Nat}, a.length = r1.length → (Ch ls (r1 ++ r2) (a ++ s :: b) ↔ Ch ls r1 (a ++ [s]) ∧ Ch ls r2 (s :: b)) := by
  intro r1
  induction r1 with
  | nil =>
    intro a h
    cases a with
    | nil => exact ⟨fun q => ⟨q.le s List.mem_cons_self, q⟩, fun q => q.2⟩
    | cons => cases h
  | cons r0 r1 ih =>
    intro a h
    match a, h with
    | [x], h =>
      have e : r1 = [] := List.length_eq_zero_iff.mp (by simpa using h.symm)
      subst e
      exact ⟨fun q => ⟨⟨q.1, (show Ch ls r2 (s :: b) from q.2).le s List.mem_cons_self⟩, q.2⟩, fun q => ⟨q.1.1, q.2⟩⟩
    | x :: y :: a, h =>
      have := ih (a := y :: a) (by simpa using h)
      exact ⟨fun q => ⟨⟨q.1, (this.mp q.2).1⟩, (this.mp q.2).2⟩, fun q => ⟨q.1.1, this.mpr ⟨q.1.2, q.2⟩⟩⟩
/-- steps at the place k of a choice of the whole row -/
def rst (ls row : List Int) (k : Nat) : List Nat := (fw ls (row.take k)).filter fun s => decide (s ∈ bk ls (row.drop k))
theorem bk_le {ls row : List Int} {s : Nat} (h : s ∈ bk ls row) : s ≤ ls.length := by
  obtain ⟨c, h⟩ := mem_bk.mp h
  exact h.le s List.mem_cons_self
theorem rst_last {ls row : List Int} : rst ls row row.length = fw ls row := by
  unfold rst
  rw [List.take_length, List.drop_length]
  refine List.filter_eq_self.mpr fun s hs => decide_eq_true ?_
  obtain ⟨c, h⟩ := mem_fw.mp hs
  exact mem_stps.mpr (h.le s (by simp))
theorem mem_rst {ls row : List Int} {k s : Nat} (hk : k ≤ row.length) : s ∈ rst ls row k ↔ ∃ c, Ch ls row c ∧ c[k]? = some s := by
  unfold rst
  rw [List.mem_filter, decide_eq_true_eq, mem_fw, mem_bk]
  have hl : (row.take k).length = k := by rw [List.length_take]; omega
  constructor
  · rintro ⟨⟨a, ha⟩, b, hb⟩
    have la : a.length = k := by have := ha.len; simp at this; omega
    refine ⟨a ++ s :: b, ?_, by rw [List.getElem?_append_right (by omega), la]; simp⟩
    have := (ch_app (r2 := row.drop k) (b := b) (a := a) (r1 := row.take k) (s := s) (by omega)).mpr ⟨ha, hb⟩
    rwa [List.take_append_drop] at this
  · rintro ⟨c, hc, e⟩
    have lt := (List.getElem?_eq_some_iff.mp e).1
    have es : c = c.take k ++ s :: c.drop (k + 1) := by
      have : c.drop k = s :: c.drop (k + 1) := by
        rw [List.drop_eq_getElem_cons lt]
        congr 1
        exact (List.getElem?_eq_some_iff.mp e).2
      rw [← this, List.take_append_drop]
    rw [es, ← List.take_append_drop k row] at hc
    have := (ch_app (by rw [List.length_take, List.length_take]; have := hc.len; omega)).mp hc
    exact ⟨⟨_, this.1⟩, _, this.2⟩
theorem rst_head {ls row : List Int} (hb : ∀ l ∈ ls, 1 ≤ l) {k : Nat} (hk : k ≤ row.length) (h : least ls row ≠ []) : ∃ m, rst ls row k = (least ls row).getD k 0 :: m := by
  have hc := least_ch h
  obtain ⟨s, es, _⟩ := hc.at hk
  have ms := (mem_rst hk).mpr ⟨_, hc, es⟩
  have so : (rst ls row k).Pairwise (· < ·) := List.Pairwise.filter _ (fw_sorted _)
  rw [List.getD_eq_getElem?_getD, es]
  cases e : rst ls row k with
  | nil => rw [e] at ms; cases ms
  | cons x m =>
    rw [e] at ms so
    have mx : x ∈ rst ls row k := by rw [e]; exact List.mem_cons_self
    obtain ⟨c, hc2, e2⟩ := (mem_rst hk).mp mx
    have le1 := (least_below hb hc2).2 k s x es e2
    refine ⟨m, ?_⟩
    rcases List.mem_cons.mp ms with q | q
    · rw [q]; rfl
    · have := (List.pairwise_cons.mp so).1 s q; omega
theorem greedy_next {ls : List Int} : ∀ {row : List Int} {s : Nat}, s ∈ bk ls row → ∀ (i a : Nat) (r : Int), (s :: greedy ls row s)[i]? = some a → row[i]? = some r → ∃ t, (s :: greedy ls row s)[i + 1]? = some t ∧ (bk ls (row.drop (i + 1))).find? (fun t => rel ls a t r) = some t := by
  intro row
  induction row with
  | nil => intro s h i a r e1 e2; simp at e2
  | cons r0 row ih =>
    intro s h i a r e1 e2
    have hc := greedy_ch h
    have h2 : (bk ls row).any (fun t => rel ls s t r0) = true := (List.mem_filter.mp (show s ∈ (stps ls).filter fun s => (bk ls row).any fun t => rel ls s t r0 from h)).2
    cases e : (bk ls row).find? fun t => rel ls s t r0 with
    | none =>
      obtain ⟨t, m, q⟩ := List.any_eq_true.mp h2
      exact absurd q (List.find?_eq_none.mp e t m)
    | some t =>
      have eg : greedy ls (r0 :: row) s = t :: greedy ls row t := by
        show (match (bk ls row).find? fun t => rel ls s t r0 with | some t => t :: greedy ls row t | none => []) = _
        rw [e]
      rw [eg] at e1 ⊢
      obtain ⟨q1, _, _⟩ := find_least (bk_sorted row) e
      cases i with
      | zero =>
        simp at e1 e2
        subst e1 e2
        exact ⟨t, rfl, e⟩
      | succ i =>
        have := ih q1 i a r (by simpa using e1) (by simpa using e2)
        simpa using this
theorem least_next {ls row : List Int} (h : least ls row ≠ []) {i a : Nat} {r : Int} (e1 : (least ls row)[i]? = some a) (e2 : row[i]? = some r) : ∃ t, (least ls row)[i + 1]? = some t ∧ (bk ls (row.drop (i + 1))).find? (fun t => rel ls a t r) = some t := by
  unfold least at h e1 ⊢
  cases e : bk ls row with
  | nil => rw [e] at h; exact absurd rfl h
  | cons s m =>
    rw [e] at e1
    exact greedy_next (by rw [e]; exact List.mem_cons_self) i a r e1 e2
theorem least_head {ls row : List Int} : (least ls row)[0]? = (bk ls row)[0]? := by
  unfold least
  cases bk ls row <;> rfl
theorem least_nil {ls row : List Int} : least ls row = [] ↔ bk ls row = [] := by
  unfold least
  cases bk ls row <;> simp
end LR
set_option Elab.async false
set_option maxRecDepth 100000
set_option linter.all false
set_option maxHeartbeats 4000000
namespace LR
open PySem PySem.Spec PyProof.Rows L2
/-! # the game of a row: what fits it -/
def allB (n : Nat) : List Bool := List.replicate n false
def offP (n : Nat) : Plc := List.replicate n none
def onP (c : List Nat) : Plc := c.map some
def rowPl (ls row : List Int) : Plc := if least ls row = [] then offP (row.length + 1) else onP (least ls row)
theorem allB_len {n : Nat} : (allB n).length = n := List.length_replicate
theorem allB_at {n v : Nat} : (allB n).getD v false = false := by
  unfold allB
  rw [List.getD_eq_getElem?_getD]
  by_cases h : v < n
  · rw [List.getElem?_replicate_of_lt h]; rfl
  · rw [List.getElem?_eq_none (by rw [List.length_replicate]; omega)]; rfl
theorem offP_at {n v : Nat} : (offP n).getD v none = none := by
  unfold offP
  rw [List.getD_eq_getElem?_getD]
  by_cases h : v < n
  · rw [List.getElem?_replicate_of_lt h]; rfl
  · rw [List.getElem?_eq_none (by rw [List.length_replicate]; omega)]; rfl
theorem onP_at {c : List Nat} {v : Nat} : (onP c).getD v none = c[v]? := by
  unfold onP
  rw [List.getD_eq_getElem?_getD, List.getElem?_map]
  cases c[v]? <;> rfl
theorem rel_alw {ls : List Int} (hb : ∀ l ∈ ls, 1 ≤ l) {s t : Nat} {r : Int} (hr : 1 ≤ r) : rel ls s t r = true ↔ alw ls s (2 * r) t = true ∧ alw ls t (2 * r - 1) s = true := by
  rw [rel_iff]
  by_cases c : s < t
  · have g := gp_is hb (Nat.le_of_lt c)
    have g1 : IsGap ls (min (s : Int).toNat (t : Int).toNat) (max (s : Int).toNat (t : Int).toNat) (gp ls s t) := by
      rw [Int.toNat_natCast, Int.toNat_natCast, Nat.min_eq_left (by omega), Nat.max_eq_right (by omega)]; exact g
    have g2 : IsGap ls (min (t : Int).toNat (s : Int).toNat) (max (t : Int).toNat (s : Int).toNat) (gp ls s t) := by
      rw [Int.toNat_natCast, Int.toNat_natCast, Nat.min_eq_right (by omega), Nat.max_eq_left (by omega)]; exact g
    rw [alw_gap (by omega) (by omega) (by omega) g1, alw_gap (by omega) (by omega) (by omega) g2, if_pos (by omega), if_neg (by omega)]
    rw [Bool.or_eq_true, Bool.and_eq_true, decide_eq_true_eq, decide_eq_true_eq, decide_eq_true_eq, decide_eq_true_eq]
    omega
  · constructor
    · intro h; exact absurd h.1 c
    · intro h
      have h2 := h.2
      rw [alw_lv (by omega) (by omega), if_neg (by omega)] at h2
      omega
theorem es_out {a b c : Int} : es0 [a, b, c] = a ∧ es1 [a, b, c] = b ∧ es2 [a, b, c] = c := ⟨rfl, rfl, rfl⟩
theorem alw_self {ls : List Int} {s : Int} : alw ls s 0 s = true := by
  unfold alw
  rw [if_pos (by decide), decide_eq_true_eq]
  exact Int.le_refl _
section
variable {ls row : List Int} {φ : Plc}
theorem fitB_all {n v s : Nat} {es : List (List Int)} (e : φ.getD v none = some s) : fitsB ls (allB n) es φ v = true ↔ ∀ e ∈ es, es0 e = (v : Int) → okAt ls φ s e = true := by
  rw [fits_at e]
  unfold goodAt
  rw [allB_at, if_neg (by decide), List.all_eq_true]
  exact ⟨fun h x m k => h x (mem_outs.mpr ⟨m, k⟩), fun h x m => h x (mem_outs.mp m).1 (mem_outs.mp m).2⟩
theorem okAt_iff {s : Nat} {a b : Int} {c : Nat} : okAt ls φ s [a, b, (c : Int)] = true ↔ ∃ t, φ.getD c none = some t ∧ alw ls s b t = true := by
  unfold okAt pat
  rw [(es_out (a := a) (b := b) (c := (c : Int))).2.2, (es_out (a := a) (b := b) (c := (c : Int))).2.1, Int.toNat_natCast]
  cases φ.getD c none with
  | none => exact ⟨fun h => (by cases h), fun ⟨t, h, _⟩ => (by cases h)⟩
  | some t => exact ⟨fun h => ⟨t, rfl, h⟩, fun ⟨t', h, k⟩ => by cases h; exact k⟩
theorem getD_some {v s : Nat} (h : φ.getD v none = some s) : φ[v]? = some (some s) := by
  rw [List.getD_eq_getElem?_getD] at h
  cases e : φ[v]? with
  | none => rw [e] at h; cases h
  | some o => rw [e] at h; have h : o = some s := h; rw [h]
theorem row_fit (hb : ∀ l ∈ ls, 1 ≤ l) (hr : ∀ l ∈ row, 1 ≤ l) (P : PlcOk (row.length + 1) ls.length φ) :
    (∀ v, v < row.length + 1 → fitsB ls (allB (row.length + 1)) (rowE row) φ v = true) ↔ φ = offP (row.length + 1) ∨ ∃ c, Ch ls row c ∧ φ = onP c := by
  constructor
  · intro F
    by_cases z : row.length = 0
    · have r0 : row = [] := List.length_eq_zero_iff.mp z
      subst r0
      have P1 : φ.length = 1 := P.len
      match φ, P1 with
      | [none], _ => exact .inl rfl
      | [some s], _ => exact .inr ⟨[s], P.le s List.mem_cons_self, rfl⟩
    have er : rowE row = rowP row row.length := by unfold rowE; rw [if_neg z]
    have up : ∀ k s, k < row.length → φ.getD k none = some s → ∃ t, φ.getD (k + 1) none = some t ∧ alw ls s (2 * row.getD k 0) t = true := fun k s hk e => by
      have := (fitB_all e).mp (F k (by omega)) [(k : Int), 2 * row.getD k 0, ((k + 1 : Nat) : Int)] (by rw [er]; exact mem_rowP.mpr ⟨k, hk, .inl (by rw [Int.natCast_add]; rfl)⟩) rfl
      exact okAt_iff.mp this
    have down : ∀ k t, k < row.length → φ.getD (k + 1) none = some t → ∃ s, φ.getD k none = some s ∧ alw ls t (2 * row.getD k 0 - 1) s = true := fun k t hk e => by
      have := (fitB_all e).mp (F (k + 1) (by omega)) [((k + 1 : Nat) : Int), 2 * row.getD k 0 - 1, (k : Int)] (by rw [er]; exact mem_rowP.mpr ⟨k, hk, .inr (by rw [Int.natCast_add]; rfl)⟩) rfl
      exact okAt_iff.mp this
    cases e0 : φ.getD 0 none with
    | none =>
      left
      have : ∀ k, k ≤ row.length → φ.getD k none = none := fun k => by
        induction k with
        | zero => exact fun _ => e0
        | succ k ih =>
          intro hk
          cases e : φ.getD (k + 1) none with
          | none => rfl
          | some t =>
            obtain ⟨s, e2, _⟩ := down k t (by omega) e
            rw [ih (by omega)] at e2; cases e2
      refine List.ext_getElem? fun k => ?_
      by_cases hk : k < row.length + 1
      · have := this k (by omega)
        unfold offP
        rw [List.getElem?_replicate_of_lt hk]
        rw [List.getD_eq_getElem?_getD, List.getElem?_eq_getElem (by rw [P.len]; exact hk)] at this
        rw [List.getElem?_eq_getElem (by rw [P.len]; exact hk)]
        exact congrArg some this
      · rw [List.getElem?_eq_none (by rw [P.len]; omega), List.getElem?_eq_none (by unfold offP; rw [List.length_replicate]; omega)]
    | some s0 =>
      right
      have on : ∀ k, k ≤ row.length → ∃ s, φ.getD k none = some s := fun k => by
        induction k with
        | zero => exact fun _ => ⟨s0, e0⟩
        | succ k ih =>
          intro hk
          obtain ⟨s, e⟩ := ih (by omega)
          obtain ⟨t, e2, _⟩ := up k s (by omega) e
          exact ⟨t, e2⟩
      have ec : φ = onP (φ.map fun o => o.getD 0) := by
        refine List.ext_getElem? fun k => ?_
        unfold onP
        rw [List.map_map, List.getElem?_map]
        by_cases hk : k < row.length + 1
        · obtain ⟨s, e⟩ := on k (by omega)
          rw [getD_some e]; rfl
        · rw [List.getElem?_eq_none (by rw [P.len]; omega)]; rfl
      refine ⟨φ.map fun o => o.getD 0, ch_iff.mpr ⟨by rw [List.length_map, P.len], fun s m => ?_, fun k s t r e1 e2 e3 => ?_⟩, ec⟩
      · obtain ⟨o, mo, rfl⟩ := List.mem_map.mp m
        cases o with
        | none => exact Nat.zero_le _
        | some s => exact P.le s mo
      · have hk : k < row.length := (List.getElem?_eq_some_iff.mp e3).1
        have hk3 : row.getD k 0 = r := by rw [List.getD_eq_getElem?_getD, e3]; rfl
        obtain ⟨s', d1⟩ := on k (by omega)
        obtain ⟨t', d2, a1⟩ := up k s' hk d1
        obtain ⟨s2, d3, a2⟩ := down k t' hk d2
        rw [d1] at d3
        cases d3
        rw [List.getElem?_map, getD_some d1] at e1
        rw [List.getElem?_map, getD_some d2] at e2
        cases e1; cases e2
        rw [hk3] at a1 a2
        exact (rel_alw hb (hr r (List.mem_of_getElem? e3))).mpr ⟨a1, a2⟩
  · rintro (rfl | ⟨c, C, rfl⟩) v hv
    · unfold fitsB; rw [offP_at]
    · obtain ⟨s, e, _⟩ := C.at (k := v) (by omega)
      refine (fitB_all (by rw [onP_at]; exact e)).mpr fun x m k => ?_
      unfold rowE at m
      split at m
      · rw [List.mem_singleton.mp m] at k ⊢
        have v0 : v = 0 := by have k : (0 : Int) = v := k; omega
        subst v0
        exact okAt_iff.mpr ⟨s, by rw [onP_at]; exact e, alw_self⟩
      · obtain ⟨j, hj, q⟩ := mem_rowP.mp m
        obtain ⟨a, ea, _⟩ := C.at (k := j) (by omega)
        obtain ⟨b, eb, _⟩ := C.at (k := j + 1) (by omega)
        have er : row[j]? = some (row.getD j 0) := by rw [getD_get hj, List.getElem?_eq_getElem hj]
        have R := (rel_alw hb (hr _ (List.mem_of_getElem? er))).mp (C.rel ea eb er)
        rcases q with q | q
        · subst q
          have jv : j = v := by have k : (j : Int) = v := k; omega
          subst jv
          rw [ea] at e; cases e
          exact okAt_iff (c := j + 1).mpr ⟨b, by rw [onP_at]; exact eb, R.1⟩
        · subst q
          have jv : j + 1 = v := by have k : (j : Int) + 1 = v := k; omega
          subst jv
          rw [eb] at e; cases e
          exact okAt_iff.mpr ⟨a, by rw [onP_at]; exact ea, R.2⟩
theorem onP_le {c d : List Nat} (h : Below c d) : PLe (onP c) (onP d) := fun v => by
  rw [onP_at, onP_at]
  by_cases k : v < d.length
  · have k2 : v < c.length := by rw [h.1]; exact k
    rw [List.getElem?_eq_getElem k, List.getElem?_eq_getElem k2]
    exact h.2 v _ _ (List.getElem?_eq_getElem k2) (List.getElem?_eq_getElem k)
  · rw [List.getElem?_eq_none (l := d) (by omega)]
    cases c[v]? <;> exact trivial
theorem le_off {n : Nat} : PLe φ (offP n) := fun v => by
  rw [offP_at]
  cases φ.getD v none <;> exact trivial
theorem onP_ok {c : List Nat} (C : Ch ls row c) : PlcOk (row.length + 1) ls.length (onP c) := ⟨by unfold onP; rw [List.length_map, C.len], fun s m => by
  obtain ⟨t, mt, e⟩ := List.mem_map.mp m
  cases e
  exact C.le _ mt⟩
theorem offP_ok {n m : Nat} : PlcOk n m (offP n) := ⟨List.length_replicate, fun s h => by
  have := (List.mem_replicate.mp h).2
  cases this⟩
theorem rowPl_ok : PlcOk (row.length + 1) ls.length (rowPl ls row) := by
  unfold rowPl
  split
  · exact offP_ok
  · rename_i h
    exact onP_ok (least_ch h)
/-- THE LEAST placement that fits the row's game: the least steps, or all off -/
theorem row_least (hb : ∀ l ∈ ls, 1 ≤ l) (hr : ∀ l ∈ row, 1 ≤ l) : LeastFit ls (allB (row.length + 1)) (rowE row) (rowPl ls row) := by
  refine ⟨by rw [allB_len]; exact rowPl_ok, fun v hv => ?_, fun ψ ok f => ?_⟩
  · rw [allB_len] at hv
    refine (row_fit hb hr rowPl_ok).mpr ?_ v hv
    unfold rowPl
    split
    · exact .inl rfl
    · rename_i h
      exact .inr ⟨_, least_ch h, rfl⟩
  · rw [allB_len] at ok f
    rcases (row_fit hb hr ok).mp f with rfl | ⟨c, C, rfl⟩
    · exact le_off
    · unfold rowPl
      rw [if_neg (least_ne.mpr ⟨c, C⟩)]
      exact onP_le (least_below hb C)
/-- more nodes of A: no node rises -/
theorem fits_more {os os' : List Bool} {es : List (List Int)} {v : Nat} (h : ∀ v, os.getD v false = true → os'.getD v false = true) (o : ∃ e ∈ es, es0 e = (v : Int)) (f : fitsB ls os es φ v = true) : fitsB ls os' es φ v = true := by
  cases e : φ.getD v none with
  | none => unfold fitsB; rw [e]
  | some s =>
    rw [fits_at e] at f ⊢
    unfold goodAt at f ⊢
    by_cases c : os.getD v false = true
    · rw [if_pos c] at f; rw [if_pos (h v c)]; exact f
    · rw [if_neg c] at f
      by_cases c' : os'.getD v false = true
      · rw [if_pos c']
        obtain ⟨x, m, k⟩ := o
        exact List.any_eq_true.mpr ⟨x, mem_outs.mpr ⟨m, k⟩, List.all_eq_true.mp f x (mem_outs.mpr ⟨m, k⟩)⟩
      · rw [if_neg c']; exact f
theorem least_more {os os' : List Bool} {es : List (List Int)} {ψ : Plc} (l : os'.length = os.length) (h : ∀ v, os.getD v false = true → os'.getD v false = true) (o : ∀ v, v < os.length → ∃ e ∈ es, es0 e = (v : Int)) (a : LeastFit ls os es φ) (b : LeastFit ls os' es ψ) : PLe ψ φ :=
  b.le φ (by rw [l]; exact a.ok) fun v hv => fits_more h (o v (by omega)) (a.fit v (by omega))
theorem fw_max {l : List Nat} (pw : l.Pairwise (· < ·)) (h : l ≠ []) : ∀ x ∈ l, x ≤ l.getLast h := fun x m => by
  obtain ⟨i, hi, e⟩ := List.mem_iff_getElem.mp m
  rw [List.getLast_eq_getElem]
  by_cases c : i = l.length - 1
  · subst c; rw [e]; exact Nat.le_refl _
  · have := List.pairwise_iff_getElem.mp pw i (l.length - 1) hi (by omega) (by omega)
    rw [e] at this; omega
/-- the last of the last steps, and the first of the least steps of what is reversed -/
theorem fw_last {ls row : List Int} (hb : ∀ l ∈ ls, 1 ≤ l) (h : fw ls row ≠ []) : ∃ s, (least ls.reverse row.reverse)[0]? = some s ∧ s ≤ ls.length ∧ (fw ls row)[(fw ls row).length - 1]? = some (ls.length - s) := by
  have hbr : ∀ l ∈ ls.reverse, 1 ≤ l := fun l m => hb l (List.mem_reverse.mp m)
  obtain ⟨c, C⟩ := mem_fw.mp (List.getLast_mem h)
  have CR := C.rev hb
  rw [List.map_append, List.reverse_append] at CR
  have L := least_ch (least_ne.mpr ⟨_, CR⟩)
  have B := least_below hbr CR
  obtain ⟨s, r, e⟩ := L.ne
  have sl : s ≤ ls.length := by
    have := L.le s (by rw [e]; exact List.mem_cons_self)
    rwa [List.length_reverse] at this
  rw [e] at L B
  have s1 : s ≤ ls.length - (fw ls row).getLast h := B.2 0 _ _ rfl rfl
  have LR := L.rev hbr
  rw [List.reverse_reverse, List.reverse_reverse, List.length_reverse, List.map_cons, List.reverse_cons] at LR
  have s2 := fw_max (fw_sorted row) h _ (mem_fw.mpr ⟨_, LR⟩)
  have g1 : (fw ls row).getLast h ≤ ls.length := C.le _ (List.mem_append_right _ (List.mem_singleton.mpr rfl))
  refine ⟨s, by rw [e]; rfl, sl, ?_⟩
  have p : 0 < (fw ls row).length := List.length_pos_iff.mpr h
  rw [List.getElem?_eq_getElem (by omega), ← List.getLast_eq_getElem h]
  congr 1; omega
theorem fw_rev {ls row : List Int} (hb : ∀ l ∈ ls, 1 ≤ l) (h : fw ls row = []) : fw ls.reverse row.reverse = [] := by
  refine Classical.byContradiction fun c => ?_
  have hbr : ∀ l ∈ ls.reverse, 1 ≤ l := fun l m => hb l (List.mem_reverse.mp m)
  obtain ⟨d, C⟩ := least_ne.mp (fw_ne.mp c)
  have CR := C.rev hbr
  rw [List.reverse_reverse, List.reverse_reverse] at CR
  exact fw_ne.mpr (least_ne.mpr ⟨_, CR⟩) h
end
end LR
set_option Elab.async false
set_option maxRecDepth 100000
set_option linter.all false
set_option maxHeartbeats 4000000
set_option Elab.async false
set_option maxRecDepth 100000
set_option linter.all false
set_option maxHeartbeats 4000000
namespace LR
open PySem PySem.Spec PyProof.Rows L2
/-! # a generator under a for loop: its context, based anew at every wake -/
/-- the cells below n -/
def cutH (h : Heap) (n : Nat) : Heap := { h with objs := h.objs.extract 0 n }
theorem cutH_get {h : Heap} {n a : Nat} (l : a < n) : (cutH h n).get? a = h.get? a := by
  have e : (h.objs.extract 0 n)[a]? = h.objs[a]? := by
    rw [Array.getElem?_extract]
    by_cases c : a < h.objs.size
    · rw [if_pos (by omega), Nat.zero_add]
    · rw [if_neg (by omega), Array.getElem?_eq_none (by omega)]
  unfold cutH Heap.get?
  simp only [e]
theorem cutH_lt {h : Heap} {n a : Nat} {o : Obj} (e : (cutH h n).get? a = some o) : a < n := by
  have q := Heap.lt_size e
  have z : (cutH h n).objs.size = min n h.objs.size - 0 := by unfold cutH; rw [Array.size_extract]
  exact Nat.lt_of_lt_of_le q (by omega)
theorem cutH_old {h : Heap} {n a : Nat} {o : Obj} (e : (cutH h n).get? a = some o) : h.get? a = some o := by rw [← cutH_get (cutH_lt e)]; exact e
theorem cutH_le {h : Heap} {n : Nat} : (cutH h n).objs.size ≤ n := by
  have z : (cutH h n).objs.size = min n h.objs.size - 0 := by unfold cutH; rw [Array.size_extract]
  omega
theorem cutH_ge {h : Heap} {n m : Nat} (a : m ≤ n) (b : m ≤ h.objs.size) : m ≤ (cutH h n).objs.size := by
  have z : (cutH h n).objs.size = min n h.objs.size - 0 := by unfold cutH; rw [Array.size_extract]
  omega
theorem cutH_funs {h base : Heap} {n : Nat} : ∀ {l : List Env}, (∀ b ∈ frs l, b < n) → h.FunFrames base l → (cutH h n).FunFrames base l := by
  intro l
  induction l with
  | nil => intro _ _; trivial
  | cons env r ih =>
    intro hs hl
    obtain ⟨hk, ⟨L, o, hf, hn, ho, hd⟩, hr⟩ := hl
    have hL : L < n := hs L (by unfold frs; rw [List.filterMap_cons, hf]; exact List.mem_cons_self)
    exact ⟨hk, ⟨L, o, hf, hn, by rw [cutH_get hL]; exact ho, hd⟩, ih (fun b hb => hs b (by unfold frs; rw [List.filterMap_cons, hf]; exact List.mem_cons_of_mem _ hb)) hr⟩
/-- the context with another beginning -/
abbrev _root_.L2.Cx.wt (X : Cx) (a : Shared) (b : Hp) : Cx := { X with s_0 := a, H_0 := b }
abbrev _root_.L2.Cx.re (X : Cx) (n : Nat) (s₀ : Shared) (H₀ : Hp) : Cx := { X with s_0 := { s₀ with heap := cutH s₀.heap n }, H_0 := H₀ }
/-- what of the context stays: pp the cells that the one who wakes may change -/
structure GX (X : Cx) (n : Nat) (pp : List Addr) : Prop where
  nc : ∀ x, X.env.cells.lookup x = none
  ab : n ≤ X.env.locals
  fl : ∀ b ∈ X.fs, b < n
  bl : X.base.objs.size ≤ n
  ex : X.ex = []
  pb : ∀ b ∈ pp, X.base.get? b = none ∧ ∀ p ∈ X.pn, p.1 ≠ b
/-- who wakes has changed no more than the frames of its stack and pp -/
structure Wkn (base : Heap) (outer : List Env) (pp : List Addr) (s s' : Shared) : Prop where
  bare : AllBare s'.gens
  keep : ∀ b o, b ∉ pp → b ∉ frs outer → s.heap.get? b = some o → s'.heap.get? b = some o
  fr : s'.heap.FunFrames base outer
  at_ : ∀ b ∈ pp, ∃ o, s'.heap.get? b = some o ∧ ∀ v, o.data ≠ .cell v
  sz : base.objs.size ≤ s'.heap.objs.size
abbrev GJ := Nat → Hp → Shared → Prop
/-- the generator runs since r₀, k items are out -/
def GRun (X : Cx) (n : Nat) (pp : List Addr) (J : GJ) (k : Nat) (σ : L2.St) (H : Hp) (s : Shared) : Prop :=
  ∃ r₀ H₀ a, J k H₀ r₀ ∧ (∀ b ∈ pp, ∃ o, r₀.heap.get? b = some o) ∧ (a : Shared).os = (r₀ : Shared).os ∧ (∀ b o, b < n → r₀.heap.get? b = some o → a.heap.get? b = some o) ∧ Inv (X.wt a H₀) (pinsAt pp r₀.heap) σ H s
theorem GRun.pps {X : Cx} {n : Nat} {pp : List Addr} {J : GJ} {k : Nat} {s : Shared} {σ : L2.St} {H : Hp} (h : GRun X n pp J k σ H s) : ∀ b ∈ pp, H b = none ∧ b ≠ X.env.locals ∧ b ∉ X.fs := fun b hb => by
  obtain ⟨r₀, H₀, a, _, q, _, _, I⟩ := h
  obtain ⟨o, e⟩ := q b hb
  obtain ⟨_, h2, h3, h4, _⟩ := I.pin (b, o) (List.mem_append_right _ (mem_pinsAt hb e))
  exact ⟨h2, h3, h4⟩
/-- the context is based anew -/
theorem rebase {X : Cx} {n : Nat} {pp : List Addr} {pins : List (Addr × Obj)} {s s' : Shared} {σ : L2.St} {H : Hp} (g : GX X n pp) (I : Inv X pins σ H s) (hp : ∀ b ∈ pp, H b = none ∧ b ≠ X.env.locals ∧ b ∉ X.fs) (w : Wkn X.base X.outer pp s s') : Inv (X.re n s' H) (pinsAt pp s'.heap) σ H s' := by
  have ok := I.ok
  have npn : ∀ b u, H b = some u → b ∉ pp := fun b u q m => by rw [(hp b m).1] at q; cases q
  have nfn : ∀ b u, H b = some u → b ∉ X.fs := fun b u q m => by
    obtain ⟨_, o, ho, _⟩ := ok.funs.mem m
    have z := I.base.free b o ho (ok.frf b m) (by show b ∉ X.ex; rw [g.ex]; simp)
    rw [z] at q; cases q
  have fH : ∀ b ∈ X.fs, H b = none := fun b m => by
    cases q : H b with
    | none => rfl
    | some u => exact absurd m (nfn b u q)
  have Ln : X.env.locals ∉ pp := fun m => (hp _ m).2.1 rfl
  have Lf : X.env.locals ∉ X.fs := fun m => absurd (Nat.lt_of_lt_of_le (g.fl _ m) g.ab) (Nat.lt_irrefl _)
  have kL : ∀ o, s.heap.get? X.env.locals = some o → s'.heap.get? X.env.locals = some o := fun o e => w.keep _ o Ln Lf e
  have bs : ∀ b o, X.base.get? b = some o → s'.heap.get? b = some o ∧ H b = none := fun b o e => by
    obtain ⟨e1, e2⟩ := I.bs b o e
    exact ⟨w.keep b o (fun m => by have := (g.pb b m).1; rw [e] at this; cases this) (ok.nofr e) e1, e2⟩
  refine ⟨⟨ok.mod, ok.kind, ok.glob, ok.blt, Nat.le_trans cutH_le g.ab, ok.inj, ok.has, fun x c _ e => ?_, ok.hd, ok.frames, ok.stk, ok.exf, fun b o e => ⟨?_, (bs b o e).2⟩, cutH_ge g.bl w.sz, ok.noex, ok.exfs, cutH_funs g.fl w.fr, fH⟩, rfl, w.bare,
    ⟨fun b o e _ _ _ => cutH_old e, fun b o e _ _ _ => ⟨o.slots, cutH_old e⟩, fun b o e z _ => z, fun b o e _ => ⟨o, cutH_old e⟩, fun b xs e => e, fun b o u e => e, fun b ps e => ⟨#[], by rw [show H b = some (.tbl ps) from e]; simp⟩⟩, ?_, fun x c e => ?_, I.free, fun x c e => ?_, fun p q => ?_, ?_, I.len⟩
  · have e : X.env.cells.lookup x = some c := e
    rw [g.nc] at e; cases e
  · show (cutH s'.heap n).get? b = some o
    rw [cutH_get (Nat.lt_of_lt_of_le (Heap.lt_size e) g.bl)]
    exact (bs b o e).1
  · obtain ⟨m, ⟨o, es, ep, ho, r⟩, hl⟩ := I.loc
    refine ⟨m, ⟨o, es, ep, kL o ho, r⟩, fun i x v e1 e2 e3 => ?_⟩
    obtain ⟨u, r, l⟩ := hl i x v e1 e2 e3
    refine ⟨u, r, ?_⟩
    rcases l with l | ⟨_, c, e, _⟩
    · exact .inl l
    · have e : X.env.cells.lookup x = some c := e
      rw [g.nc] at e; cases e
  · have e : X.env.cells.lookup x = some c := e
    rw [g.nc] at e; cases e
  · have e : X.env.cells.lookup x = some c := e
    rw [g.nc] at e; cases e
  · rcases List.mem_append.mp q with q | q
    · obtain ⟨h1, h2, h3, h4, h5⟩ := I.pin p (List.mem_append_left _ q)
      exact ⟨w.keep p.1 p.2 (fun m => (g.pb p.1 m).2 p q rfl) h4 h1, h2, h3, h4, h5⟩
    · obtain ⟨hb, e⟩ := of_pinsAt q
      obtain ⟨h1, h2, h3⟩ := hp p.1 hb
      obtain ⟨o, e', d⟩ := w.at_ p.1 hb
      rw [e] at e'; cases e'
      exact ⟨e, h1, h2, h3, d⟩
  · intro b u q
    refine (I.hok b u q).stay (fun c v hc y => w.keep c v ?_ ?_ y) (fun _ y => y) fun _ _ y => y
    · rcases hc with y | y
      · rw [y]; exact npn b u q
      · exact npn c _ y
    · rcases hc with y | y
      · rw [y]; exact nfn b u q
      · exact nfn c _ y
theorem GRun.woke {X : Cx} {n : Nat} {pp : List Addr} {J : GJ} {k k' : Nat} {s s' : Shared} {σ : L2.St} {H : Hp} (g : GX X n pp) (h : GRun X n pp J k σ H s) (w : Wkn X.base X.outer pp s s') (j : J k' H s') : GRun X n pp J k' σ H s' := by
  have hp := h.pps
  obtain ⟨r₀, H₀, a, _, _, _, _, I⟩ := h
  exact ⟨s', H, { s' with heap := cutH s'.heap n }, j, fun b hb => let ⟨o, e, _⟩ := w.at_ b hb; ⟨o, e⟩, rfl, fun b o l e => by rw [cutH_get l]; exact e, rebase (X := X.wt a H₀) ⟨g.nc, g.ab, g.fl, g.bl, g.ex, g.pb⟩ I hp w⟩
end LR
set_option Elab.async false
set_option maxRecDepth 100000
set_option linter.all false
set_option maxHeartbeats 4000000
namespace LR
open PySem PySem.Spec PyProof.Rows L2 GenW
/-! # a generator under a for loop: its statements -/
/-- what is wanted behind a statement, k items being out -/
abbrev GD := Nat → L2.St → Hp → Prop
abbrev TGw := GD → GD
/-- the protocol serves the one who wakes -/
def GServes (X : Cx) (n : Nat) (pp : List Addr) (J : GJ) (lim : Nat) (o : Nat → V → Hp → Prop) (Y : Protocol) : Prop :=
  ∀ m k s₀ x v σ H s kap, m + 1 + k = lim → GRun X n pp J k σ H s → RelV x v → o k x H → (∀ s', J (k + 1) H s' → Wkn X.base X.outer pp s s' → kap (.send .none) s') → Y m s₀ v s kap
/-- where its code stands -/
structure GAt (X : Cx) (A : Around) (c : Code) (fs : List Frame) (gd : Bool → Bool) : Prop where
  over : A.over c fs = X.A
  split : splitAtGen fs = none
  guard : fs.any Frame.guarded = false
  gd : gd false = false
def GThen (X : Cx) (n : Nat) (pp : List Addr) (J : GJ) (lim : Nat) (A : Around) (R : GenEnd) (Y : Protocol) (c : Code) (t : Sem PySem.Fin) (fs : List Frame) (D : GD) : Prop :=
  ∀ m k s₀ s σ H, m + k = lim → GRun X n pp J k σ H s → D k σ H → Seg (model X.prog X.w) A R Y m s₀ c t fs s
def GWrun (X : Cx) (lim : Nat) (o : Nat → V → Hp → Prop) (f : Sem Flow) (t : TGw) : Prop :=
  ∀ n pp J A R Y c fs (K : Flow → Sem PySem.Fin) (Jx : Value → Sem PySem.Fin) gd (lv : List Value → List Value) D, GX X n pp → GServes X n pp J lim o Y → GAt X A c fs gd → GThen X n pp J lim A R Y c (K .next) fs D →
    GThen X n pp J lim A R Y c (f.wrap K Jx gd lv) fs (t D)
def GW (X : Cx) (lim : Nat) (o : Nat → V → Hp → Prop) (st : Stmt) (t : TGw) : Prop := GWrun X lim o (exec st X.env) t
def GWs (X : Cx) (lim : Nat) (o : Nat → V → Hp → Prop) (st : List Stmt) (t : TGw) : Prop := GWrun X lim o (execs st X.env) t
def gPlain (t : TS) : TGw := fun D k σ H => t { nx := fun σ' H' => D k σ' H', rt := fun _ _ => False } σ H
section
variable {X : Cx} {lim : Nat} {o : Nat → V → Hp → Prop} {st : Stmt} {rest : List Stmt} (nx : X.xe = fun _ _ => False)
include nx
theorem gw_of {t : TS} {f : Sem Flow} (h : ∀ a H₀ (pins : List (Addr × Obj)) (s : Shared) (σ : L2.St) (H : Hp) (D : Ends), Inv (X.wt a H₀) pins σ H s → t D σ H → wpAny (model X.prog X.w) X.A f (SP (X.wt a H₀) pins D) X.xe s) : GWrun X lim o f (gPlain t) := by
  intro n pp J A R Y c fs K Jx gd lv D gx sv ga th m k s₀ s σ H hm hr ht
  obtain ⟨r₀, H₀, a, j, e, z1, z2, I⟩ := hr
  refine seg_wrap ?_
  rw [ga.over]
  refine wpAny_mono (h a H₀ _ s σ H _ I ht) (fun fl s' q => ?_) fun x s' q => by rw [nx] at q; exact q.elim
  cases fl with
  | next => obtain ⟨σ', H', I', q⟩ := q; exact th m k s₀ s' σ' H' hm ⟨r₀, H₀, a, j, e, z1, z2, I'⟩ q
  | brk => obtain ⟨_, _, _, q⟩ := q; exact q.elim
  | cont => obtain ⟨_, _, _, q⟩ := q; exact q.elim
  | ret u => obtain ⟨_, _, _, _, _, q⟩ := q; exact q.elim
theorem gw_ps {t : TS} (h : ∀ a H₀, PS (X.wt a H₀) st t) : GW X lim o st (gPlain t) := gw_of nx fun a H₀ pins s σ H D I q => (h a H₀).run pins s σ H D I q
omit nx
theorem gws_nil : GWs X lim o [] id := fun n pp J A R Y c fs K Jx gd lv D gx sv ga th m k s₀ s σ H hm hr ht => seg_execs_nil (th m k s₀ s σ H hm hr ht)
theorem gws_cons {t u : TGw} (a : GW X lim o st t) (b : GWs X lim o rest u) : GWs X lim o (st :: rest) (fun D => t (u D)) := by
  intro n pp J A R Y c fs K Jx gd lv D gx sv ga th m k s₀ s σ H hm hr ht
  exact seg_execs_cons (a n pp J A R Y c fs (fun f => match f with | .next => (execs rest X.env).wrap K Jx gd lv | f => K f) Jx gd lv (u D) gx sv ga (b n pp J A R Y c fs K Jx gd lv D gx sv ga th) m k s₀ s σ H hm hr ht)
include nx
def gYield (lim : Nat) (o : Nat → V → Hp → Prop) (te : TE) : TGw := fun D k σ H => k < lim ∧ te σ H fun x H1 => o k x H1 ∧ D (k + 1) σ H1
theorem gw_yield {e : Expr} {yp pos : Pos} {te : TE} (he : ∀ a H₀, PE (X.wt a H₀) e te) (hco : X.env.scope.isCoroutine = false := by rfl) (hi : interactive X.env = false := by rfl) : GW X lim o (.Expr (.Yield (some e) yp) pos) (gYield lim o te) := by
  intro n pp J A R Y c fs K Jx gd lv D gx sv ga th m k s₀ s σ H hm hr ht
  obtain ⟨hk, ht⟩ := ht
  obtain ⟨m, rfl⟩ : ∃ j, m = j + 1 := ⟨m - 1, by omega⟩
  obtain ⟨r₀, H₀, a, j, e0, z1, z2, I⟩ := hr
  refine seg_Expr_Yield ga.split ga.gd ga.guard ?_ hco hi
  rw [ga.over]
  refine wpAny_mono ((he a H₀).run _ s σ H _ I ht) (fun v s1 q => ?_) fun x s' q => by
    have q : X.xe x s' := q
    rw [nx] at q; exact q.elim
  obtain ⟨x, H1, I1, rv, q1, q2⟩ := q
  have G1 : GRun X n pp J k σ H1 s1 := ⟨r₀, H₀, a, j, e0, z1, z2, I1⟩
  intro kap hkap
  refine sv m k s₀ x v σ H1 s1 kap (by omega) G1 rv q1 fun s2 j2 w => hkap .none s2 ?_
  exact th m (k + 1) s2 s2 σ H1 (by omega) (G1.woke gx w j2) q2
omit nx
theorem gat_loop {A : Around} {c c' : Code} {fs : List Frame} {gd : Bool → Bool} {k : Result → Sem PySem.Fin} {l kp : List Value} {p : Pos} (g : GAt X A c fs gd) (hw : c'.weight = 0) (hu : c'.cUnits = 0) : GAt X A c' (.ret k none (gd false) l c p kp :: fs) id where
  over := (over_loop hw hu).trans g.over
  split := by show (splitAtGen fs).map _ = none; rw [g.split]; rfl
  guard := by show (gd false || fs.any Frame.guarded) = false; rw [g.gd, g.guard]; rfl
  gd := rfl
def gWhile (c : TT) (tb : TGw) : TGw := fun D k σ H => ∃ W : Nat → GD, (∃ j, W j k σ H) ∧ ∀ j k σ H, W j k σ H → c σ H fun b H1 => if b = true then tb (fun k' σ' H' => ∃ j', j' < j ∧ W j' k' σ' H') k σ H1 else D k σ H1
include nx
theorem gw_while {test : Expr} {body : List Stmt} {pos : Pos} {tc : TT} {tb : TGw} (hc : ∀ a H₀, PT (X.wt a H₀) test tc) (hb : GWs X lim o body tb) : GW X lim o (.While test body [] pos) (gWhile tc tb) := by
  intro n pp J A R Y c fs K Jx gd lv D gx sv ga th m0 k0 s₀0 s0 σ0 H0 hm0 hr0 ⟨W, ⟨j0, w0⟩, turn⟩
  refine seg_While fun p => ?_
  generalize hfr : (fun r : Result => ((match r with | .ok f => (.pure f : Sem Flow) | .error e => .raise e).onRaise fun (x : Value) => do
        if (← field x 1) == Value.none then unsupported "frame.own-activation:exception-without-traceback"
        setFlight x X.env.frame).wrap K Jx gd lv) = back
  have gl : GAt X A (.whileLoop test body [] X.env) (.ret back none (gd false) (lv []) c p [] :: fs) id := gat_loop ga rfl rfl
  have out : ∀ {m s₀ s}, Seg (model X.prog X.w) A R Y m s₀ c (K .next) fs s → Seg (model X.prog X.w) A R Y m s₀ (.whileLoop test body [] X.env) (.pure (.done .next)) (.ret back none (gd false) (lv []) c p [] :: fs) s := fun {m s₀ s} q => by
    refine seg_leaf (.ok .next) ?_
    rw [← hfr]
    exact q
  have loop : ∀ (j : Nat) m k s₀ s σ H, m + k = lim → GRun X n pp J k σ H s → W j k σ H → Seg (model X.prog X.w) A R Y m s₀ (.whileLoop test body [] X.env) ((model X.prog X.w).den (.whileLoop test body [] X.env)) (.ret back none (gd false) (lv []) c p [] :: fs) s := by
    intro j
    induction j using Nat.strongRecOn with
    | ind j ih =>
      intro m k s₀ s σ H hm hr w
      obtain ⟨r₀, H₀, a, jj, e0, z1, z2, I⟩ := hr
      refine seg_whileLoop ?_
      rw [gl.over]
      refine wpAny_mono ((hc a H₀).run _ s σ H _ I (turn j k σ H w)) (fun b s1 q => ?_) fun x s' q => by
        have q : X.xe x s' := q
        rw [nx] at q; exact q.elim
      obtain ⟨H1, I1, q⟩ := q
      cases b with
      | true =>
        rw [if_pos rfl]
        rw [if_pos rfl] at q
        refine hb n pp J A R Y _ _ _ _ id id _ gx sv gl (fun m' k' s₀' s' σ' H' hm' hr' ⟨j', lt, w'⟩ => ?_) m k s₀ s1 σ H1 hm ⟨r₀, H₀, a, jj, e0, z1, z2, I1⟩ q
        exact seg_again rfl (ih j' lt m' k' s₀' s' σ' H' hm' hr' w')
      | false =>
        rw [if_neg Bool.false_ne_true]
        rw [if_neg Bool.false_ne_true] at q
        exact seg_execs_nil (out (th m k s₀ s1 σ H1 hm ⟨r₀, H₀, a, jj, e0, z1, z2, I1⟩ q))
  exact loop j0 m0 k0 s₀0 s0 σ0 H0 hm0 hr0 w0
end
/-! ## the first statements: an exception may leave them -/
def G1 (X : Cx) (lim : Nat) (o : Nat → V → Hp → Prop) (st : List Stmt) (t : GD → L2.St → Hp → Prop) : Prop :=
  ∀ n pp J A R Y c fs (K : Flow → Sem PySem.Fin) (Jx : Value → Sem PySem.Fin) gd (lv : List Value → List Value) D, GX X n pp → GServes X.nox n pp J lim o Y → GAt X A c fs gd → GThen X.nox n pp J lim A R Y c (K .next) fs D →
    (∀ m s₀ e s, X.xe e s → Seg (model X.prog X.w) A R Y m s₀ c (Jx e) fs s) → ∀ s₀ s σ H r₀, J 0 X.H_0 r₀ → (∀ b ∈ pp, ∃ u, r₀.heap.get? b = some u) → X.s_0 = r₀ → Inv X (pinsAt pp r₀.heap) σ H s → t D σ H → Seg (model X.prog X.w) A R Y lim s₀ c ((execs st X.env).wrap K Jx gd lv) fs s
section
variable {X : Cx} {lim : Nat} {o : Nat → V → Hp → Prop} {st : Stmt} {rest : List Stmt}
theorem g1_cons {t : TS} {u : GD → L2.St → Hp → Prop} (h : PS X st t) (r : G1 X lim o rest u) : G1 X lim o (st :: rest) (fun D σ H => t { nx := fun σ' H' => u D σ' H', rt := fun _ _ => False } σ H) := by
  intro n pp J A R Y c fs K Jx gd lv D gx sv ga th ex s₀ s σ H r₀ j e er I ht
  refine seg_execs_cons (seg_wrap ?_)
  rw [ga.over]
  refine wpAny_mono (h.run _ s σ H _ I ht) (fun fl s' q => ?_) fun x s' q => ex _ _ x s' q
  cases fl with
  | next => obtain ⟨σ', H', I', q⟩ := q; exact r n pp J A R Y c fs K Jx gd lv D gx sv ga th ex s₀ s' σ' H' r₀ j e er I' q
  | brk => obtain ⟨_, _, _, q⟩ := q; exact q.elim
  | cont => obtain ⟨_, _, _, q⟩ := q; exact q.elim
  | ret u => obtain ⟨_, _, _, _, _, q⟩ := q; exact q.elim
theorem g1_go {t : TGw} (h : GWs X.nox lim o rest t) : G1 X lim o rest (fun D σ H => t D 0 σ H) := by
  intro n pp J A R Y c fs K Jx gd lv D gx sv ga th ex s₀ s σ H r₀ j e er I ht
  subst er
  exact h n pp J A R Y c fs K Jx gd lv D ⟨gx.nc, gx.ab, gx.fl, gx.bl, gx.ex, gx.pb⟩ sv ⟨ga.over, ga.split, ga.guard, ga.gd⟩ th lim 0 s₀ s σ H (Nat.add_zero _) ⟨X.s_0, X.H_0, X.s_0, j, e, rfl, fun _ _ _ q => q, I.wish _⟩ ht
end
end LR
set_option Elab.async false
set_option maxRecDepth 100000
set_option linter.all false
set_option maxHeartbeats 4000000
namespace LR
open PySem PySem.Spec PyProof.Rows L2 GenW
/-! # a generator under a for loop: its def -/
/-- what a run of the generator at a has done between s₀ and s -/
structure GGo (P : Program) (w : World) (outer : List Env) (n : Nat) (a : Addr) (g : Nat) (pp : List Addr) (H₀ : Hp) (s₀ : Shared) (H : Hp) (s : Shared) : Prop where
  os : s.os = s₀.os
  bare : AllBare s.gens
  un : ∃ hb : Heap, (∀ b o, b < n → s₀.heap.get? b = some o → hb.get? b = some o) ∧ Un (frs outer) [] H₀ H hb s.heap
  hok : HOk P w H s.heap
  pin : ∀ b ∈ pp, ∀ o, s₀.heap.get? b = some o → s.heap.get? b = some o ∧ H b = none
  gen : s.heap.IsGen a g
structure GTells (P : Program) (w : World) (base : Heap) (outer : List Env) (n : Nat) (a : Addr) (g : Nat) (pp : List Addr) (J : GJ) (lim : Nat) (o : Nat → V → Hp → Prop) (fin : Nat → Hp → Prop) (Y : Protocol) (R : GenEnd) : Prop where
  out : ∀ m k s₀ r₀ x v H₀ H s kap, m + 1 + k = lim → J k H₀ r₀ → GGo P w outer n a g pp H₀ r₀ H s → RelV x v → o k x H → (∀ s', J (k + 1) H s' → Wkn base outer pp s s' → kap (.send .none) s') → Y m s₀ v s kap
  done : ∀ m k s₀ r₀ H₀ H s, J k H₀ r₀ → GGo P w outer n a g pp H₀ r₀ H s → fin k H → R m s₀ (.ok (.ret .none)) s
/-- a generator that has not begun -/
def GNew (P : Program) (w : World) (base : Heap) (j : Nat) (outer : List Env) (H : Hp) (s : Shared) (lim : Nat) (o : Nat → V → Hp → Prop) (fin : Nat → Hp → Prop) (E : XK) (u : Value) (s' : Shared) : Prop :=
  ∃ (a : Addr) (g : Nat) (c : Code), u = .ref a ∧ s.heap.objs.size ≤ a ∧ a < s'.heap.objs.size ∧ s'.heap.IsGen a g ∧ s'.gens[g]? = some (.fresh c) ∧ s'.os = s.os ∧ AllBare s'.gens ∧ (∀ b o, s.heap.get? b = some o → s'.heap.get? b = some o) ∧
    ∀ (A : Around) (pp : List Addr) (J : GJ) (R : GenEnd) (Y : Protocol) (s2 : Shared), Room j A → A.frames = some outer → (∀ b ∈ pp, base.get? b = none ∧ H b = none ∧ b ∉ frs outer ∧ ∃ o, s.heap.get? b = some o ∧ ∀ v, o.data ≠ .cell v) → J 0 H s → s2.heap = s'.heap → s2.os = s'.os → AllBare s2.gens →
      GTells P w base outer s.heap.objs.size a g pp J lim o fin Y R → (∀ m s₀ e s3, CX P w outer H s E e s3 → s3.heap.IsGen a g → R m s₀ (.error e) s3) → Seg (model P w) A R Y lim s2 c ((model P w).den c) [] s2
structure GDef (P : Program) (w : World) (K : PySem.W.Frag) (mg : Str → Option Value) (base : Heap) (j : Nat) (f : Addr) (fd : FuncData) (ps : List Str) (sp : List V → Hp → Nat → (Nat → V → Hp → Prop) → (Nat → Hp → Prop) → XK → Prop) : Prop where
  run : ∀ (A : Around) (outer : List Env) (s : Shared) (H : Hp) (args : Args) (us : List Value) (vs : List V) lim o fin E, Room j A → Env0 P w K mg base A outer s H → BindsTo s fd args (ps.zip us) → Vals vs us → vs.length = ps.length → sp vs H lim o fin E →
    codeAny (model P w) A (.call (.ref f) args) (fun r s' => match r with | .ok (.ret u) => GNew P w base j outer H s lim o fin E u s' | _ => False) s
/-- the context of its body -/
abbrev gX (P : Program) (w : World) (K : PySem.W.Frag) (mg : Str → Option Value) (base : Heap) (N : List Str) (qual : Str) (scope : Scope) (f : Addr) (cd : Value) (A : Around) (outer : List Env) (s : Shared) (H : Hp) (E : XK) (pn : List (Addr × Obj)) : Cx :=
  gcxOf P w K mg base N qual scope f cd A outer s H E pn
theorem gdef_of {P : Program} {w : World} {K : PySem.W.Frag} {mg : Str → Option Value} {base : Heap} {j : Nat} {f : Addr} {name qual : Str} {params : Arguments} {body : List Stmt} {scope : Scope} {dV kV doc pm cdv ct oc : Value} {an od : Option Addr} {osl : Array (Option Value)} {N ps : List Str}
    {sp : List V → Hp → Nat → (Nat → V → Hp → Prop) → (Nat → Hp → Prop) → XK → Prop} (lk : K.lookup f = some ⟨oc, od, .func (PySem.W.fnOf name qual params body scope dV kV doc pm an cdv ct), osl⟩) (hcd : PySem.W.codeIn K cdv qual = true) (S : GScope N ps scope) (hnc : ∀ m, cellsFrom m scope.names [] = [])
    (hbody : ∀ (A : Around) (outer : List Env) (s : Shared) (H : Hp) (vs : List V) (pn : List (Addr × Obj)) lim o fin E, Room j (A.deeper (envOfC qual scope s.heap.objs.size f cdv)) → sp vs H lim o fin E →
      ∃ t, G1 (gX P w K mg base N qual scope f cdv A outer s H E pn) lim o body t ∧ t (fun k _ H' => fin k H') (L2.start N vs) H) :
    GDef P w K mg base (j + 1) f (PySem.W.fnOf name qual params body scope dV kV doc pm an cdv ct) ps sp := by
  refine ⟨fun A outer s H args us vs lim o fin E hr e0 hb r hl hsp => ?_⟩
  have inK : K.In s.heap := e0.mod.kin.keeps fun b o e => (e0.bs b o e).1
  have low : s.heap.NoLimit := e0.mod.nolimit.keeps fun b o e => (e0.bs b o e).1
  have kinds : ∀ y ∈ ps.zip us, scope.names.lookup y.1 = some .local ∨ (scope.names.lookup y.1 = some .cell ∧ ((cellsFrom (s.heap.objs.size + 1) scope.names []).lookup y.1).isSome = true) := fun y hy => by
    obtain ⟨n, v⟩ := y
    exact (S.par n (List.of_mem_zip hy).1).imp id fun q => ⟨q, PySem.W.cellsFrom_some _ _ _ (.inl q)⟩
  refine codeAny_call_generator hr.depth (inK _ _ lk) rfl S.co S.gen rfl (PySem.W.codeRec_of inK hcd) (hb _ _ _ _ ?_)
  refine wpAny_newFunctionEnv_cells S.kind kinds fun env he s1 x => ?_
  subst he
  have low1 : s1.heap.NoLimit := low.keeps x.toInCall.keep
  refine ⟨low1, ?_⟩
  have os1 : s1.os = s.os := by obtain ⟨h1, tk, q, _⟩ := x.done; rw [q]
  have gens1 : s1.gens = s.gens := by obtain ⟨h1, tk, q, _⟩ := x.done; rw [q]
  have lt1 : s.heap.objs.size < s1.heap.objs.size := x.toInCall.ns.lt
  have kp1 : ∀ b o, s.heap.get? b = some o → s1.heap.get? b = some o := x.toInCall.keep
  have all : ∀ (go : Obj) (nm qn : Value) (tk : Nat), go.cls = .type "generator" → go.data = .fields #[.int s1.gens.size 0, nm, qn] → go.slots = #[] → (∀ h : Heap, (h.push go).get? h.objs.size = some go) →
      GNew P w base (j + 1) outer H s lim o fin E (.ref s1.heap.objs.size) { s1 with gens := s1.gens.push (.fresh (.func body (envOfC qual scope s.heap.objs.size f cdv))), toks := tk, heap := s1.heap.push go } := by
    intro go nm qn tk c1 c2 c3 c4
    have isg : ∀ h : Heap, h.get? s1.heap.objs.size = some go → h.IsGen s1.heap.objs.size s1.gens.size := fun h e => ⟨go, nm, qn, e, c1, c2, c3⟩
    have there : (s1.heap.push go).get? s1.heap.objs.size = some go := c4 _
    refine ⟨s1.heap.objs.size, s1.gens.size, _, rfl, Nat.le_of_lt lt1, ?_, isg _ there, Array.getElem?_push_size .., os1, ?_, fun b o e => Heap.get?_push_of_some _ (kp1 b o e), ?_⟩
    · show _ < (s1.heap.push _).objs.size
      rw [Heap.size_push]; exact Nat.lt_succ_self _
    · exact AllBare.push (by rw [gens1]; exact e0.bare) rfl
    intro Aw pp J R Y s2 rw_ fr_ hpp j0 eh eo hb2 tells errs
    have e0w : Env0 P w K mg base Aw outer s H := ⟨fr_, e0.mod, e0.bs, e0.bsz, e0.funs, e0.frf, e0.hok, e0.bare⟩
    obtain ⟨t, ht, hq⟩ := hbody Aw outer s H vs [(s1.heap.objs.size, go)] lim o fin E (rw_.deeper _) hsp
    have I1 : Inv (gcxOf P w K mg base N qual scope f cdv Aw outer s H E []) [] (L2.start N vs) H s1 := inv_startG S rw_.hd e0w hl r x
    have fl : ∀ b ∈ frs outer, b < s.heap.objs.size := fun b m => by
      obtain ⟨_, ob, ho, _⟩ := e0.funs.mem m
      exact Heap.lt_size ho
    have lo : ∀ b, s1.heap.objs.size ≤ b → b ∉ frs outer := fun b h m => absurd (Nat.lt_of_lt_of_le (fl b m) (Nat.le_trans (Nat.le_of_lt lt1) h)) (Nat.lt_irrefl _)
    -- the generator's own object
    have I2 : Inv (gcxOf P w K mg base N qual scope f cdv Aw outer s H E [(s1.heap.objs.size, go)]) [] (L2.start N vs) H { s1 with gens := s1.gens.push (.fresh (.func body (envOfC qual scope s.heap.objs.size f cdv))), toks := tk, heap := s1.heap.push go } := by
      refine Inv.pinnedG (I1.call' (ch := []) rfl (Un.kept fun b o e => Heap.get?_push_of_some _ e) (I1.hok.kept fun b o e => Heap.get?_push_of_some _ e) (AllBare.push (by rw [gens1]; exact e0.bare) rfl) fun b z => by simp at z) fun p hp => ?_
      rw [List.append_nil, List.mem_singleton] at hp
      rw [hp]
      exact ⟨there, I1.hok.fresh (Nat.le_refl _), Nat.ne_of_gt lt1, lo _ (Nat.le_refl _), fun v q => by rw [c2] at q; cases q⟩
    have lpp : ∀ b ∈ pp, b < s.heap.objs.size := fun b hb => let ⟨_, e, _⟩ := (hpp b hb).2.2.2; Heap.lt_size e
    have gx : GX (gX P w K mg base N qual scope f cdv Aw outer s H E [(s1.heap.objs.size, go)]) s.heap.objs.size pp := by
      refine ⟨fun y => ?_, Nat.le_refl _, fl, e0.bsz, rfl, fun b hb => ⟨(hpp b hb).1, fun p hp => ?_⟩⟩
      · show (cellsFrom _ scope.names []).lookup y = none
        rw [hnc]; rfl
      · rw [List.mem_singleton.mp hp]
        exact fun z => absurd (Nat.lt_trans (lpp b hb) lt1) (by rw [← z]; exact Nat.lt_irrefl _)
    have I3 : Inv (gX P w K mg base N qual scope f cdv Aw outer s H E [(s1.heap.objs.size, go)]) (pinsAt pp s.heap) (L2.start N vs) H s2 := by
      refine (I2.call' (s' := s2) (ch := []) eo (Un.kept fun b o e => by rw [eh]; exact e) (I2.hok.kept fun b o e => by rw [eh]; exact e) hb2 fun b z => by simp at z).pins_of fun p hp => ?_
      obtain ⟨hb, e⟩ := of_pinsAt hp
      obtain ⟨_, k2, k3, o, k4, k5⟩ := hpp p.1 hb
      rw [e] at k4; cases k4
      exact ⟨by rw [eh]; exact Heap.get?_push_of_some _ (kp1 _ _ e), k2, Nat.ne_of_lt (lpp p.1 hb), k3, k5⟩
    have told : ∀ {k σ' H' s'}, GRun (gX P w K mg base N qual scope f cdv Aw outer s H E [(s1.heap.objs.size, go)]).nox s.heap.objs.size pp J k σ' H' s' → ∃ r₀ H₀, J k H₀ r₀ ∧ GGo P w outer s.heap.objs.size s1.heap.objs.size s1.gens.size pp H₀ r₀ H' s' := fun {k σ' H' s'} ⟨r₀, H₀, a, jj, ex, z1, z2, I⟩ =>
      ⟨r₀, H₀, jj, I.os.trans z1, I.bare, ⟨a.heap, z2, I.base⟩, I.hok, fun b hb ob e => by
        obtain ⟨h1, h2, _⟩ := I.pin (b, ob) (List.mem_append_right _ (mem_pinsAt hb e))
        exact ⟨h1, h2⟩, isg _ (I.pin (s1.heap.objs.size, go) (List.mem_append_left _ (List.mem_singleton.mpr rfl))).1⟩
    have sv : GServes (gX P w K mg base N qual scope f cdv Aw outer s H E [(s1.heap.objs.size, go)]).nox s.heap.objs.size pp J lim o Y := fun m k s₀ x v σ' H' s' kap hm hg rv ho hk => by
      obtain ⟨r₀, H₀, jj, gg⟩ := told hg
      exact tells.out m k s₀ r₀ x v H₀ H' s' kap hm jj gg rv ho hk
    refine seg_func ?_
    refine ht s.heap.objs.size pp J Aw R Y _ [] (fun fl => .pure (.done (.ret (match fl with | .ret v => v | _ => .none)))) _ id id _ gx sv ⟨over_func, rfl, rfl, rfl⟩ (fun m k s₀ s' σ' H' hm hg hf => ?_) (fun m s₀ e s3 hx => ?_) s2 s2 _ H s j0 (fun b hb => let ⟨o, e, _⟩ := (hpp b hb).2.2.2; ⟨o, e⟩) rfl I3 hq
    · obtain ⟨r₀, H₀, jj, gg⟩ := told hg
      exact seg_end (.ok (.ret .none)) (tells.done m k s₀ r₀ H₀ H' s' jj gg hf)
    · refine seg_wrap ?_
      rw [over_func]
      refine wpAny_mono (show wpAny (model P w) (Aw.deeper (envOfC qual scope s.heap.objs.size f cdv)) (leaving (envOfC qual scope s.heap.objs.size f cdv) e) (fun _ s'' => CX P w outer H s E e s'' ∧ ∀ p ∈ [(s1.heap.objs.size, go)], s''.heap.get? p.1 = some p.2) (fun _ _ => False) s3 from hx) (fun _ s'' q => ?_) fun _ _ q => q.elim
      exact seg_end (.error e) (errs m s₀ e s'' q.1 (isg _ (q.2 (s1.heap.objs.size, go) (List.mem_singleton.mpr rfl))))
  exact all _ _ _ _ rfl rfl rfl fun h => Heap.get?_push_size _ rfl
end LR
set_option Elab.async false
set_option maxRecDepth 100000
set_option linter.all false
set_option maxHeartbeats 4000000
namespace LR
open PySem PySem.Spec PyProof.Rows L2 GenW
/-! # a generator under a for loop: the one who walks it -/
/-- without the cell p -/
def wout (H : Hp) (p : Addr) : Hp := fun b => if b = p then none else H b
theorem wout_at {H : Hp} {p : Addr} : wout H p p = none := if_pos rfl
theorem wout_ne {H : Hp} {p b : Addr} (h : b ≠ p) : wout H p b = H b := if_neg h
theorem wout_some {H : Hp} {p b : Addr} {o : HO} (h : wout H p b = some o) : b ≠ p ∧ H b = some o := by
  by_cases e : b = p
  · rw [e, wout_at] at h; cases h
  · rw [wout_ne e] at h; exact ⟨e, h⟩
theorem wout_none {H : Hp} {p b : Addr} (h : H b = none) : wout H p b = none := by
  by_cases e : b = p
  · rw [e]; exact wout_at
  · rw [wout_ne e]; exact h
/-- a list's object -/
abbrev lob (acc : Array Value) (c : Nat) : Obj := { cls := .type "list", dict := none, data := .seq acc c, slots := #[] }
/-- the cell p is nobody else's -/
structure Sole (X : Cx) (pins : List (Addr × Obj)) (p : Addr) : Prop where
  l : p ≠ X.env.locals
  f : p ∉ X.fs
  c : ∀ x c, X.env.cells.lookup x = some c → c ≠ p
  q : ∀ r ∈ X.pn ++ pins, r.1 ≠ p
  z : ∀ o, X.s_0.heap.get? p = some o → X.H_0 p = none → p ∉ X.ex → False
  b : X.base.get? p = none
section
variable {X : Cx} {pins : List (Addr × Obj)} {σ : L2.St} {H H' : Hp} {s : Shared} {p : Addr}
theorem fs_none (I : Inv X pins σ H s) : ∀ b ∈ X.fs, H b = none := fun b m => by
  obtain ⟨_, o, ho, _⟩ := I.ok.funs.mem m
  exact I.base.free b o ho (I.ok.frf b m) fun z => I.ok.exfs b z m
theorem sole_of (I : Inv X pins σ H s) {u : HO} (h : H p = some u) : Sole X pins p := by
  have no : ∀ b, H b = none → b ≠ p := fun b e z => by rw [z, h] at e; cases e
  refine ⟨(no _ I.free).symm, fun m => no p (fs_none I p m) rfl, fun x c e => no c (I.freeC x c e), fun q hq => no _ (I.pin q hq).2.1, fun o e1 e2 e3 => no p (I.base.free p o e1 e2 e3) rfl, ?_⟩
  cases e : X.base.get? p with
  | none => rfl
  | some o => exact absurd rfl (no p (I.bs p o e).2)
/-- the list at p is let go, as it stands -/
theorem cutInv (I : Inv X pins σ H s) {xs : List V} (h : H p = some (.lst xs)) : ∃ (its : List Value) (c : Nat), Vals xs its ∧ xs.length ≤ sizeLine ∧ Inv X (pins ++ [(p, lob its.toArray c)]) σ (wout H p) s := by
  have so := sole_of I h
  obtain ⟨z, its, n, r, e⟩ := I.hok p _ h
  have nt : ∀ {b : Addr} {u : HO}, H b = some u → (∀ xs, u ≠ .lst xs) → wout H p b = some u := fun {b u} q k => by
    rw [wout_ne fun e => by rw [e, h] at q; cases q; exact k _ rfl]; exact q
  refine ⟨its, n, r, z, I.ok, I.os, I.bare, ⟨I.base.keep, I.base.slot, fun b o e1 e2 e3 => wout_none (I.base.free b o e1 e2 e3), I.base.there, fun b xs q => nt (I.base.tups b xs q) fun _ q => (by cases q), fun b o u q => nt (I.base.frzs b o u q) fun _ q => (by cases q), fun b ps q => ?_⟩, I.loc, I.cell, wout_none I.free, fun x c e => wout_none (I.freeC x c e), fun q hq => ?_, fun b u q => ?_, I.len⟩
  · obtain ⟨m, q⟩ := I.base.tbls b ps q
    exact ⟨m, nt q fun _ q => (by cases q)⟩
  · rw [← List.append_assoc] at hq
    rcases List.mem_append.mp hq with hq | hq
    · obtain ⟨h1, h2, h3⟩ := I.pin q hq
      exact ⟨h1, wout_none h2, h3⟩
    · rw [List.mem_singleton.mp hq]
      exact ⟨e, wout_at, so.l, so.f, fun v q => by cases q⟩
  · obtain ⟨hb, q⟩ := wout_some q
    exact (I.hok b u q).stay (fun _ _ _ y => y) (fun c y => nt y fun _ q => (by cases q)) fun c xs y => nt y fun _ q => (by cases q)
/-- the list at p is taken back -/
theorem pasteInv (so : Sole X pins p) {ys : List V} {its : List Value} {c : Nat} (r : Vals ys its) (z : ys.length ≤ sizeLine) (I : Inv X (pins ++ [(p, lob its.toArray c)]) σ H s) : Inv X pins σ (upd H p (.lst ys)) s := by
  obtain ⟨e, hn, _⟩ := I.pin (p, lob its.toArray c) (by rw [← List.append_assoc]; exact List.mem_append_right _ (List.mem_singleton.mpr rfl))
  have nt : ∀ {b : Addr} {u : HO}, H b = some u → upd H p (.lst ys) b = some u := fun {b u} q => by rw [upd_ne (ne_of_none q hn)]; exact q
  have nn : ∀ {b : Addr}, b ≠ p → H b = none → upd H p (.lst ys) b = none := fun {b} k q => by rw [upd_ne k]; exact q
  refine ⟨I.ok, I.os, I.bare, ⟨I.base.keep, I.base.slot, fun b o e1 e2 e3 => nn (fun k => so.z o (by rw [← k]; exact e1) (by rw [← k]; exact e2) (by rw [← k]; exact e3)) (I.base.free b o e1 e2 e3), I.base.there, fun b xs q => nt (I.base.tups b xs q), fun b o u q => nt (I.base.frzs b o u q), fun b ps q => ?_⟩, I.loc, I.cell, nn so.l.symm I.free, fun x c e => nn (so.c x c e) (I.freeC x c e), fun q hq => ?_, fun b u q => ?_, I.len⟩
  · obtain ⟨m, q⟩ := I.base.tbls b ps q
    exact ⟨m, nt q⟩
  · obtain ⟨h1, h2, h3⟩ := I.pin q (by rw [← List.append_assoc]; exact List.mem_append_left _ hq)
    exact ⟨h1, nn (so.q q hq) h2, h3⟩
  · by_cases k : b = p
    · rw [k] at q ⊢
      rw [upd_same] at q
      cases q
      exact ⟨z, its, c, r, e⟩
    · rw [upd_ne k] at q
      exact (I.hok b u q).stay (fun _ _ _ y => y) (fun c y => nt y) fun c xs y => nt y
/-- the list at p has changed -/
theorem repin (so : Sole X pins p) {o o' : Obj} {h' : Heap} {tk : Nat} (I : Inv X (pins ++ [(p, o)]) σ H s) (e' : h'.get? p = some o') (d : ∀ v, o'.data ≠ .cell v) (hs : Heap.SameBut p s.heap h') : Inv X (pins ++ [(p, o')]) σ H { s with heap := h', toks := tk } := by
  obtain ⟨e, hn, _⟩ := I.pin (p, o) (by rw [← List.append_assoc]; exact List.mem_append_right _ (List.mem_singleton.mpr rfl))
  have kp : ∀ {b u}, b ≠ p → s.heap.get? b = some u → h'.get? b = some u := fun {b u} k q => (hs.2 b k).trans q
  have old : ∀ {b u}, X.s_0.heap.get? b = some u → X.H_0 b = none → b ∉ X.ex → b ≠ p := fun {b u} a1 a2 a3 k => so.z u (by rw [← k]; exact a1) (by rw [← k]; exact a2) (by rw [← k]; exact a3)
  refine ⟨I.ok, I.os, I.bare, ⟨fun b u a1 a2 a3 a4 => kp (old a1 a2 a4) (I.base.keep b u a1 a2 a3 a4), fun b u a1 a2 a3 a4 => ?_, I.base.free, fun b u a1 a2 => ?_, I.base.tups, I.base.frzs, I.base.tbls⟩, ?_, fun x c q => ?_, I.free, I.freeC, fun q hq => ?_, fun b u q => ?_, I.len⟩
  · obtain ⟨sl, q⟩ := I.base.slot b u a1 a2 a3 a4
    exact ⟨sl, kp (old a1 a2 a4) q⟩
  · by_cases k : b = p
    · rw [k]; exact ⟨_, e'⟩
    · obtain ⟨u', q⟩ := I.base.there b u a1 a2
      exact ⟨u', kp k q⟩
  · obtain ⟨m, ⟨ob, es, ep, ho, r⟩, hl⟩ := I.loc
    refine ⟨m, ⟨ob, es, ep, kp so.l.symm ho, r⟩, fun i x v e1 e2 e3 => ?_⟩
    obtain ⟨u, r, l⟩ := hl i x v e1 e2 e3
    refine ⟨u, r, l.imp id fun ⟨k, c, e, oc, hc, hd⟩ => ⟨k, c, e, oc, kp (so.c x c e) hc, hd⟩⟩
  · obtain ⟨v, oc, hc, hd⟩ := I.cell x c q
    exact ⟨v, oc, kp (so.c x c q) hc, hd⟩
  · rw [← List.append_assoc] at hq
    rcases List.mem_append.mp hq with hq | hq
    · obtain ⟨h1, h2⟩ := I.pin q (by rw [← List.append_assoc]; exact List.mem_append_left _ hq)
      exact ⟨kp (so.q q hq) h1, h2⟩
    · rw [List.mem_singleton.mp hq]
      exact ⟨e', hn, so.l, so.f, d⟩
  · refine (I.hok b u q).stay (fun c v hc y => kp (fun k => ?_) y) (fun _ y => y) fun _ _ y => y
    rcases hc with y | y
    · rw [← y, k, hn] at q; cases q
    · rw [k, hn] at y; cases y
/-- other generators -/
theorem regens (I : Inv X pins σ H s) {g : Array GenState} (h : AllBare g) : Inv X pins σ H { s with gens := g } := ⟨I.ok, I.os, h, I.base, I.loc, I.cell, I.free, I.freeC, I.pin, I.hok, I.len⟩
/-- a name is stored -/
theorem stored (I : Inv X pins σ H s) (hN : X.N.Nodup) {i : Nat} {x : Str} {v : V} {u : Value} (hi : X.N[i]? = some x) (hk : X.env.scope.names.lookup x = some .local) (r : RelV v u) {Q : Unit → Shared → Prop} {E : Value → Shared → Prop}
    (h : ∀ h' tk, Heap.SameBut X.env.locals s.heap h' → Inv X pins (σ.set i (some v)) H { s with heap := h', toks := tk } → Q () { s with heap := h', toks := tk }) {M : Model} {A : Around} : wpAny M A (storeName X.env x u) Q E s := by
  obtain ⟨m, hn, hl⟩ := I.loc
  have lt : i < σ.length := by rw [I.len]; exact (List.getElem?_eq_some_iff.mp hi).1
  refine wpAny_storeName_local hk hn (fun h' hn' hs => h h' _ hs ?_) (by rw [I.ok.kind]; rfl)
  have kp : ∀ {b u}, b ≠ X.env.locals → s.heap.get? b = some u → h'.get? b = some u := fun {b u} k q => (hs.2 b k).trans q
  have old : ∀ {b u}, X.s_0.heap.get? b = some u → b ≠ X.env.locals := fun {b u} a1 => Nat.ne_of_lt (Nat.lt_of_lt_of_le (Heap.lt_size a1) I.ok.above)
  have ne : ∀ {b u}, H b = some u → b ≠ X.env.locals := fun {b u} q k => by rw [k, I.free] at q; cases q
  refine ⟨I.ok, I.os, I.bare, ⟨fun b u a1 a2 a3 a4 => kp (old a1) (I.base.keep b u a1 a2 a3 a4), fun b u a1 a2 a3 a4 => ?_, I.base.free, fun b u a1 a2 => ?_, I.base.tups, I.base.frzs, I.base.tbls⟩, ⟨_, hn', fun j y w e1 e2 e3 => ?_⟩, fun y c q => ?_, I.free, I.freeC, fun q hq => ?_, fun b u q => ?_, by rw [List.length_set]; exact I.len⟩
  · obtain ⟨sl, q⟩ := I.base.slot b u a1 a2 a3 a4
    exact ⟨sl, kp (old a1) q⟩
  · obtain ⟨u', q⟩ := I.base.there b u a1 a2
    exact ⟨u', kp (old a1) q⟩
  · by_cases k : j = i
    · subst k
      rw [hi] at e1
      cases e1
      rw [List.getElem?_set_self lt] at e2
      cases e2
      exact ⟨u, r, .inl ⟨hk, if_pos rfl⟩⟩
    · rw [List.getElem?_set_ne (fun z => k z.symm)] at e2
      obtain ⟨u', r', q⟩ := hl j y w e1 e2 e3
      refine ⟨u', r', ?_⟩
      rcases q with ⟨k1, q⟩ | ⟨k1, c, q1, oc, q2, q3⟩
      · have ny : y ≠ x := fun z => k (by
          rw [z] at e1
          exact (List.getElem?_inj (List.getElem?_eq_some_iff.mp e1).1 hN).mp (e1.trans hi.symm))
        exact .inl ⟨k1, (if_neg ny).trans q⟩
      · exact .inr ⟨k1, c, q1, oc, kp (I.cne y c q1) q2, q3⟩
  · obtain ⟨w, oc, q2, q3⟩ := I.cell y c q
    exact ⟨w, oc, kp (I.cne y c q) q2, q3⟩
  · obtain ⟨h1, h2, h3, h4⟩ := I.pin q hq
    exact ⟨kp h3 h1, h2, h3, h4⟩
  · refine (I.hok b u q).stay (fun c w hc y => kp ?_ y) (fun _ y => y) fun _ _ y => y
    rcases hc with z | z
    · rw [z]; exact ne q
    · exact ne z
/-- a generator has run, from s₀ to s -/
theorem ranInv {n a g : Nat} {pp : List Addr} {H₀ : Hp} {s₀ : Shared} (I : Inv X pins σ H₀ s₀) (hp : ∀ q ∈ X.pn ++ pins, q.1 < n) (hL : X.env.locals < n) (hc : ∀ x c, X.env.cells.lookup x = some c → c < n) (h0 : X.s_0.heap.objs.size ≤ n)
    (G : GGo X.prog X.w X.stack n a g pp H₀ s₀ H s) : Inv X pins σ H s := by
  obtain ⟨hb, cg0, un⟩ := G.un
  have cg : ∀ {b u}, b < n → s₀.heap.get? b = some u → hb.get? b = some u := fun {b u} l q => cg0 b u l q
  have nx : ∀ b : Addr, b ∉ ([] : List Addr) := fun b => by simp
  have lt : ∀ {b u}, X.s_0.heap.get? b = some u → b < n := fun {b u} q => Nat.lt_of_lt_of_le (Heap.lt_size q) h0
  have ns : ∀ {b u}, X.s_0.heap.get? b = some u → b ∉ X.fs → b ∉ frs X.stack := fun {b u} q k m => by
    rcases List.mem_cons.mp (I.stkSub b m) with e | e
    · exact absurd (Nat.lt_of_lt_of_le (Heap.lt_size q) I.ok.above) (by rw [e]; exact Nat.lt_irrefl _)
    · exact k e
  have any : ∀ {b u}, b < n → s₀.heap.get? b = some u → H₀ b = none → ∃ sl, s.heap.get? b = some { u with slots := sl } := fun {b u} l q k => un.any (cg l q) k (nx b)
  refine ⟨I.ok, G.os.trans I.os, G.bare, ⟨fun b u a1 a2 a3 a4 => ?_, fun b u a1 a2 a3 a4 => ?_, fun b u a1 a2 a3 => ?_, fun b u a1 a2 => ?_, fun b xs q => un.tups b xs (I.base.tups b xs q), fun b o u q => un.frzs b o u (I.base.frzs b o u q), fun b ps q => ?_⟩, ?_, fun x c q => ?_, ?_, fun x c q => ?_, fun q hq => ?_, G.hok, I.len⟩
  · exact un.keep b u (cg (lt a1) (I.base.keep b u a1 a2 a3 a4)) (I.base.free b u a1 a2 a4) (ns a1 a3) (nx b)
  · obtain ⟨sl, q⟩ := I.base.slot b u a1 a2 a3 a4
    obtain ⟨sl2, q2⟩ := any (lt a1) q (I.base.free b u a1 a2 a4)
    exact ⟨sl2, q2⟩
  · obtain ⟨u', q⟩ := I.base.there b u a1 a3
    exact un.free b u' (cg (lt a1) q) (I.base.free b u a1 a2 a3) (nx b)
  · obtain ⟨u', q⟩ := I.base.there b u a1 a2
    exact un.there b u' (cg (lt a1) q) (nx b)
  · obtain ⟨m1, q1⟩ := I.base.tbls b ps q
    obtain ⟨m2, q2⟩ := un.tbls b _ q1
    exact ⟨m1 ++ m2, by rw [q2, Array.append_assoc]⟩
  · obtain ⟨m, ⟨o, es, ep, ho, r⟩, hl⟩ := I.loc
    obtain ⟨sl, e1⟩ := any hL ho I.free
    refine ⟨m, ⟨_, es, ep, e1, r⟩, fun i x v e1 e2 e3 => ?_⟩
    obtain ⟨u, r, l⟩ := hl i x v e1 e2 e3
    refine ⟨u, r, l.imp id fun ⟨k, c, e, oc, q2, q3⟩ => ?_⟩
    obtain ⟨sl, e4⟩ := any (hc x c e) q2 (I.freeC x c e)
    exact ⟨k, c, e, _, e4, q3⟩
  · obtain ⟨v, oc, q2, q3⟩ := I.cell x c q
    obtain ⟨sl, e4⟩ := any (hc x c q) q2 (I.freeC x c q)
    exact ⟨v, _, e4, q3⟩
  · obtain ⟨m, ⟨o, _, _, ho, _⟩, _⟩ := I.loc
    exact un.free _ o (cg hL ho) I.free (nx _)
  · obtain ⟨v, oc, q2, q3⟩ := I.cell x c q
    exact un.free c oc (cg (hc x c q) q2) (I.freeC x c q) (nx _)
  · obtain ⟨h1, h2, h3⟩ := I.pin q hq
    by_cases m : q.1 ∈ pp
    · obtain ⟨k1, k2⟩ := G.pin q.1 m q.2 h1
      exact ⟨k1, k2, h3⟩
    · exact ⟨un.keep q.1 q.2 (cg (hp q hq) h1) h2 (fun z => (List.mem_cons.mp (I.stkSub _ z)).elim h3.1 h3.2.1) (nx _), un.free q.1 q.2 (cg (hp q hq) h1) h2 (nx _), h3⟩
end
end LR
set_option Elab.async false
set_option maxRecDepth 100000
set_option linter.all false
set_option maxHeartbeats 4000000
namespace LR
open PySem PySem.Spec PyProof.Rows L2 GenW
/-! # for a, b in g(..): xs[a] = b -/
def gsl (i j : Nat) (out : List (Int × V)) (σ : L2.St) : L2.St := out.foldl (fun σ q => (σ.set i (some (.int q.1))).set j (some q.2)) σ
def gxs (out : List (Int × V)) (xs : List V) : List V := out.foldl (fun l q => l.set q.1.toNat q.2) xs
def oOut (out : List (Int × V)) : Nat → V → Hp → Prop := fun k x H => ∃ (T : Addr) (n : Int) (y : V), out[k]? = some (n, y) ∧ x = .ref T ∧ H T = some (.tup [.int n, y])
def oFin (out : List (Int × V)) (Z : Hp → Prop) : Nat → Hp → Prop := fun k H => k = out.length ∧ Z H
theorem gsl_next {i j : Nat} {out : List (Int × V)} {k : Nat} {n : Int} {y : V} {σ : L2.St} (h : out[k]? = some (n, y)) : gsl i j (out.take (k + 1)) σ = ((gsl i j (out.take k) σ).set i (some (.int n))).set j (some y) := by
  unfold gsl
  rw [List.take_add_one, h, List.foldl_append]; rfl
theorem gxs_next {out : List (Int × V)} {k : Nat} {n : Int} {y : V} {xs : List V} (h : out[k]? = some (n, y)) : gxs (out.take (k + 1)) xs = (gxs (out.take k) xs).set n.toNat y := by
  unfold gxs
  rw [List.take_add_one, h, List.foldl_append]; rfl
theorem gsl_other {i j l : Nat} (hi : l ≠ i) (hj : l ≠ j) : ∀ (out : List (Int × V)) (σ : L2.St), (gsl i j out σ)[l]? = σ[l]?
  | [], _ => rfl
  | q :: r, σ => (gsl_other hi hj r _).trans (by rw [List.getElem?_set_ne (Ne.symm hj), List.getElem?_set_ne (Ne.symm hi)])
theorem gxs_len : ∀ (out : List (Int × V)) (xs : List V), (gxs out xs).length = xs.length
  | [], _ => rfl
  | q :: r, xs => (gxs_len r _).trans List.length_set
section
variable {X : Cx} {pins : List (Addr × Obj)} {σ : L2.St} {H : Hp} {s : Shared}
/-- a name is read: the state stays -/
theorem readN (I : Inv X pins σ H s) {i : Nat} {x : Str} {v : V} {pos : Pos} (hi : X.N[i]? = some x) (hk : X.env.scope.names.lookup x = some .local) (e : σ[i]? = some (some v)) {Q : Value → Shared → Prop} {E : Value → Shared → Prop} (h : ∀ u, RelV v u → Q u s)
    (hd : (x == ("__debug__" : Str)) = false := by decide) : wpAny (model X.prog X.w) X.A (eval (.Name x pos) X.env) Q E s := by
  obtain ⟨m, hn, hl⟩ := I.loc
  obtain ⟨u, r, l⟩ := hl i x v hi e (.inl hk)
  rcases l with ⟨k, q⟩ | ⟨k, _⟩
  · exact wpAny_Name (wpAny_loadName_local I.ok.kind k hn q (h u r)) hd
  · have k : X.env.scope.names.lookup x = some .cell ∨ X.env.scope.names.lookup x = some .free := k
    rw [hk] at k
    rcases k with k | k <;> cases k
theorem letGen {A : Around} {E : Value → Shared → Prop} {elts : List Expr} {x1} {pos : Pos} {a g T : Addr} {Q : Unit → Shared → Prop} (hg : s.heap.IsGen a g) (h : Q () s) : wpAny (model X.prog X.w) A (letOwnedTupleGo (.Tuple elts x1 pos) (.ref a) (.ref T)) Q E s := by
  obtain ⟨o, nm, qn, ho, hc, hd, _⟩ := hg
  show wpAny _ A (load a >>= _) Q E s
  refine wpAny_bind (wpAny_load ho ?_)
  rw [hc, hd]
  exact wpAny_pure h
end
/-- what an exception of the generator must be -/
def GEx (K : PySem.W.Frag) (W : WX) (σ : L2.St) : XK := fun cls d H => W cls d σ H ∧ PySem.W.subIn K cls (.type "StopIteration") = some false
def tGFor (K : PySem.W.Frag) (W : WX) (sp : List V → Hp → Nat → (Nat → V → Hp → Prop) → (Nat → Hp → Prop) → XK → Prop) (dvs : List V) (t : TA) (ik iv il : Nat) : TS := fun D σ H => t σ H fun vs H1 => ∃ (p : Addr) (xs : List V) (out : List (Int × V)) (lim : Nat) (Z : Hp → Prop),
  σ[il]? = some (some (.ref p)) ∧ H1 p = some (.lst xs) ∧ (∀ q ∈ out, 0 ≤ q.1 ∧ q.1 < xs.length) ∧ sp (vs ++ dvs) (wout H1 p) lim (oOut out) (oFin out Z) (GEx K W σ) ∧ ∀ H2, H2 p = none → Z H2 → D.nx (gsl ik iv out σ) (upd H2 p (.lst (gxs out xs)))
/-- the walker's state, k items taken -/
def GSt (X : Cx) (pins : List (Addr × Obj)) (ik iv : Nat) (p : Addr) (xs : List V) (out : List (Int × V)) (σ : L2.St) (k : Nat) (H : Hp) (s : Shared) : Prop :=
  ∃ (its : List Value) (c : Nat), Vals (gxs (out.take k) xs) its ∧ Inv X (pins ++ [(p, lob its.toArray c)]) (gsl ik iv (out.take k) σ) H s
theorem ps_gfor {X : Cx} {W : WX} {j f ik iv il : Nat} {fd : FuncData} {ps : List Str} {sp : List V → Hp → Nat → (Nat → V → Hp → Prop) → (Nat → Hp → Prop) → XK → Prop} {dvs : List V} {ds : List Value} {x xk xv xl : Str} {e : Expr} {es : List Expr} {t : TA} {x1 : Nat} {pos pos0 pos1 pos2 pos3 pos4 pos5 pos6 pos7 pos8 cpos : Pos}
    (G : GDef X.prog X.w X.K X.mg X.base j f fd ps sp) (hr : Room (j + 1) X.A) (hg : Gl X x) (hm : X.mg x = some (.ref f)) (hk : PySem.W.keepIn X.K (.ref f) = true) (hb : Binds X.K fd ps ds) (hd : Vals dvs ds) (hlen : ∀ vs H lim o fin E, sp vs H lim o fin E → vs.length = ps.length) (tk : Takes X W) (ha : PA X (e :: es) t) (hp : PassesOwn (model X.prog X.w) X.A X.env X.xe) (hc : X.calm = true)
    (hst : X.env.frame = some X.env.locals ∧ X.stack = X.env :: X.outer)
    (hN : X.N.Nodup) (nk : X.N[ik]? = some xk) (nv : X.N[iv]? = some xv) (nl : X.N[il]? = some xl) (lk : X.env.scope.names.lookup xk = some .local) (lv : X.env.scope.names.lookup xv = some .local) (ll : X.env.scope.names.lookup xl = some .local) (n1 : il ≠ ik) (n2 : il ≠ iv) (n3 : ik ≠ iv)
    (dk : (xk == ("__debug__" : Str)) = false := by decide) (dv : (xv == ("__debug__" : Str)) = false := by decide) (dl : (xl == ("__debug__" : Str)) = false := by decide)
    (hdb : (x == ("__debug__" : Str)) = false := by decide) (he : starEach (e :: es) X.env = (false, eval e X.env) :: starEach es X.env := by rfl) (hpl : (backTo cpos (starEach es X.env)).any (·.1) = false := by rfl)
    (hs : ∀ z, foldedSetIterable (.Call (.Name x pos1) (e :: es) [] cpos) X.env z = pure z := by intro _; rfl)
    (hsw : swapsWith (.Name xv pos8) (some (.Subscript (.Name xl pos5) (.Name xk pos6) pos7)) pos4.line X.env = pure false := by rfl) :
    PS X (.For (.Tuple [.Name xk pos2, .Name xv pos3] x1 pos0) (.Call (.Name x pos1) (e :: es) [] cpos) [.Assign [.Subscript (.Name xl pos5) (.Name xk pos6) pos7] (.Name xv pos8) pos4] [] pos) (tGFor X.K W sp dvs t ik iv il) := by
  refine ⟨fun pins s σ H D I h => ?_⟩
  refine wpAny_For ?_ hs
  refine wpAny_Call_Name_kw (ld_glob I hg hm ?_ hdb)
  refine PySem.W.callWith_K (h₀ := X.base) I.ok.mod.kin hk (thn (ha.run cpos pins s σ H _ I h) fun us s1 ⟨vs, H1, I1, r, p, xs, out, lim, Z, hσ, hH, hout, hsp, hend⟩ => ⟨I1.kIn, ?_⟩) he hpl
  obtain ⟨its0, c0, r0, z0, I2⟩ := cutInv I1 hH
  have so := sole_of I1 hH
  have r2 : Vals (vs ++ dvs) (us ++ ds) := r.append hd
  have hl2 : (us ++ ds).length = ps.length := by rw [← r2.length]; exact hlen _ _ _ _ _ _ hsp
  refine wpAny_call (codeAny_mono (G.run X.A X.stack s1 (wout H1 p) ⟨us, []⟩ (us ++ ds) (vs ++ dvs) lim _ _ _ (hr.mono (Nat.le_succ j)) I2.env0 (hb s1 us I1.kIn hl2) r2 (hlen _ _ _ _ _ _ hsp) hsp) fun rr s2 hq => ?_)
  cases rr with
  | error _ => exact hq.elim
  | ok fl =>
  cases fl with
  | next => exact hq.elim
  | brk => exact hq.elim
  | cont => exact hq.elim
  | ret u =>
  obtain ⟨a, g, c, rfl, ha1, ha2, isg, hgs, hos, hba, hkp, wake⟩ := hq
  have sz2 : s1.heap.objs.size ≤ s2.heap.objs.size := Nat.le_trans ha1 (Nat.le_of_lt ha2)
  have I3 : Inv X (pins ++ [(p, lob its0.toArray c0)]) σ (wout H1 p) s2 := I2.call' (ch := []) hos (Un.kept hkp) (I2.hok.kept hkp) hba fun b z => by simp at z
  refine wpAny_pyIter_gen isg ?_
  -- what stays
  have lt1 : ∀ q ∈ X.pn ++ (pins ++ [(p, lob its0.toArray c0)]), q.1 < s1.heap.objs.size := fun q hq => Heap.lt_size (I2.pin q hq).1
  have ltp : p < s1.heap.objs.size := I1.hok.lt hH
  have ltC : ∀ y c, X.env.cells.lookup y = some c → c < s1.heap.objs.size := fun y c q => by obtain ⟨v, oc, h1, _⟩ := I1.cell y c q; exact Heap.lt_size h1
  have pst : p ∉ frs X.stack := fun m => by
    have := I1.stkFree p m
    rw [hH] at this; cases this
  have ranSt : ∀ {k H₀ s₀ H' s'}, GSt X pins ik iv p xs out σ k H₀ s₀ → GGo X.prog X.w X.stack s1.heap.objs.size a g [p] H₀ s₀ H' s' → GSt X pins ik iv p xs out σ k H' s' := fun {k H₀ s₀ H' s'} ⟨its, c, rv, J⟩ gg =>
    ⟨its, c, rv, ranInv J (fun q hq => by
      rw [← List.append_assoc] at hq
      rcases List.mem_append.mp hq with hq | hq
      · exact lt1 q (by rw [← List.append_assoc]; exact List.mem_append_left _ hq)
      · rw [List.mem_singleton.mp hq]; exact ltp) I1.lt ltC I1.sz gg⟩
  let Y : Protocol := fun m s₀ v s' kap => ∃ k H' x, GSt X pins ik iv p xs out σ k H' s' ∧ s'.heap.IsGen a g ∧ RelV x v ∧ oOut out k x H' ∧ ∀ s'', GSt X pins ik iv p xs out σ (k + 1) H' s'' → Wkn X.base X.stack [p] s' s'' → kap (.send .none) s''
  let F : Nat → Shared → Shared → Prop := fun _ _ s' => ∃ H', GSt X pins ik iv p xs out σ out.length H' s' ∧ Z H'
  let Er : Value → Shared → Prop := fun e s' => L2.CX X.prog X.w X.stack (wout H1 p) s1 (GEx X.K W σ) e s' ∧ s'.heap.IsGen a g
  let R : GenEnd := fun n s₀ r s₁ => ((r = .ok (.ret .none) ∨ r = .ok .next) ∧ F n s₀ s₁) ∨ ∃ e, r = .error e ∧ Er e s₁
  have tells : GTells X.prog X.w X.base X.stack s1.heap.objs.size a g [p] (fun k H' s' => GSt X pins ik iv p xs out σ k H' s') lim (oOut out) (oFin out Z) Y R := by
    refine ⟨fun m k s₀ r₀ x v H₀ H' s' kap _ jj gg rv ho hk => ⟨k, H', x, ranSt jj gg, gg.gen, rv, ho, hk⟩, fun m k s₀ r₀ H₀ H' s' jj gg hf => .inl ⟨.inl rfl, H', ?_, hf.2⟩⟩
    rw [← hf.1]
    exact ranSt jj gg
  have wk0 : ∀ {H' : Hp} {s' s'' : Shared} {k : Nat}, GSt X pins ik iv p xs out σ k H' s'' → (∀ b o, b ∉ [p] → b ∉ frs X.stack → s'.heap.get? b = some o → s''.heap.get? b = some o) → Wkn X.base X.stack [p] s' s'' := fun {H' s' s'' k} ⟨its, c, _, J⟩ kp => by
    refine ⟨J.bare, kp, J.stack, fun b hb => ?_, Nat.le_trans J.ok.bsz J.sz⟩
    rw [List.mem_singleton.mp hb]
    exact ⟨_, (J.pin (p, lob its.toArray c) (by rw [← List.append_assoc]; exact List.mem_append_right _ (List.mem_singleton.mpr rfl))).1, fun v q => by cases q⟩
  have rm : Room j X.A.in1 := ⟨hr.hd, by have := hr.dp; show X.A.depth + 3 * j + 5 < _; omega, by have := hr.un; show X.A.units + 1 + 16 * j + 200 < _; omega⟩
  have first := wake X.A.in1 [p] (fun k H' s' => GSt X pins ik iv p xs out σ k H' s') R Y (s2.setGen g .running) rm I1.ok.frames (fun b hb => by
    rw [List.mem_singleton.mp hb]
    exact ⟨so.b, wout_at, pst, _, (I2.pin (p, lob its0.toArray c0) (by rw [← List.append_assoc]; exact List.mem_append_right _ (List.mem_singleton.mpr rfl))).1, fun v q => by cases q⟩) ⟨its0, c0, r0, I2⟩ rfl rfl (allBare_setGen hba rfl) tells fun m s₀ e s3 cx ig => .inr ⟨e, rfl, cx, ig⟩
  have lowK : ∀ {k H' s'}, GSt X pins ik iv p xs out σ k H' s' → s'.heap.NoLimit := fun ⟨_, _, _, J⟩ => J.nolimit
  refine codeAny_forLoop_any (fun m s' => ∃ k H' gs, GSt X pins ik iv p xs out σ k H' s' ∧ s'.heap.IsGen a g ∧ s'.gens[g]? = some gs ∧ gs.Goes (model X.prog X.w) X.A.in1 R Y m (.send .none) (s'.setGen g .running)) ?_ lim ⟨0, wout H1 p, _, ⟨its0, c0, r0, I3⟩, isg, hgs, rfl, first⟩
  rintro m s3 ⟨k, H3, gs, st3, isg3, hgs3, goes⟩
  have ltg : g < s3.gens.size := (Array.getElem?_eq_some_iff.mp hgs3).1
  refine wpAny_passesOwn hp (wpAny_gsz (n := g + 1) ltg (next_genG (A := X.A) (F := F) (Er := Er) (Y := Y) (hr.hd) (lowK st3) (by have := hr.dp; omega) isg3 hgs3 goes (fun v s4 gs4 hb4 hY hsz => ?_) (fun s4 hF h' hk4 _ => ?_) fun e s4 he => ?_))
  · -- an item
    obtain ⟨k4, H4, xx, ⟨its4, c4, r4, I4⟩, isg4, rv4, ⟨T, n, y, ho, rfl, hT⟩, hkap⟩ := hY
    cases rv4
    have I5 := regens I4 (g := (s4.setGen g gs4).gens) (allBare_setGen I4.bare hb4)
    refine letGen (X := X) (s := { s4 with gens := (s4.setGen g gs4).gens }) isg4 ?_
    obtain ⟨its5, r5, hT5, _⟩ := I5.tuple (.inl (.inl hT))
    cases r5 with
    | cons ra r5 =>
    cases r5 with
    | cons rb r5 =>
    cases r5
    rename_i ua ub
    refine assign_Tuple_tuple (I5.ok.hd hc) hT5 rfl rfl fun h6 hx6 => ?_
    have I6 := I5.kept (h' := h6) (t' := s4.toks) fun b o q => hx6 b o (Nat.ne_of_lt (Heap.lt_size q)) q
    show wpAny _ _ (do holding [ub] (assign (.Name xk pos2) X.env ua); do holding [] (assign (.Name xv pos3) X.env ub); pure ()) _ _ _
    refine wpAny_bind (wpAny_holding (wpAny_assign_Name (stored I6 hN nk lk ra fun h7 tk7 hs7 I7 => ?_)))
    refine wpAny_bind (wpAny_holding (wpAny_assign_Name (stored I7 hN nv lv rb fun h8 tk8 hs8 I8 => wpAny_pure ?_)))
    have lenk : ik < (gsl ik iv (out.take k4) σ).length := by rw [I4.len]; exact (List.getElem?_eq_some_iff.mp nk).1
    have lenv : iv < (gsl ik iv (out.take k4) σ).length := by rw [I4.len]; exact (List.getElem?_eq_some_iff.mp nv).1
    refine wpAny_execs_cons (wpAny_Assign_Subscript ?_ hsw)
    refine readN I8 nv lv (v := y) (by rw [List.getElem?_set_self (by rw [List.length_set]; exact lenv)]) (fun uv rv => ?_) dv
    refine readN I8 nl ll (v := .ref p) (by rw [List.getElem?_set_ne (Ne.symm n2), List.getElem?_set_ne (Ne.symm n1), gsl_other n1 n2]; exact hσ) (fun up rp => ?_) dl
    refine readN I8 nk lk (v := .int n) (by rw [List.getElem?_set_ne (Ne.symm n3), List.getElem?_set_self lenk]) (fun ui ri => ?_) dk
    cases rp
    obtain ⟨tk, rfl⟩ := ri
    obtain ⟨hn0, hn1⟩ := hout (n, y) (List.mem_of_getElem? ho)
    have e8 := (I8.pin (p, lob its4.toArray c4) (by rw [← List.append_assoc]; exact List.mem_append_right _ (List.mem_singleton.mpr rfl))).1
    have hlen4 : its4.length = xs.length := by rw [← r4.length, gxs_len]
    have big := line63
    refine PySem.W.ki_setAt e8 hn0 (by omega) (by rw [List.size_toArray, hlen4]; omega) (wpAny_execs_nil ?_)
    have e9 : (h8.update p (Obj.mapSeq (·.setIfInBounds n.toNat uv))).get? p = some (lob (its4.set n.toNat uv).toArray c4) := by
      rw [Heap.get?_update_self _ e8 rfl]
      exact congrArg some (mapSeq_set its4 c4 n.toNat uv)
    have I9 := repin (h' := h8.update p (Obj.mapSeq (·.setIfInBounds n.toNat uv))) (tk := tk8) so I8 e9 (fun v q => by cases q) (Heap.SameBut.update ..)
    have Lst : X.env.locals ∈ frs X.stack := by
      rw [hst.2]
      unfold frs
      rw [List.filterMap_cons, hst.1]
      exact List.mem_cons_self
    have kp9 : ∀ b o, b ∉ [p] → b ∉ frs X.stack → s4.heap.get? b = some o → (h8.update p (Obj.mapSeq (·.setIfInBounds n.toNat uv))).get? b = some o := fun b o b1 b2 q => by
      have bp : b ≠ p := fun z => b1 (by rw [z]; exact List.mem_singleton.mpr rfl)
      have bL : b ≠ X.env.locals := fun z => b2 (by rw [z]; exact Lst)
      rw [Heap.get?_update_other _ _ (Ne.symm bp)]
      exact (hs8.2 b bL).trans ((hs7.2 b bL).trans (hx6 b o (Nat.ne_of_lt (Heap.lt_size q)) q))
    have st9 : GSt X pins ik iv p xs out σ (k4 + 1) H4 { s4 with heap := h8.update p (Obj.mapSeq (·.setIfInBounds n.toNat uv)), gens := (s4.setGen g gs4).gens, toks := tk8 } := by
      refine ⟨its4.set n.toNat uv, c4, ?_, ?_⟩
      · rw [gxs_next ho]; exact r4.set rv _
      · rw [gsl_next ho]; exact I9
    have ltg4 : g < s4.gens.size := by
      have : g + 1 ≤ (s4.setGen g gs4).gens.size := hsz
      rw [setGen_size] at this; omega
    have st10 : GSt X pins ik iv p xs out σ (k4 + 1) H4 (Shared.setGen { s4 with heap := h8.update p (Obj.mapSeq (·.setIfInBounds n.toNat uv)), gens := (s4.setGen g gs4).gens, toks := tk8 } g .running) := by
      obtain ⟨i9, c9, q9, J9⟩ := st9
      exact ⟨i9, c9, q9, regens J9 (allBare_setGen J9.bare rfl)⟩
    have goes' := hkap _ st10 (wk0 st10 kp9)
    cases m with
    | zero => exact goes'.elim
    | succ m =>
      have na : a ∉ [p] := fun z => by
        have : a = p := List.mem_singleton.mp z
        exact absurd ltp (by rw [← this]; exact Nat.not_lt.mpr ha1)
      have nf : a ∉ frs X.stack := fun z => by
        obtain ⟨_, ob, hob, _⟩ := I1.stack.mem z
        exact absurd (Heap.lt_size hob) (Nat.not_lt.mpr ha1)
      obtain ⟨og, nm, qn, g1, g2⟩ := isg4
      exact ⟨m, Nat.lt_succ_self m, k4 + 1, H4, gs4, st9, ⟨og, nm, qn, kp9 a og na nf g1, g2⟩, setGen_at ltg4, goes'⟩
  · -- the end
    obtain ⟨H4, ⟨its4, c4, r4, I4⟩, hZ⟩ := hF
    refine wpAny_execs_nil ?_
    rw [List.take_length] at r4 I4
    have I5 : Inv X (pins ++ [(p, lob its4.toArray c4)]) (gsl ik iv out σ) H4 { s4.setGen g .finished with heap := h' } := (regens I4 (g := (s4.setGen g .finished).gens) (allBare_setGen I4.bare rfl)).kept (h' := h') (t' := s4.toks) hk4
    have none4 : H4 p = none := (I4.pin (p, lob its4.toArray c4) (by rw [← List.append_assoc]; exact List.mem_append_right _ (List.mem_singleton.mpr rfl))).2.1
    exact ⟨_, _, pasteInv so r4 (by rw [gxs_len]; exact z0) I5, hend H4 none4 hZ⟩
  · -- it lets an exception out
    obtain ⟨cx, ig⟩ := he
    have kin : X.K.In s4.heap := by
      obtain ⟨a, B, H', cls, d, _, fl, _, ub, _⟩ := id cx
      refine I2.ok.mod.kin.keeps fun b o eb => fl.1 b o (ub.keep b o (I2.bs b o eb).1 (I2.bs b o eb).2 fun hm => ?_)
      rcases List.mem_cons.mp (I2.stkSub b hm) with z | z
      · have h1 := Heap.lt_size eb
        have h2 := Nat.le_trans I2.ok.bsz I2.ok.above
        rw [z] at h1
        exact absurd (Nat.lt_of_lt_of_le h1 h2) (Nat.lt_irrefl _)
      · exact I2.ok.nofr eb z
    refine ⟨ig, notStop_of (fun cls d H' q => q.2) kin cx, fun _ => passAt tk σ _ _ s1 e _ I2 ?_⟩
    obtain ⟨a', B, H', cls, d, z1, fl, z2, ub, z3, z4, z5, z6⟩ := cx
    exact ⟨a', B, H', cls, d, z1, fl, z2, ub, z3, z4, allBare_setGen z5 rfl, z6.1⟩
end LR
set_option Elab.async false
set_option maxRecDepth 100000
set_option linter.all false
set_option maxHeartbeats 4000000
namespace LR
open PySem PySem.Spec PyProof.Rows L2 GenW
/-! # a generator under a for loop: by its data -/
def eD : Option Int → D
  | none => .non
  | some i => .int i
def eV : Option Int → V
  | none => .non
  | some i => .int i
abbrev Outs := List (Int × Option Int)
def outV (out : Outs) : List (Int × V) := out.map fun q => (q.1, eV q.2)
/-- the list behind all that was handed out -/
def gos (out : Outs) (l : List (Option Int)) : List (Option Int) := out.foldl (fun l q => l.set q.1.toNat q.2) l
section
variable {K : PySem.W.Frag} {B : Hp}
theorem is_eD {v : V} {e : Option Int} (h : Is K B v (eD e)) : v = eV e := by
  cases e with
  | none => exact h.nonE
  | some i => exact h.intE
theorem eD_is : ∀ e : Option Int, Is K B (eV e) (eD e)
  | none => .non
  | some i => .int i
theorem iss_eD : ∀ {xs : List V} {l : List (Option Int)}, Iss K B xs (l.map eD) → xs = l.map eV := by
  intro xs l
  induction l generalizing xs with
  | nil => intro h; cases h; rfl
  | cons e r ih =>
    intro h
    cases h with
    | cons a t => rw [is_eD a, ih t]; rfl
theorem eD_iss : ∀ l : List (Option Int), Iss K B (l.map eV) (l.map eD)
  | [] => .nil
  | e :: r => .cons (eD_is e) (eD_iss r)
end
theorem gxs_eD : ∀ (out : Outs) (l : List (Option Int)), gxs (outV out) (l.map eV) = (gos out l).map eV
  | [], _ => rfl
  | q :: r, l => by
    show gxs (outV r) ((l.map eV).set q.1.toNat (eV q.2)) = (gos r (l.set q.1.toNat q.2)).map eV
    rw [← List.map_set]
    exact gxs_eD r _
theorem gos_len : ∀ (out : Outs) (l : List (Option Int)), (gos out l).length = l.length
  | [], _ => rfl
  | q :: r, l => (gos_len r _).trans List.length_set
/-! ## the generator's statements -/
abbrev DW := (Nat → List Ev → Prop) → Nat → List Ev → Prop
def liftW (K : PySem.W.Frag) (gE : G) (d : DW) : TGw := fun D k σ H => ∃ g env Dd, G.Le gE g ∧ Rep K g σ H env ∧ d Dd k env ∧ ∀ k' σ' H' g' env', G.Le gE g' → Rep K g' σ' H' env' → Dd k' env' → D k' σ' H'
theorem GWrun.mono {X : Cx} {lim : Nat} {o : Nat → V → Hp → Prop} {f : Sem Flow} {t t' : TGw} (h : GWrun X lim o f t) (m : ∀ D k σ H, t' D k σ H → t D k σ H) : GWrun X lim o f t' :=
  fun n pp J A R Y c fs K Jx gd lv D gx sv ga th m' k s₀ s σ H hm hr ht => h n pp J A R Y c fs K Jx gd lv D gx sv ga th m' k s₀ s σ H hm hr (m D k σ H ht)
section
variable {X : Cx} {lim : Nat} {out : Outs} {gE : G} {st : Stmt} {rest sts : List Stmt} (nx : X.xe = fun _ _ => False)
include nx
def wPlain (ds : DS) : DW := fun Dd k env => ds { nx := fun e => Dd k e, rt := fun _ _ => False } env
theorem gq_st {ds : DS} (h : ∀ a b, QS (X.wt a b) WF st ds) : GW X lim (oOut (outV out)) st (liftW X.K gE (wPlain ds)) :=
  (gw_ps nx (t := liftS X.K WF ds) fun a b => h a b).mono fun D k σ H ⟨g, env, Dd, le, R, hd, c⟩ =>
    ⟨g, env, _, R, hd, ⟨fun σ' H' g' env' l R' q => c k σ' H' g' env' (le.trans l) R' q, fun _ _ _ _ _ _ z => z.elim, fun _ _ _ _ _ _ z => z.elim, fun _ _ _ _ _ _ _ _ _ z => z.elim, fun _ _ _ _ _ _ _ _ _ _ z => z.elim⟩⟩
theorem gq_yield {e : Expr} {yp pos : Pos} {d : DE} (he : ∀ a b, QE (X.wt a b) WF e d) (hco : X.env.scope.isCoroutine = false := by rfl) (hi : interactive X.env = false := by rfl) :
    GW X lim (oOut (outV out)) (.Expr (.Yield (some e) yp) pos) (liftW X.K gE fun Dd k env => k < lim ∧ d env (fun _ => False) (asD fun x => ∃ n a, out[k]? = some (n, a) ∧ x = .tup [.int n, eD a] ∧ Dd (k + 1) env)) :=
  (gw_yield nx (te := lift X.K WF d) (fun a b => he a b) hco hi).mono fun D k σ H ⟨g, env, Dd, le, R, ⟨hl, hd⟩, c⟩ => ⟨hl, lift.useD R hd (fun v x H' g' le' R' ix ⟨n, a, ho, ex, q⟩ => by
    subst ex
    obtain ⟨p, xs, rfl, hp, is, _⟩ := ix.tupE
    cases is with
    | cons i1 is =>
    cases is with
    | cons i2 is =>
    cases is
    rw [i1.intE, is_eD i2] at hp
    exact ⟨⟨p, n, eV a, by unfold outV; rw [List.getElem?_map, ho]; rfl, rfl, R'.ok.sb _ _ hp⟩, c _ _ _ _ _ (le.trans le') R' q⟩) fun _ _ _ _ _ _ _ _ z => z.elim⟩
omit nx
theorem gq_nil : GWs X lim (oOut (outV out)) [] (liftW X.K gE fun Dd k env => Dd k env) := gws_nil.mono fun D k σ H ⟨g, env, Dd, le, R, hd, c⟩ => c _ _ _ _ _ le R hd
theorem gq_cons {a b : DW} (h : GW X lim (oOut (outV out)) st (liftW X.K gE a)) (t : GWs X lim (oOut (outV out)) rest (liftW X.K gE b)) : GWs X lim (oOut (outV out)) (st :: rest) (liftW X.K gE fun Dd => a (b Dd)) :=
  (gws_cons h t).mono fun D k σ H ⟨g, env, Dd, le, R, hd, c⟩ => ⟨g, env, b Dd, le, R, hd, fun k' σ' H' g' env' le' R' q => ⟨g', env', Dd, le', R', q, c⟩⟩
include nx
def wWhile (dt : DT) (b : DW) : DW := fun Dd k env => ∃ W : Nat → Nat → List Ev → Prop, (∃ j, W j k env) ∧ ∀ j k env, W j k env → dt env (fun _ => False) fun c => if c = true then b (fun k' e' => ∃ j', j' < j ∧ W j' k' e') k env else Dd k env
theorem gq_while {test : Expr} {body : List Stmt} {pos : Pos} {dt : DT} {b : DW} (hc : ∀ a b, QT (X.wt a b) WF test dt) (hb : GWs X lim (oOut (outV out)) body (liftW X.K gE b)) : GW X lim (oOut (outV out)) (.While test body [] pos) (liftW X.K gE (wWhile dt b)) :=
  (gw_while nx (tc := liftT X.K WF dt) (fun a b => hc a b) hb).mono fun D k σ H ⟨g, env, Dd, le, R, ⟨W, ⟨j, w⟩, turn⟩, c⟩ => by
    refine ⟨fun j k σ H => ∃ g env, G.Le gE g ∧ Rep X.K g σ H env ∧ W j k env, ⟨j, g, env, le, R, w⟩, fun j k σ H ⟨g, env, le, R, w⟩ => ⟨g, env, _, _, R, turn j k env w, fun bb H' g' le' R' q => ?_, fun _ _ _ _ _ _ _ _ z => z.elim⟩⟩
    cases bb with
    | true =>
      rw [if_pos rfl] at q ⊢
      exact ⟨g', env, _, le.trans le', R', q, fun k' σ' H' g2 env' le2 R2 ⟨j', lt, w'⟩ => ⟨j', lt, g2, env', le2, R2, w'⟩⟩
    | false =>
      rw [if_neg Bool.false_ne_true] at q ⊢
      exact c _ _ _ _ _ (le.trans le') R' q
end
/-! ## the first statements -/
abbrev DW1 := (Nat → List Ev → Prop) → (Er → List Ev → Prop) → List Ev → Prop
def liftW1 (K : PySem.W.Frag) (gE : G) (W : WX) (Ed : Er → Prop) (d : DW1) : GD → L2.St → Hp → Prop := fun D σ H => ∃ g env Dd, G.Le gE g ∧ Rep K g σ H env ∧ d Dd (fun e _ => Ed e) env ∧ (∀ k' σ' H' g' env', G.Le gE g' → Rep K g' σ' H' env' → Dd k' env' → D k' σ' H') ∧
  ∀ e cls dd σ' H' g' env', G.Le gE g' → Rep K g' σ' H' env' → IsEr g'.B cls dd e → Ed e → W cls dd σ' H'
def G1.mono {X : Cx} {lim : Nat} {o : Nat → V → Hp → Prop} {st : List Stmt} {t t' : GD → L2.St → Hp → Prop} (h : G1 X lim o st t) (m : ∀ D σ H, t' D σ H → t D σ H) : G1 X lim o st t' :=
  fun n pp J A R Y c fs K Jx gd lv D gx sv ga th ex s₀ s σ H r₀ j e er I ht => h n pp J A R Y c fs K Jx gd lv D gx sv ga th ex s₀ s σ H r₀ j e er I (m D σ H ht)
section
variable {X : Cx} {lim : Nat} {out : Outs} {gE : G} {W : WX} {Ed : Er → Prop} {st : Stmt} {rest : List Stmt}
theorem g1q_cons {ds : DS} {b : DW1} (h : QS X W st ds) (r : G1 X lim (oOut (outV out)) rest (liftW1 X.K gE W Ed b)) : G1 X lim (oOut (outV out)) (st :: rest) (liftW1 X.K gE W Ed fun Dd er env => ds { nx := fun e => b Dd er e, rt := fun _ _ => False, er := er } env) :=
  (g1_cons h r).mono fun D σ H ⟨g, env, Dd, le, R, hd, c, x⟩ => ⟨g, env, _, R, hd, ⟨fun σ' H' g' env' l R' q => ⟨g', env', Dd, le.trans l, R', q, c, x⟩, fun _ _ _ _ _ _ z => z.elim, fun _ _ _ _ _ _ z => z.elim, fun _ _ _ _ _ _ _ _ _ z => z.elim, fun e cls dd σ' H' g' env' l R' i q => x e cls dd σ' H' g' env' (le.trans l) R' i q⟩⟩
theorem g1q_go {a : DW} (h : GWs X.nox lim (oOut (outV out)) rest (liftW X.nox.K gE a)) : G1 X lim (oOut (outV out)) rest (liftW1 X.K gE W Ed fun Dd _ env => a Dd 0 env) :=
  (g1_go h).mono fun D σ H ⟨g, env, Dd, le, R, hd, c, _⟩ => ⟨g, env, Dd, le, R, hd, c⟩
end
/-! ## its def -/
/-- Z: what its end tells -/
abbrev FG := List Ar → (Er → Prop) → Outs → Prop → Prop
/-- a generator's promise by its data -/
def spG (K : PySem.W.Frag) (f : FG) : List V → Hp → Nat → (Nat → V → Hp → Prop) → (Nat → Hp → Prop) → XK → Prop := fun vs H lim o fin E =>
  ∃ g as Ed out Z, Enter g H ∧ IsAs K g vs as ∧ f as Ed out Z ∧ (∀ e cls dd H' g', G.Le g g' → WOk g' H' → IsEr g'.B cls dd e → Ed e → E cls dd H') ∧ out.length ≤ lim ∧ o = oOut (outV out) ∧ fin = oFin (outV out) fun H' => Z ∧ ∃ g', G.Le g g' ∧ WOk g' H'
theorem gdef_dl {P : Program} {w : World} {K : PySem.W.Frag} {mg : Str → Option Value} {base : Heap} {j : Nat} {f : Addr} {name qual : Str} {params : Arguments} {body : List Stmt} {scope : Scope} {dV kV doc pm cdv ct oc : Value} {an od : Option Addr} {osl : Array (Option Value)} {N ps : List Str} {fG : FG}
    (lk : K.lookup f = some ⟨oc, od, .func (PySem.W.fnOf name qual params body scope dV kV doc pm an cdv ct), osl⟩) (hcd : PySem.W.codeIn K cdv qual = true) (S : GScope N ps scope) (hnc : ∀ m, cellsFrom m scope.names [] = []) (hl : ∀ as Ed out Z, fG as Ed out Z → as.length ≤ N.length)
    (hbody : ∀ (A : Around) (outer : List Env) (s : Shared) (H : Hp) (pn : List (Addr × Obj)) lim (out : Outs) gE (E : XK) (Ed : Er → Prop), Room j (A.deeper (envOfC qual scope s.heap.objs.size f cdv)) →
      ∃ d, G1 (gX P w K mg base N qual scope f cdv A outer s H E pn) lim (oOut (outV out)) body (liftW1 K gE (fun cls dd _ H => E cls dd H) Ed d) ∧ ∀ as Z, fG as Ed out Z → out.length ≤ lim → d (fun k _ => k = out.length ∧ Z) (fun e _ => Ed e) (envOf as N.length)) :
    GDef P w K mg base (j + 1) f (PySem.W.fnOf name qual params body scope dV kV doc pm an cdv ct) ps (spG K fG) := by
  refine gdef_of lk hcd S hnc fun A outer s H vs pn lim o fin E hr ⟨g, as, Ed, out, Z, en, ia, hf, kx, hle, eo, ef⟩ => ?_
  subst eo
  subst ef
  obtain ⟨d, hd, q⟩ := hbody A outer s H pn lim out g E Ed hr
  refine ⟨_, hd, g, _, _, .rfl, rep_start en ia (by rw [ia.length]; exact hl _ _ _ _ hf), q as Z hf hle, fun k' σ' H' g' env' le R e => ⟨?_, e.2, g', le, R.ok⟩, fun e cls dd σ' H' g' env' le R i q => kx e cls dd H' g' le R.ok i q⟩
  rw [e.1]; unfold outV; rw [List.length_map]
/-! ## the one who walks it -/
theorem WOk.wout {g : G} {H : Hp} {p : Addr} (w : WOk g H) (nb : g.B p = none) (nm : ¬ g.M p) (n0 : g.H0 p = none) (np : g.P p = none) : WOk g (wout H p) := by
  have keep : ∀ {a o}, a ≠ p → H a = some o → LR.wout H p a = some o := fun {a o} k e => by rw [wout_ne k]; exact e
  have ne : ∀ {F : Hp} {a o}, F p = none → F a = some o → a ≠ p := fun {F a o} h e k => by rw [k, h] at e; cases e
  refine ⟨fun a o e => keep (ne nb e) (w.sb a o e), fun a m => ?_, fun a o e i => w.im a o (wout_some e).2 i, fun a o h1 h2 e => keep (ne n0 e) (w.fr a o h1 h2 e), w.nw, fun a o e => ?_, w.m0, w.bn, fun a x => ?_⟩
  · obtain ⟨⟨a1, a2, a3, a4, e⟩, q⟩ := w.pl a m
    exact ⟨⟨a1, a2, a3, a4, keep (fun k => nm (by rw [← k]; exact m)) e⟩, q⟩
  · obtain ⟨h1, h2, h3⟩ := w.pv a o e
    exact ⟨keep (ne np e) h1, h2, h3⟩
  · obtain ⟨⟨o, h1⟩, ⟨o', h2⟩, h3⟩ := w.xp a x
    exact ⟨⟨o, keep (ne n0 h2) h1⟩, ⟨o', h2⟩, h3⟩
theorem Rep.resig {K : PySem.W.Frag} {g : G} {σ σ' : L2.St} {H : Hp} {e : List Ev} (R : Rep K g σ H e) (hl : σ'.length = σ.length) (h : ∀ j, nth e j = .any ∨ σ'[j]? = σ[j]?) : Rep K g σ' H e :=
  ⟨R.ok, hl.trans R.ln, fun j => by
    rcases h j with q | q
    · rw [q]; trivial
    · rw [q]; exact R.sl j, R.nf, R.di⟩
theorem gsl_len {i j : Nat} : ∀ (out : List (Int × V)) (σ : L2.St), (gsl i j out σ).length = σ.length
  | [], _ => rfl
  | q :: r, σ => (gsl_len r _).trans (by rw [List.length_set, List.length_set])
def dGFor (K : PySem.W.Frag) (f : FG) (ad : List Ar) (da : DA) (ik iv il : Nat) : DS := fun Dd env => ik < env.length ∧ iv < env.length ∧ da env (fun er => Dd.er er env) fun as => ∃ l out Z, nth env il = .own (.ls (l.map eD)) ∧ f (as ++ ad) (fun e => (∀ p, Dd.er e (sth env il (.raw (.ref p)))) ∧ PySem.W.subIn K (.ref e.C) (.type "StopIteration") = some false) out Z ∧ (∀ q ∈ out, 0 ≤ q.1 ∧ q.1 < l.length) ∧
  (Z → ∀ p, Dd.nx (sth (sth (sth (sth env il (.raw (.ref p))) ik .any) iv .any) il (.own (.ls ((gos out l).map eD)))))
theorem qs_gfor {X : Cx} {W : WX} {j f ik iv il : Nat} {fd : FuncData} {ps : List Str} {fG : FG} {x xk xv xl : Str} {e : Expr} {es : List Expr} {da : DA} {dvs : List V} {ds : List Value} {ad : List Ar} {x1 : Nat} {pos pos0 pos1 pos2 pos3 pos4 pos5 pos6 pos7 pos8 cpos : Pos}
    (GF : GDef X.prog X.w X.K X.mg X.base j f fd ps (spG X.K fG)) (hr : Room (j + 1) X.A) (hg : Gl X x) (hm : X.mg x = some (.ref f)) (hk : PySem.W.keepIn X.K (.ref f) = true) (hb : Binds X.K fd ps ds) (hd : Vals dvs ds) (hda : ∀ g, IsAs X.K g dvs ad) (hlen : ∀ as Ed out Z, fG as Ed out Z → as.length = ps.length) (tk : Takes X W) (ha : QA X W (e :: es) da) (hp : PassesOwn (model X.prog X.w) X.A X.env X.xe) (hc : X.calm = true)
    (hst : X.env.frame = some X.env.locals ∧ X.stack = X.env :: X.outer)
    (hN : X.N.Nodup) (nk : X.N[ik]? = some xk) (nv : X.N[iv]? = some xv) (nl : X.N[il]? = some xl) (lk : X.env.scope.names.lookup xk = some .local) (lv : X.env.scope.names.lookup xv = some .local) (ll : X.env.scope.names.lookup xl = some .local) (n1 : il ≠ ik) (n2 : il ≠ iv) (n3 : ik ≠ iv)
    (dk : (xk == ("__debug__" : Str)) = false := by decide) (dv : (xv == ("__debug__" : Str)) = false := by decide) (dl : (xl == ("__debug__" : Str)) = false := by decide)
    (hdb : (x == ("__debug__" : Str)) = false := by decide) (he : starEach (e :: es) X.env = (false, eval e X.env) :: starEach es X.env := by rfl) (hpl : (backTo cpos (starEach es X.env)).any (·.1) = false := by rfl)
    (hs : ∀ z, foldedSetIterable (.Call (.Name x pos1) (e :: es) [] cpos) X.env z = pure z := by intro _; rfl)
    (hsw : swapsWith (.Name xv pos8) (some (.Subscript (.Name xl pos5) (.Name xk pos6) pos7)) pos4.line X.env = pure false := by rfl) :
    QS X W (.For (.Tuple [.Name xk pos2, .Name xv pos3] x1 pos0) (.Call (.Name x pos1) (e :: es) [] cpos) [.Assign [.Subscript (.Name xl pos5) (.Name xk pos6) pos7] (.Name xv pos8) pos4] [] pos) (dGFor X.K fG ad da ik iv il) := by
  refine PS.mono (ps_gfor (W := W) (sp := spG X.K fG) (dvs := dvs) (ik := ik) (iv := iv) (il := il) GF hr hg hm hk hb hd (fun vs H lim o fin E ⟨g, as, Ed, out, Z, _, ia, hf, _⟩ => by rw [ia.length]; exact hlen _ _ _ _ hf) tk ha hp hc hst hN nk nv nl lk lv ll n1 n2 n3 dk dv dl hdb he hpl hs hsw) fun D σ H ⟨g, env, Dd, R, ⟨lk1, lv1, h⟩, l⟩ => ?_
  refine ⟨g, env, _, _, R, h, fun vs as H1 g1 le R1 i1 ⟨ls, out, Z, en, hf, hout, hend⟩ => ?_, l.kx⟩
  obtain ⟨b, p, xs, en', es_, mp, hp1, is, z⟩ := R1.lsE (i := il) (l := ls.map eD) (by rw [en]; rfl)
  rw [en] at en'
  cases en'
  have ex := iss_eD is
  subst ex
  have Ra := R1.toRaw en es_
  obtain ⟨v0, o0, b0, eo, _, oa⟩ := R1.ownC mp
  rw [en] at eo
  cases eo
  have pv := oa.pv p mp
  have n0 : g1.H0 p = none := by
    rcases pv.n0 with q | ⟨q, _⟩
    · exact q
    · cases q
  have offp : ∀ i, ∀ a ∈ (g1.setF il []).F i, a ≠ p := fun i a m k => by
    have m : a ∈ LR.setF g1.F il [] i := m
    by_cases c : i = il
    · rw [c, setF_eq] at m; cases m
    · rw [setF_ne c, k] at m
      exact R1.di i il p c m mp
  have Rb : Rep X.K (g1.setF il []) σ (wout H1 p) (sth env il (.raw (.ref p))) := Ra.move (Ra.ok.wout pv.nb pv.nm n0 pv.np) .rfl rfl fun i a m => ⟨fun _ q => q, wout_ne (offp i a m)⟩
  refine ⟨p, ls.map eV, outV out, out.length, _, es_, hp1, fun q hq => ?_, ⟨LR.enter (g1.setF il []) (wout H1 p), as ++ ad, _, out, Z, Rb.ok.enter, ?_, hf, fun e cls dd H' g' le' w' i q => ⟨l.er e cls dd σ H' _ _ (le.trans (G.setF_le.trans (leave_le le'))) (Rb.leave le' w') i (q.1 p), by rw [i.1]; exact q.2⟩, Nat.le_refl _, rfl, rfl⟩, fun H2 h2 ⟨hZ, g', le', w'⟩ => ?_⟩
  · obtain ⟨q', hq', rfl⟩ := List.mem_map.mp hq
    rw [List.length_map]
    exact hout q' hq'
  · have app : ∀ {g : LR.G} {vs as}, IsAs X.K g vs as → IsAs X.K g (vs ++ dvs) (as ++ ad) := fun {g vs as} i => by
      induction i with
      | nil => exact hda g
      | d h t ih => exact .d h ih
      | pool h t ih => exact .pool h ih
      | scr h t ih => exact .scr h ih
    exact IsAs.enter (H := wout H1 p) Rb.ok (app (i1.mono G.setF_le))
  · have R2 := Rb.leave le' w'
    have R3 := (R2.drop ik).drop iv
    have R4 := R3.resig (σ' := gsl ik iv (outV out) σ) (gsl_len _ _) fun i => by
      by_cases c1 : i = iv
      · subst c1; exact .inl (nth_sth_eq (by rw [sth_len, sth_len]; exact lv1))
      · by_cases c2 : i = ik
        · subst c2
          exact .inl (by rw [nth_sth_ne c1]; exact nth_sth_eq (by rw [sth_len]; exact lk1))
        · exact .inr (gsl_other c2 c1 _ _)
    have R5 := R4.put (ho := .lst (gxs (outV out) (ls.map eV))) h2 fun q => q
    have ll1 : il < env.length := lt_of_own en
    have hraw : nth (sth (sth (sth env il (.raw (.ref p))) ik .any) iv .any) il = .raw (.ref p) := by rw [nth_sth_ne n2, nth_sth_ne n1]; exact nth_sth_eq ll1
    have noB : ∀ {F : Hp}, Same F H2 → F p = none := fun {F} s => by
      cases q : F p with
      | none => rfl
      | some u => have := s _ _ q; rw [h2] at this; cases this
    have own : OwnAt X.K ((((LR.leave (g1.setF il []) g').setF ik []).setF iv [])) (upd H2 p (.lst (gxs (outV out) (ls.map eV)))) none (.ref p) (.ls ((gos out ls).map eD)) [p] := by
      refine ⟨.l upd_same (by rw [gxs_eD]; exact eD_iss _) (by rw [gxs_eD, List.length_map, gos_len]; rw [List.length_map] at z; exact z), by simp, fun a m => ?_, fun _ q => by cases q⟩
      rw [List.mem_singleton.mp m]
      refine ⟨noB R4.ok.sb, fun q => ?_, .inl n0, pv.np⟩
      obtain ⟨⟨_, _, _, _, q⟩, _⟩ := R4.ok.pl p q
      rw [h2] at q; cases q
    have R6 := R5.unraw hraw own (R4.off h2)
    refine l.nx _ _ _ _ (le.trans ?_) R6 (hend hZ p)
    exact (((G.setF_le.trans (leave_le le')).trans G.setF_le).trans G.setF_le).trans G.setF_le
end LR
set_option Elab.async false
set_option maxRecDepth 100000
set_option linter.all false
set_option maxHeartbeats 4000000
namespace LR
open PySem PySem.Spec PyProof.Rows L2 GenW
/-! # a generator def with a keyword-only parameter, in the text -/
/-- dvs: what the parameters that are not written stand for -/
structure GenIn (K : PySem.W.Frag) (mg : Str → Option Value) (x : Str) (st : Stmt) (ps : List Str) (dvs : List V) : Prop where
  ex : ∃ (f : Addr) (fd : FuncData) (oc : Value) (od : Option Addr) (kV doc pm : Value) (an : Option Addr) (cdv ct : Value) (osl : Array (Option Value)) (ds : List Value),
    fd = PySem.W.fnOf x x (defArgs st) (defBody st) (defScope st) .none kV doc pm an cdv ct ∧ K.lookup f = some ⟨oc, od, .func fd, osl⟩ ∧ PySem.W.codeIn K cdv x = true ∧ mg x = some (.ref f) ∧ PySem.W.keepIn K (.ref f) = true ∧ Vals dvs ds ∧ Binds K fd ps ds
/-- one keyword-only parameter, None where it lacks -/
theorem GenIn.none1 {K : PySem.W.Frag} {mg : Str → Option Value} {x y : Str} {st : Stmt} {ps : List Str} {f D : Addr} {oc doc pm cdv ct : Value} {od an : Option Addr} {osl : Array (Option Value)} (n : Nat)
    (lk : K.lookup f = some ⟨oc, od, .func (PySem.W.fnOf x x (defArgs st) (defBody st) (defScope st) .none (.ref D) doc pm an cdv ct), osl⟩) (hcd : PySem.W.codeIn K cdv x = true) (hk : PySem.W.keepIn K (.ref f) = true) (hm : mg x = some (.ref f)) (hy : PySem.W.nsIn K D y = some (some .none)) (hn : n + 1 = ps.length)
    (h : ∀ (D : Addr) (doc pm : Value) (an : Option Addr) (cdv ct : Value) (us ks : List Value), us.length = n → ks.length = 1 →
      KwChain D ([y].zip ks) (bindArgs (PySem.W.fnOf x x (defArgs st) (defBody st) (defScope st) .none (.ref D) doc pm an cdv ct) ⟨us, []⟩) (ps.zip (us ++ ks))) : GenIn K mg x st ps [.non] := by
  have F : FunD K x x (defArgs st) (defBody st) (defScope st) [] [(y, V.non)] f (PySem.W.fnOf x x (defArgs st) (defBody st) (defScope st) .none (.ref D) doc pm an cdv ct) :=
    ⟨⟨oc, od, .none, .ref D, doc, pm, an, cdv, ct, osl, rfl, lk, hcd, .inl ⟨rfl, rfl⟩, .inr ⟨D, rfl, fun q hq => by rw [List.mem_singleton.mp hq]; exact ⟨_, hy, rfl⟩⟩⟩, hk⟩
  obtain ⟨ds, r, b⟩ := F.binds0 (ps := ps) n (by simp) hn h
  exact ⟨f, _, oc, od, .ref D, doc, pm, an, cdv, ct, osl, ds, rfl, lk, hcd, hm, hk, r, b⟩
/-- what its callers know -/
structure GCal (P : Program) (w : World) (K : PySem.W.Frag) (mg : Str → Option Value) (base : Heap) (j : Nat) (x : Str) (n : Nat) (dvs : List V) (fG : FG) : Prop where
  ex : ∃ (f : Addr) (fd : FuncData) (ps : List Str) (ds : List Value), GDef P w K mg base j f fd ps (spG K fG) ∧ mg x = some (.ref f) ∧ PySem.W.keepIn K (.ref f) = true ∧ Vals dvs ds ∧ Binds K fd ps ds ∧ ps.length = n
  len : ∀ as Ed out Z, fG as Ed out Z → as.length = n
theorem GenIn.dl {P : Program} {w : World} {K : PySem.W.Frag} {mg : Str → Option Value} {base : Heap} {j : Nat} {x : Str} {st : Stmt} {N ps : List Str} {dvs : List V} {fG : FG} (Dd : GenIn K mg x st ps dvs) (S : GScope N ps (defScope st)) (hnc : ∀ m, cellsFrom m (defScope st).names [] = []) (hl : ∀ as Ed out Z, fG as Ed out Z → as.length = ps.length) (hN : ps.length ≤ N.length)
    (hbody : ∀ (fa : Addr) (cdv : Value) (A : Around) (outer : List Env) (s : Shared) (H : Hp) (pn : List (Addr × Obj)) (lim : Nat) (out : Outs) (gE : G) (E : XK) (Ed : Er → Prop), Room j (A.deeper (envOfC x (defScope st) s.heap.objs.size fa cdv)) →
      ∃ d, G1 (gX P w K mg base N x (defScope st) fa cdv A outer s H E pn) lim (oOut (outV out)) (defBody st) (liftW1 K gE (fun cls dd _ H => E cls dd H) Ed d) ∧ ∀ as Z, fG as Ed out Z → out.length ≤ lim → d (fun k _ => k = out.length ∧ Z) (fun e _ => Ed e) (envOf as N.length)) : GCal P w K mg base (j + 1) x ps.length dvs fG := by
  obtain ⟨f, fd, oc, od, kV, doc, pm, an, cdv, ct, osl, ds, rfl, lk, hcd, hm, hk, r, b⟩ := Dd.ex
  exact ⟨⟨f, _, ps, ds, gdef_dl lk hcd S hnc (fun as Ed out Z h => by rw [hl as Ed out Z h]; exact hN) (hbody f cdv), hm, hk, r, b, rfl⟩, hl⟩
theorem qs_gforC {X : Cx} {W : WX} {j n ik iv il : Nat} {fG : FG} {x xk xv xl : Str} {e : Expr} {es : List Expr} {da : DA} {dvs : List V} {ad : List Ar} {x1 : Nat} {pos pos0 pos1 pos2 pos3 pos4 pos5 pos6 pos7 pos8 cpos : Pos}
    (c : GCal X.prog X.w X.K X.mg X.base j x n dvs fG) (hr : Room (j + 1) X.A) (hg : Gl X x) (hda : ∀ g, IsAs X.K g dvs ad) (tk : Takes X W) (ha : QA X W (e :: es) da) (hp : PassesOwn (model X.prog X.w) X.A X.env X.xe)
    (hN : X.N.Nodup) (nk : X.N[ik]? = some xk) (nv : X.N[iv]? = some xv) (nl : X.N[il]? = some xl) (lk : X.env.scope.names.lookup xk = some .local) (lv : X.env.scope.names.lookup xv = some .local) (ll : X.env.scope.names.lookup xl = some .local)
    (n1 : il ≠ ik := by decide) (n2 : il ≠ iv := by decide) (n3 : ik ≠ iv := by decide) (hc : X.calm = true := by rfl) (hst : X.env.frame = some X.env.locals ∧ X.stack = X.env :: X.outer := by exact ⟨rfl, rfl⟩)
    (dk : (xk == ("__debug__" : Str)) = false := by decide) (dv : (xv == ("__debug__" : Str)) = false := by decide) (dl : (xl == ("__debug__" : Str)) = false := by decide)
    (hdb : (x == ("__debug__" : Str)) = false := by decide) (he : starEach (e :: es) X.env = (false, eval e X.env) :: starEach es X.env := by rfl) (hpl : (backTo cpos (starEach es X.env)).any (·.1) = false := by rfl)
    (hs : ∀ z, foldedSetIterable (.Call (.Name x pos1) (e :: es) [] cpos) X.env z = pure z := by intro _; rfl)
    (hsw : swapsWith (.Name xv pos8) (some (.Subscript (.Name xl pos5) (.Name xk pos6) pos7)) pos4.line X.env = pure false := by rfl) :
    QS X W (.For (.Tuple [.Name xk pos2, .Name xv pos3] x1 pos0) (.Call (.Name x pos1) (e :: es) [] cpos) [.Assign [.Subscript (.Name xl pos5) (.Name xk pos6) pos7] (.Name xv pos8) pos4] [] pos) (dGFor X.K fG ad da ik iv il) := by
  obtain ⟨f, fd, ps, ds, GF, hm, hk, r, b, hn⟩ := c.ex
  exact qs_gfor GF hr hg hm hk b r hda (fun as Ed out Z h => (c.len as Ed out Z h).trans hn.symm) tk ha hp hc hst hN nk nv nl lk lv ll n1 n2 n3 dk dv dl hdb he hpl hs hsw
end LR
set_option Elab.async false
set_option maxRecDepth 100000
set_option linter.all false
namespace LR
open PySem PySem.W PySem.Calls PyProof.Rows
/-! # the head: the top's run over the heap as a tree -/
theorem ob_tree {K : Params → Frag} {as : List Addr} {e : ∀ P, as = (K P).map (·.1)} (s : SharedT) : as.map (HandSHeadRun.getT s) = (kHook K as e).obs s.abs :=
  List.map_congr_left fun a _ => HandSHeadRun.getT_eq s a
end LR
set_option Elab.async false
set_option maxRecDepth 100000
set_option linter.all false
set_option maxHeartbeats 4000000
namespace LR
open PySem PySem.Spec PyProof.Rows L2
def topS (i : Nat) : Stmt := PySem.Challenge.pw_ladderreach_k39_whole_held_exactly_if_to.main.body.getD i (.Pass ⟨0, 0, 0, 0⟩)
abbrev s_check_height : Stmt := topS 19
abbrev N_check_height : List Str := ["height"]
theorem sc_check_height : FnScope N_check_height ["height"] (defScope s_check_height) := ⟨rfl, rfl, rfl, by decide +kernel, rfl, by decide +kernel, by decide +kernel⟩
abbrev s_check_same_height : Stmt := topS 20
abbrev N_check_same_height : List Str := ["one", "other"]
theorem sc_check_same_height : FnScope N_check_same_height ["one", "other"] (defScope s_check_same_height) := ⟨rfl, rfl, rfl, by decide +kernel, rfl, by decide +kernel, by decide +kernel⟩
abbrev s_check_node : Stmt := topS 22
abbrev N_check_node : List Str := ["size", "node"]
theorem sc_check_node : FnScope N_check_node ["size", "node"] (defScope s_check_node) := ⟨rfl, rfl, rfl, by decide +kernel, rfl, by decide +kernel, by decide +kernel⟩
abbrev s_check_step : Stmt := topS 23
abbrev N_check_step : List Str := ["top", "step"]
theorem sc_check_step : FnScope N_check_step ["top", "step"] (defScope s_check_step) := ⟨rfl, rfl, rfl, by decide +kernel, rfl, by decide +kernel, by decide +kernel⟩
abbrev s_check_rank : Stmt := topS 24
abbrev N_check_rank : List Str := ["height", "rank"]
theorem sc_check_rank : FnScope N_check_rank ["height", "rank"] (defScope s_check_rank) := ⟨rfl, rfl, rfl, by decide +kernel, rfl, by decide +kernel, by decide +kernel⟩
abbrev s_check_row : Stmt := topS 25
abbrev N_check_row : List Str := ["height", "row", "most", "index", "level"]
theorem sc_check_row : FnScope N_check_row ["height", "row", "most"] (defScope s_check_row) := ⟨rfl, rfl, rfl, by decide +kernel, rfl, by decide +kernel, by decide +kernel⟩
abbrev s_check_placement : Stmt := topS 27
abbrev N_check_placement : List Str := ["game", "ladder", "placement", "node", "entry"]
theorem sc_check_placement : FnScope N_check_placement ["game", "ladder", "placement"] (defScope s_check_placement) := ⟨rfl, rfl, rfl, by decide +kernel, rfl, by decide +kernel, by decide +kernel⟩
abbrev s_is_allowed : Stmt := topS 28
abbrev N_is_allowed : List Str := ["ladder", "placement", "edge", "source", "rank", "target", "start", "end"]
theorem sc_is_allowed : FnScope N_is_allowed ["ladder", "placement", "edge"] (defScope s_is_allowed) := ⟨rfl, rfl, rfl, by decide +kernel, rfl, by decide +kernel, by decide +kernel⟩
abbrev s_is_fitting : Stmt := topS 29
abbrev N_is_fitting : List Str := ["game", "ladder", "placement", "node", "good", "edge"]
theorem sc_is_fitting : FnScope N_is_fitting ["game", "ladder", "placement", "node"] (defScope s_is_fitting) := ⟨rfl, rfl, rfl, by decide +kernel, rfl, by decide +kernel, by decide +kernel⟩
abbrev s_misfits : Stmt := topS 31
abbrev N_misfits : List Str := ["game", "ladder", "placement", "node"]
theorem sc_misfits : FnScope N_misfits ["game", "ladder", "placement"] (defScope s_misfits) := ⟨rfl, rfl, rfl, by decide +kernel, rfl, by decide +kernel, by decide +kernel⟩
abbrev s_lift : Stmt := topS 32
abbrev N_lift : List Str := ["game", "ladder", "placement", "node", "lifted"]
theorem sc_lift : FnScope N_lift ["game", "ladder", "placement", "node"] (defScope s_lift) := ⟨rfl, rfl, rfl, by decide +kernel, rfl, by decide +kernel, by decide +kernel⟩
abbrev s_climb : Stmt := topS 34
abbrev N_climb : List Str := ["game", "ladder", "placement", "node", "entry"]
theorem sc_climb : FnScope N_climb ["game", "ladder"] (defScope s_climb) := ⟨rfl, rfl, rfl, by decide +kernel, rfl, by decide +kernel, by decide +kernel⟩
abbrev s_told_nodes : Stmt := topS 35
abbrev N_told_nodes : List Str := ["game", "ladder", "node", "entry"]
theorem sc_told_nodes : FnScope N_told_nodes ["game", "ladder"] (defScope s_told_nodes) := ⟨rfl, rfl, rfl, by decide +kernel, rfl, by decide +kernel, by decide +kernel⟩
abbrev s_check_count : Stmt := topS 21
abbrev N_check_count : List Str := ["count", "most"]
theorem sc_check_count : FnScope N_check_count ["count", "most"] (defScope s_check_count) := ⟨rfl, rfl, rfl, by decide +kernel, rfl, by decide +kernel, by decide +kernel⟩
abbrev s__check_edges : Stmt := topS 38
abbrev N__check_edges : List Str := ["height", "size", "edges", "seen", "index", "edge", "source", "rank", "target"]
theorem sc__check_edges : FnScope N__check_edges ["height", "size", "edges"] (defScope s__check_edges) := ⟨rfl, rfl, rfl, by decide +kernel, rfl, by decide +kernel, by decide +kernel⟩
abbrev s__check_owners : Stmt := topS 41
abbrev N__check_owners : List Str := ["owners", "owner"]
theorem sc__check_owners : FnScope N__check_owners ["owners"] (defScope s__check_owners) := ⟨rfl, rfl, rfl, by decide +kernel, rfl, by decide +kernel, by decide +kernel⟩
abbrev s__check_dead_ends : Stmt := topS 42
abbrev N__check_dead_ends : List Str := ["size", "edges", "sources", "edge", "node"]
theorem sc__check_dead_ends : FnScope N__check_dead_ends ["size", "edges"] (defScope s__check_dead_ends) := ⟨rfl, rfl, rfl, by decide +kernel, rfl, by decide +kernel, by decide +kernel⟩
abbrev s__counts_from : Stmt := topS 49
abbrev N__counts_from : List Str := ["level", "levels", "counts", "other"]
theorem sc__counts_from : FnScope N__counts_from ["level", "levels"] (defScope s__counts_from) := ⟨rfl, rfl, rfl, by decide +kernel, rfl, by decide +kernel, by decide +kernel⟩
abbrev s_next_marks : Stmt := topS 44
abbrev N_next_marks : List Str := ["levels", "marked", "level", "found", "within", "equal", "step", "between"]
theorem sc_next_marks : FnScope N_next_marks ["levels", "marked", "level"] (defScope s_next_marks) := ⟨rfl, rfl, rfl, by decide +kernel, rfl, by decide +kernel, by decide +kernel⟩
abbrev s_last_marks : Stmt := topS 45
abbrev N_last_marks : List Str := ["levels", "row", "marked", "level"]
theorem sc_last_marks : FnScope N_last_marks ["levels", "row"] (defScope s_last_marks) := ⟨rfl, rfl, rfl, by decide +kernel, rfl, by decide +kernel, by decide +kernel⟩
abbrev s_holds : Stmt := topS 46
abbrev N_holds : List Str := ["levels", "row"]
theorem sc_holds : FnScope N_holds ["levels", "row"] (defScope s_holds) := ⟨rfl, rfl, rfl, by decide +kernel, rfl, by decide +kernel, by decide +kernel⟩
abbrev s_ends : Stmt := topS 51
abbrev N_ends : List Str := ["ladder", "row"]
theorem sc_ends : FnScope N_ends ["ladder", "row"] (defScope s_ends) := ⟨rfl, rfl, rfl, by decide +kernel, rfl, by decide +kernel, by decide +kernel⟩
abbrev s_hold : Stmt := topS 52
abbrev N_hold : List Str := ["ladder", "row", "marks", "steps", "level", "marked"]
theorem sc_hold : FnScope N_hold ["ladder", "row"] (defScope s_hold) := ⟨rfl, rfl, rfl, by decide +kernel, rfl, by decide +kernel, by decide +kernel⟩
abbrev s__marks_from_the_back : Stmt := topS 53
abbrev N__marks_from_the_back : List Str := ["ladder", "row", "steps", "marks", "level", "marked", "step"]
theorem sc__marks_from_the_back : FnScope N__marks_from_the_back ["ladder", "row"] (defScope s__marks_from_the_back) := ⟨rfl, rfl, rfl, by decide +kernel, rfl, by decide +kernel, by decide +kernel⟩
abbrev s__next_step : Stmt := topS 54
abbrev N__next_step : List Str := ["ladder", "start", "level", "marked", "step"]
theorem sc__next_step : FnScope N__next_step ["ladder", "start", "level", "marked"] (defScope s__next_step) := ⟨rfl, rfl, rfl, by decide +kernel, rfl, by decide +kernel, by decide +kernel⟩
abbrev s_row_game : Stmt := topS 57
abbrev N_row_game : List Str := ["ladder", "edges", "step", "level"]
theorem sc_row_game : FnScope N_row_game ["ladder"] (defScope s_row_game) := ⟨rfl, rfl, rfl, by decide +kernel, rfl, by decide +kernel, by decide +kernel⟩
abbrev s_pool : Stmt := topS 59
abbrev N_pool : List Str := ["script", "k", "cell"]
theorem sc_pool : FnScope N_pool ["script", "k"] (defScope s_pool) := ⟨rfl, rfl, rfl, by decide +kernel, rfl, by decide +kernel, by decide +kernel⟩
abbrev s_draw : Stmt := topS 60
abbrev N_draw : List Str := ["pool", "many", "value", "mixed"]
theorem sc_draw : FnScope N_draw ["pool", "many"] (defScope s_draw) := ⟨rfl, rfl, rfl, by decide +kernel, rfl, by decide +kernel, by decide +kernel⟩
abbrev s_levels : Stmt := topS 61
abbrev N_levels : List Str := ["pool", "height", "limit", "size", "index"]
theorem sc_levels : FnScope N_levels ["pool", "height", "limit"] (defScope s_levels) := ⟨rfl, rfl, rfl, by decide +kernel, rfl, by decide +kernel, by decide +kernel⟩
abbrev s_row_edges : Stmt := topS 62
abbrev N_row_edges : List Str := ["levels", "edges", "k"]
theorem sc_row_edges : FnScope N_row_edges ["levels"] (defScope s_row_edges) := ⟨rfl, rfl, rfl, by decide +kernel, rfl, by decide +kernel, by decide +kernel⟩
abbrev s_number : Stmt := topS 63
abbrev N_number : List Str := ["value"]
theorem sc_number : FnScope N_number ["value"] (defScope s_number) := ⟨rfl, rfl, rfl, by decide +kernel, rfl, by decide +kernel, by decide +kernel⟩
abbrev s_same : Stmt := topS 64
abbrev N_same : List Str := ["answer", "due", "k"]
theorem sc_same : FnScope N_same ["answer", "due"] (defScope s_same) := ⟨rfl, rfl, rfl, by decide +kernel, rfl, by decide +kernel, by decide +kernel⟩
abbrev s_gap : Stmt := topS 65
abbrev N_gap : List Str := ["levels", "one", "other", "greatest", "k"]
theorem sc_gap : FnScope N_gap ["levels", "one", "other"] (defScope s_gap) := ⟨rfl, rfl, rfl, by decide +kernel, rfl, by decide +kernel, by decide +kernel⟩
abbrev s_allows : Stmt := topS 66
abbrev N_allows : List Str := ["levels", "source", "rank", "target", "gap"]
theorem sc_allows : FnScope N_allows ["levels", "source", "rank", "target"] (defScope s_allows) := ⟨rfl, rfl, rfl, by decide +kernel, rfl, by decide +kernel, by decide +kernel⟩
abbrev s_last_steps : Stmt := topS 67
abbrev N_last_steps : List Str := ["levels", "row", "found", "level", "later", "step", "good", "before"]
theorem sc_last_steps : FnScope N_last_steps ["levels", "row"] (defScope s_last_steps) := ⟨rfl, rfl, rfl, by decide +kernel, rfl, by decide +kernel, by decide +kernel⟩
abbrev s_fits : Stmt := topS 68
abbrev N_fits : List Str := ["letters", "edges", "levels", "places", "node", "count", "good", "edge", "goal"]
theorem sc_fits : FnScope N_fits ["letters", "edges", "levels", "places", "node"] (defScope s_fits) := ⟨rfl, rfl, rfl, by decide +kernel, rfl, by decide +kernel, by decide +kernel⟩
abbrev s_lw_climb : Stmt := topS 69
abbrev N_lw_climb : List Str := ["letters", "edges", "levels", "places", "node", "turn", "bad"]
theorem sc_lw_climb : FnScope N_lw_climb ["letters", "edges", "levels"] (defScope s_lw_climb) := ⟨rfl, rfl, rfl, by decide +kernel, rfl, by decide +kernel, by decide +kernel⟩
abbrev s_gaps : Stmt := topS 70
abbrev N_gaps : List Str := ["levels", "steps", "k"]
theorem sc_gaps : FnScope N_gaps ["levels", "steps"] (defScope s_gaps) := ⟨rfl, rfl, rfl, by decide +kernel, rfl, by decide +kernel, by decide +kernel⟩
abbrev s_any_row : Stmt := topS 71
abbrev N_any_row : List Str := ["pool", "height", "levels", "kind", "limit", "steps", "step", "row", "place"]
theorem sc_any_row : FnScope N_any_row ["pool", "height", "levels"] (defScope s_any_row) := ⟨rfl, rfl, rfl, by decide +kernel, rfl, by decide +kernel, by decide +kernel⟩
abbrev s_due_game : Stmt := topS 72
abbrev N_due_game : List Str := ["game", "height", "letters", "row"]
theorem sc_due_game : FnScope N_due_game ["game", "height", "letters", "row"] (defScope s_due_game) := ⟨rfl, rfl, rfl, by decide +kernel, rfl, by decide +kernel, by decide +kernel⟩
abbrev s_told_at : Stmt := topS 73
abbrev N_told_at : List Str := ["game", "ladder", "places", "answer", "found", "node"]
theorem sc_told_at : FnScope N_told_at ["game", "ladder", "places"] (defScope s_told_at) := ⟨rfl, rfl, rfl, by decide +kernel, rfl, by decide +kernel, by decide +kernel⟩
abbrev s_held_at : Stmt := topS 74
abbrev N_held_at : List Str := ["ladder", "levels", "row", "places", "last", "handed", "place", "k"]
theorem sc_held_at : FnScope N_held_at ["ladder", "levels", "row", "places", "last"] (defScope s_held_at) := ⟨rfl, rfl, rfl, by decide +kernel, rfl, by decide +kernel, by decide +kernel⟩
abbrev s_told_if_held : Stmt := topS 75
abbrev N_told_if_held : List Str := ["height", "levels", "row", "last", "ladder", "size", "game", "places"]
theorem sc_told_if_held : FnScope N_told_if_held ["height", "levels", "row", "last"] (defScope s_told_if_held) := ⟨rfl, rfl, rfl, by decide +kernel, rfl, by decide +kernel, by decide +kernel⟩
abbrev s_given : Stmt := topS 76
abbrev N_given : List Str := ["height", "levels", "row", "node", "letters", "game", "places", "bound", "k"]
theorem sc_given : FnScope N_given ["height", "levels", "row", "node"] (defScope s_given) := ⟨rfl, rfl, rfl, by decide +kernel, rfl, by decide +kernel, by decide +kernel⟩
abbrev s_law : Stmt := topS 77
abbrev N_law : List Str := ["script", "pool", "height", "limit", "levels", "row", "last", "back", "first"]
theorem sc_law : FnScope N_law ["script"] (defScope s_law) := ⟨rfl, rfl, rfl, by decide +kernel, rfl, by decide +kernel, by decide +kernel⟩
abbrev s_lifts : Stmt := topS 33
abbrev N_lifts : List Str := ["game", "ladder", "start", "placement", "waiting", "node"]
theorem sc_lifts : GScope N_lifts ["game", "ladder", "start"] (defScope s_lifts) := ⟨rfl, rfl, rfl, by decide +kernel, rfl, by decide +kernel, by decide +kernel⟩
abbrev s_W_init : Stmt := inClass (topS 37) 2
abbrev N_W_init : List Str := ["self", "height", "size", "edges"]
theorem sc_W_init : FnScope N_W_init ["self", "height", "size", "edges"] (defScope s_W_init) := ⟨rfl, rfl, rfl, by decide +kernel, rfl, by decide +kernel, by decide +kernel⟩
abbrev s_W_out : Stmt := inClass (topS 37) 4
abbrev N_W_out : List Str := ["self", "node", "edge"]
theorem sc_W_out : FnScope N_W_out ["self", "node"] (defScope s_W_out) := ⟨rfl, rfl, rfl, by decide +kernel, rfl, by decide +kernel, by decide +kernel⟩
abbrev s_G_init : Stmt := inClass (topS 40) 0
abbrev N_G_init : List Str := ["self", "height", "owners", "edges"]
theorem csc_G_init : CScope N_G_init ["self", "height", "owners", "edges"] (defScope s_G_init) := ⟨rfl, rfl, rfl, by decide +kernel, rfl, by decide +kernel, by decide +kernel, by decide +kernel⟩
abbrev s_G_out : Stmt := inClass (topS 40) 3
abbrev N_G_out : List Str := ["self", "node"]
theorem csc_G_out : CScope N_G_out ["self", "node"] (defScope s_G_out) := ⟨rfl, rfl, rfl, by decide +kernel, rfl, by decide +kernel, by decide +kernel, by decide +kernel⟩
abbrev s_G_with_owner : Stmt := inClass (topS 40) 7
abbrev N_G_with_owner : List Str := ["self", "node", "owner", "owners"]
theorem sc_G_with_owner : FnScope N_G_with_owner ["self", "node", "owner"] (defScope s_G_with_owner) := ⟨rfl, rfl, rfl, by decide +kernel, rfl, by decide +kernel, by decide +kernel⟩
abbrev s_L_init : Stmt := inClass (topS 48) 1
abbrev N_L_init : List Str := ["self", "height", "levels", "level"]
theorem sc_L_init : FnScope N_L_init ["self", "height", "levels"] (defScope s_L_init) := ⟨rfl, rfl, rfl, by decide +kernel, rfl, by decide +kernel, by decide +kernel⟩
abbrev s_L_allows : Stmt := inClass (topS 48) 10
abbrev N_L_allows : List Str := ["self", "source", "rank", "target"]
theorem sc_L_allows : FnScope N_L_allows ["self", "source", "rank", "target"] (defScope s_L_allows) := ⟨rfl, rfl, rfl, by decide +kernel, rfl, by decide +kernel, by decide +kernel⟩
abbrev s_Llets : Stmt := inClass (topS 48) 15
abbrev N_Llets : List Str := ["self", "source", "rank", "target", "counts"]
theorem sc_Llets : FnScope N_Llets ["self", "source", "rank", "target"] (defScope s_Llets) := ⟨rfl, rfl, rfl, by decide +kernel, rfl, by decide +kernel, by decide +kernel⟩
abbrev s_L_gap : Stmt := inClass (topS 48) 8
abbrev N_L_gap : List Str := ["self", "one", "other"]
theorem sc_L_gap : FnScope N_L_gap ["self", "one", "other"] (defScope s_L_gap) := ⟨rfl, rfl, rfl, by decide +kernel, rfl, by decide +kernel, by decide +kernel⟩
abbrev s_L_contains : Stmt := inClass (topS 48) 5
abbrev N_L_contains : List Str := ["self", "row"]
theorem sc_L_contains : FnScope N_L_contains ["self", "row"] (defScope s_L_contains) := ⟨rfl, rfl, rfl, by decide +kernel, rfl, by decide +kernel, by decide +kernel⟩
abbrev s_NoSuchNode_init : Stmt := inClass (topS 14) 0
abbrev N_NoSuchNode_init : List Str := ["self", "node"]
theorem csc_NoSuchNode_init : CScope N_NoSuchNode_init ["self", "node"] (defScope s_NoSuchNode_init) := ⟨rfl, rfl, rfl, by decide +kernel, rfl, by decide +kernel, by decide +kernel, by decide +kernel⟩
abbrev s_BadPlacement_init : Stmt := inClass (topS 17) 0
abbrev N_BadPlacement_init : List Str := ["self", "node"]
theorem csc_BadPlacement_init : CScope N_BadPlacement_init ["self", "node"] (defScope s_BadPlacement_init) := ⟨rfl, rfl, rfl, by decide +kernel, rfl, by decide +kernel, by decide +kernel, by decide +kernel⟩
abbrev s_NoSuchStep_init : Stmt := inClass (topS 15) 0
structure Cs where
  Web : Addr
  Game : Addr
  Ladder : Addr
  NoSuchNode : Addr
  BadPlacement : Addr
  NoSuchStep : Addr
  TooLarge : Addr
  HeightMismatch : Addr
  BadSize : Addr
structure Txt (P : Program) (K : PySem.W.Frag) (mg : Str → Option Value) (ζ : Cs) : Prop where
  n_len : mg "len" = none
  n_abs : mg "abs" = none
  n_max : mg "max" = none
  n_min : mg "min" = none
  n_isinstance : mg "isinstance" = none
  n_int : mg "int" = none
  n_bool : mg "bool" = none
  n_str : mg "str" = none
  n_list : mg "list" = none
  n_tuple : mg "tuple" = none
  n_range : mg "range" = none
  n_enumerate : mg "enumerate" = none
  n_reversed : mg "reversed" = none
  n_zip : mg "zip" = none
  n_set : mg "set" = none
  n_sorted : mg "sorted" = none
  n_any : mg "any" = none
  n_all : mg "all" = none
  n_ValueError : mg "ValueError" = none
  objc : ObjC K
  d_check_height : DefIn K mg "check_height" s_check_height ["height"]
  d_check_same_height : DefIn K mg "check_same_height" s_check_same_height ["one", "other"]
  d_check_node : DefIn K mg "check_node" s_check_node ["size", "node"]
  d_check_step : DefIn K mg "check_step" s_check_step ["top", "step"]
  d_check_rank : DefIn K mg "check_rank" s_check_rank ["height", "rank"]
  d_check_row : DefIn K mg "check_row" s_check_row ["height", "row", "most"]
  d_check_placement : DefIn K mg "check_placement" s_check_placement ["game", "ladder", "placement"]
  d_is_allowed : DefIn K mg "is_allowed" s_is_allowed ["ladder", "placement", "edge"]
  d_is_fitting : DefIn K mg "is_fitting" s_is_fitting ["game", "ladder", "placement", "node"]
  d_misfits : DefIn K mg "misfits" s_misfits ["game", "ladder", "placement"]
  d_lift : DefIn K mg "lift" s_lift ["game", "ladder", "placement", "node"]
  d_climb : DefIn K mg "climb" s_climb ["game", "ladder"]
  d_told_nodes : DefIn K mg "told_nodes" s_told_nodes ["game", "ladder"]
  d_check_count : DefIn K mg "check_count" s_check_count ["count", "most"]
  d__check_edges : DefIn K mg "_check_edges" s__check_edges ["height", "size", "edges"]
  d__check_owners : DefIn K mg "_check_owners" s__check_owners ["owners"]
  d__check_dead_ends : DefIn K mg "_check_dead_ends" s__check_dead_ends ["size", "edges"]
  d__counts_from : DefIn K mg "_counts_from" s__counts_from ["level", "levels"]
  d_next_marks : DefIn K mg "next_marks" s_next_marks ["levels", "marked", "level"]
  d_last_marks : DefIn K mg "last_marks" s_last_marks ["levels", "row"]
  d_holds : DefIn K mg "holds" s_holds ["levels", "row"]
  d_ends : DefIn K mg "ends" s_ends ["ladder", "row"]
  d_hold : DefIn K mg "hold" s_hold ["ladder", "row"]
  d__marks_from_the_back : DefIn K mg "_marks_from_the_back" s__marks_from_the_back ["ladder", "row"]
  d__next_step : DefIn K mg "_next_step" s__next_step ["ladder", "start", "level", "marked"]
  d_row_game : DefIn K mg "row_game" s_row_game ["ladder"]
  d_pool : DefIn K mg "_law_pool" s_pool ["script", "k"]
  d_draw : DefIn K mg "_law_draw" s_draw ["pool", "many"]
  d_levels : DefIn K mg "_law_levels" s_levels ["pool", "height", "limit"]
  d_row_edges : DefIn K mg "_law_row_edges" s_row_edges ["levels"]
  d_number : DefIn K mg "_law_number" s_number ["value"]
  d_same : DefIn K mg "_law_same" s_same ["answer", "due"]
  d_gap : DefIn K mg "_law_gap" s_gap ["levels", "one", "other"]
  d_allows : DefIn K mg "_law_allows" s_allows ["levels", "source", "rank", "target"]
  d_last_steps : DefIn K mg "_law_last_steps" s_last_steps ["levels", "row"]
  d_fits : DefIn K mg "_law_fits" s_fits ["letters", "edges", "levels", "places", "node"]
  d_lw_climb : DefIn K mg "_law_climb" s_lw_climb ["letters", "edges", "levels"]
  d_gaps : DefIn K mg "_law_gaps" s_gaps ["levels", "steps"]
  d_any_row : DefIn K mg "_law_any_row" s_any_row ["pool", "height", "levels"]
  d_due_game : DefIn K mg "_law_due_game" s_due_game ["game", "height", "letters", "row"]
  d_told_at : DefIn K mg "_law_told_at" s_told_at ["game", "ladder", "places"]
  d_held_at : DefIn K mg "_law_held_at" s_held_at ["ladder", "levels", "row", "places", "last"]
  d_told_if_held : DefIn K mg "_law_told_if_held" s_told_if_held ["height", "levels", "row", "last"]
  d_given : DefIn K mg "_law_given" s_given ["height", "levels", "row", "node"]
  d_law : DefIn K mg "law" s_law ["script"]
  d_lifts : GenIn K mg "lifts" s_lifts ["game", "ladder", "start"] [.non]
  cl_Web : Cls K ζ.Web
  mg_Web : mg "Web" = some (.ref ζ.Web)
  na_Web_height : NoAttr K ζ.Web "height"
  na_Web_size : NoAttr K ζ.Web "size"
  na_Web_edges : NoAttr K ζ.Web "edges"
  mk_Web : MakIn K mg "Web" ζ.Web "Web.__init__" s_W_init ["self", "height", "size", "edges"]
  mt_W_out : MetIn K ζ.Web "out" "Web.out" s_W_out ["self", "node"]
  cv_Web_MOST_NODES : ∃ mc u, ClX.CRead K ζ.Web mc ∧ ClX.CVal K ζ.Web mc "MOST_NODES" (.int 9) u
  cv_Web_MOST_EDGES : ∃ mc u, ClX.CRead K ζ.Web mc ∧ ClX.CVal K ζ.Web mc "MOST_EDGES" (.int 63) u
  cl_Game : Cls K ζ.Game
  mg_Game : mg "Game" = some (.ref ζ.Game)
  na_Game_height : NoAttr K ζ.Game "height"
  na_Game_size : NoAttr K ζ.Game "size"
  na_Game_edges : NoAttr K ζ.Game "edges"
  na_Game_owners : NoAttr K ζ.Game "owners"
  mk_Game : MakInC P K mg "Game" ζ.Game "Game.__init__" s_G_init ["self", "height", "owners", "edges"]
  mt_G_out : MetInC P K mg ζ.Game "out" "Game.out" s_G_out ["self", "node"]
  mt_G_with_owner : MetIn K ζ.Game "with_owner" "Game.with_owner" s_G_with_owner ["self", "node", "owner"]
  cl_Ladder : Cls K ζ.Ladder
  mg_Ladder : mg "Ladder" = some (.ref ζ.Ladder)
  na_Ladder_height : NoAttr K ζ.Ladder "height"
  na_Ladder_levels : NoAttr K ζ.Ladder "levels"
  na_Ladder_top : NoAttr K ζ.Ladder "top"
  na_Ladder__counts : NoAttr K ζ.Ladder "_counts"
  mk_Ladder : MakIn K mg "Ladder" ζ.Ladder "Ladder.__init__" s_L_init ["self", "height", "levels"]
  mt_L_allows : MetIn K ζ.Ladder "allows" "Ladder.allows" s_L_allows ["self", "source", "rank", "target"]
  mt_Llets : MetIn K ζ.Ladder "_lets" "Ladder._lets" s_Llets ["self", "source", "rank", "target"]
  mt_L_gap : MetIn K ζ.Ladder "gap" "Ladder.gap" s_L_gap ["self", "one", "other"]
  mt_L_contains : MetIn K ζ.Ladder "__contains__" "Ladder.__contains__" s_L_contains ["self", "row"]
  cv_Ladder_MOST_LEVELS : ∃ mc u, ClX.CRead K ζ.Ladder mc ∧ ClX.CVal K ζ.Ladder mc "MOST_LEVELS" (.int 24) u
  ai_Game : PySem.W.findIn K (.ref ζ.Game) "__class__" = some (some (.builtin "object.__class__"))
  mo_Game : PySem.W.mroIn K ζ.Game (.type "object") = some true
  kit_Game_Game : PySem.W.kitOne K (.ref ζ.Game) (.ref ζ.Game) = some true
  su_Game_init : SupAt K ζ.Game ζ.Game "__init__" "Web.__init__" "__init__" s_W_init ["self", "height", "size", "edges"]
  su_Game_out : SupAt K ζ.Game ζ.Game "out" "Web.out" "out" s_W_out ["self", "node"]
  e_NoSuchNode : ErrIn P K mg "NoSuchNode" ζ.NoSuchNode "NoSuchNode.__init__" s_NoSuchNode_init "node"
  mg_NoSuchNode : mg "NoSuchNode" = some (.ref ζ.NoSuchNode)
  e_BadPlacement : ErrIn P K mg "BadPlacement" ζ.BadPlacement "BadPlacement.__init__" s_BadPlacement_init "node"
  mg_BadPlacement : mg "BadPlacement" = some (.ref ζ.BadPlacement)
  e_NoSuchStep : ErrIn P K mg "NoSuchStep" ζ.NoSuchStep "NoSuchStep.__init__" s_NoSuchStep_init "step"
  mg_NoSuchStep : mg "NoSuchStep" = some (.ref ζ.NoSuchStep)
  mg_TooLarge : mg "TooLarge" = some (.ref ζ.TooLarge)
  r_TooLarge : RseIn K mg "TooLarge" ζ.TooLarge
  mg_HeightMismatch : mg "HeightMismatch" = some (.ref ζ.HeightMismatch)
  r_HeightMismatch : RseIn K mg "HeightMismatch" ζ.HeightMismatch
  mg_BadSize : mg "BadSize" = some (.ref ζ.BadSize)
  r_BadSize : RseIn K mg "BadSize" ζ.BadSize
  gi__MOST_LEVELS : ∃ u, mg "_MOST_LEVELS" = some u ∧ RelV (.int 8) u
  ns_HeightMismatch : PySem.W.subIn K (.ref ζ.HeightMismatch) (.type "StopIteration") = some false
end LR
set_option Elab.async false
set_option maxRecDepth 100000
set_option linter.all false
set_option maxHeartbeats 4000000
namespace LR
open PySem PySem.Spec PyProof.Rows L2
section
variable {P : Program} {w : World} {K : PySem.W.Frag} {mg : Str → Option Value} {base : Heap} {ζ : Cs}
theorem err_NoSuchNode (T : Txt P K mg ζ) : ErrOk P w K mg base "NoSuchNode" ζ.NoSuchNode "node" := by
  refine T.e_NoSuchNode.ok csc_NoSuchNode_init (fun f cc cda fd A outer s H vs Q E S hr h => ⟨_, nss_cons (ns_expr (ne_supV (i := 0) S T.e_NoSuchNode.T T.e_NoSuchNode.sm T.e_NoSuchNode.mr T.e_NoSuchNode.sv (pa_cons (pe_joined (PJ.cons (pe_str) (PJ.cons (pe_fmt (pv 1)) (PJ.nil)))) pa_nil)))
   (nss_ps (pss_one (ps_ost (pv 0) (pv 1)))), ?_⟩)
  obtain ⟨a, v, rfl, ha, hv, kk⟩ := h
  refine ⟨a, rfl, ha, js_c (n := 0) (by decide) (Nat.zero_le _) (by decide +kernel) fun acc h => js_v (n := 1000) (by decide) h (log_small hv) (fun Q q => ⟨_, rfl, q⟩) fun acc h => ⟨by show 1 ≤ 1000; decide, ha, ?_⟩⟩
  exact ⟨_, rfl, _, rfl, a, ζ.NoSuchNode, rfl, T.e_NoSuchNode.T, T.e_NoSuchNode.no, .inl ⟨ha, kk⟩⟩
theorem err_BadPlacement (T : Txt P K mg ζ) : ErrOk P w K mg base "BadPlacement" ζ.BadPlacement "node" := by
  refine T.e_BadPlacement.ok csc_BadPlacement_init (fun f cc cda fd A outer s H vs Q E S hr h => ⟨_, nss_cons (ns_expr (ne_supV (i := 0) S T.e_BadPlacement.T T.e_BadPlacement.sm T.e_BadPlacement.mr T.e_BadPlacement.sv (pa_cons (pe_joined (PJ.cons (pe_str) (PJ.cons (pe_fmt (pv 1)) (PJ.nil)))) pa_nil)))
   (nss_ps (pss_one (ps_ost (pv 0) (pv 1)))), ?_⟩)
  obtain ⟨a, v, rfl, ha, hv, kk⟩ := h
  refine ⟨a, rfl, ha, js_c (n := 0) (by decide) (Nat.zero_le _) (by decide +kernel) fun acc h => js_v (n := 1000) (by decide) h (log_small hv) (fun Q q => ⟨_, rfl, q⟩) fun acc h => ⟨by show 1 ≤ 1000; decide, ha, ?_⟩⟩
  exact ⟨_, rfl, _, rfl, a, ζ.BadPlacement, rfl, T.e_BadPlacement.T, T.e_BadPlacement.no, .inl ⟨ha, kk⟩⟩
end
end LR
set_option Elab.async false
set_option maxRecDepth 100000
set_option linter.all false
set_option maxHeartbeats 4000000
namespace LR
open PySem PySem.Spec PyProof.Rows L2
section
variable {P : Program} {w : World} {K : PySem.W.Frag} {mg : Str → Option Value} {base : Heap} {ζ : Cs}
def spPool (K : PySem.W.Frag) : Sp := fun vs H Q _ => ∃ (a : Addr) (ns : List Int) (k : Nat), vs = [.ref a, .int k] ∧ SqL K H a (ns.map V.int) ∧ ∀ p x y z t, H p = none → Q (.ref p) (upd H p (.lst [.int x, .int y, .int z, .int t]))
theorem ok_pool (T : Txt P K mg ζ) : Cal P w K mg base 1 "_law_pool" (spPool K) := by
  refine T.d_pool.cal sc_pool (fun vs H Q E h => ?_) (fun f cdv A outer s H vs Q E hr h => ⟨_, pss_cons (ps_set (i := 2) sc_pool.nd rfl (Or.inl rfl) (pe_int))
 (pss_cons (ps_if (pt_cmpR op_lt (pv 1) (pe_callB call_len_seq (by rfl) T.n_len b_len (pa_cons (pv 0) (pa_nil))) (nomark _))
 (pss_one (ps_set (i := 2) sc_pool.nd rfl (Or.inl rfl) (pe_callB call_abs (by rfl) T.n_abs b_abs (pa_cons (pe_callTy call_int1 (by rfl) T.n_int b_int (pa_cons (pe_ix ix_list (pv 0) (pv 1) (fun _ _ => rfl)) (pa_nil))) (pa_nil)))))
 (pss_nil))
 (pss_cons (ps_if (pt_cmpR op_ge (pv 2) (pe_op op_pow (pe_int) (pe_int)) (nomark _))
 (pss_one (ps_ret (pe_lst (pa_cons (pe_int) (pa_cons (pv 2) (pa_cons (pe_int) (pa_cons (pe_op op_add (pv 1) (pe_int)) (pa_nil))))))))
 (pss_nil))
 (pss_one (ps_ret (pe_lst (pa_cons (pe_int) (pa_cons (pv 2) (pa_cons (pe_int) (pa_cons (pe_op op_add (pv 1) (pe_int)) (pa_nil)))))))))), ?_⟩)
  · obtain ⟨a, ns, k, rfl, _⟩ := h; rfl
  obtain ⟨a, ns, k, rfl, hS, kk⟩ := h
  refine ⟨_, rfl, _, rfl, a, _, rfl, .inl hS, _, _, rfl, rfl, _, rfl, ?_⟩
  refine ite2 (fun c => ?_) (fun _ => ?_)
  have hlt : k < ns.length := by
    have := of_decide_eq_true c
    rw [List.length_map] at this
    omega
  refine ⟨_, rfl, _, rfl, a, _, _, _, rfl, rfl, hS, atI_nat (v := V.int (ns[k])) (by rw [List.getElem?_map, List.getElem?_eq_getElem hlt]; rfl), .inl ⟨_, rfl, _, rfl, ?_⟩⟩
  all_goals
    refine ⟨_, rfl, _, _, rfl, rfl, ⟨by decide, by decide, by decide⟩, _, _, rfl, rfl, _, rfl, ?_⟩
    refine ite2 (fun _ => ?_) (fun _ => ?_)
    · exact ⟨_, rfl, _, rfl, _, _, rfl, rfl, by show 4 ≤ sizeLine; decide, fun p hp => kk p _ _ _ _ hp⟩
    · exact ⟨_, rfl, _, rfl, _, _, rfl, rfl, by show 4 ≤ sizeLine; decide, fun p hp => kk p _ _ _ _ hp⟩
end
end LR
set_option Elab.async false
set_option maxRecDepth 100000
set_option linter.all false
set_option maxHeartbeats 4000000
namespace LR
open PySem PySem.Spec PyProof.Rows L2
section
variable {P : Program} {w : World} {K : PySem.W.Frag} {mg : Str → Option Value} {base : Heap} {ζ : Cs}
def spDraw : Sp := fun vs H Q _ => ∃ (p : Addr) (many : Int), vs = [.ref p, .int many] ∧ IsPool H p ∧ 0 < many ∧ many < 1073741824 ∧ ∀ (v : Int) H', 0 ≤ v → v < many → Keep p H H' → IsPool H' p → Q (.int v) H'
theorem ok_draw (T : Txt P K mg ζ) : Cal P w K mg base 1 "_law_draw" spDraw := by
  refine T.d_draw.cal sc_draw (fun vs H Q E h => ?_) (fun f cdv A outer s H vs Q E hr h => ⟨_, pss_cons (ps_if (pt_cmpR op_eq (pe_ix ix_list (pv 0) (pe_int) (fun _ _ => rfl)) (pe_int) (nomark _))
 (pss_cons (ps_set (i := 2) sc_draw.nd rfl (Or.inl rfl) (pe_op op_mod (pe_callTy call_int1 (by rfl) T.n_int b_int (pa_cons (pe_ix ix_list (pv 0) (pe_int) (fun _ _ => rfl)) (pa_nil))) (pv 1)))
 (pss_cons (ps_asg (pe_op op_fdiv (pe_callTy call_int1 (by rfl) T.n_int b_int (pa_cons (pe_ix ix_list (pv 0) (pe_int) (fun _ _ => rfl)) (pa_nil))) (pv 1)) (pg_sub (pv 0) (pe_int) set_list))
 (pss_cons (ps_if (pt_cmpR op_eq (pe_ix ix_list (pv 0) (pe_int) (fun _ _ => rfl)) (pe_int) (nomark _))
 (pss_cons (ps_asg (pe_int) (pg_sub (pv 0) (pe_int) set_list))
 (pss_one (ps_asg (pv 2) (pg_sub (pv 0) (pe_int) set_list))))
 (pss_nil))
 (pss_one (ps_ret (pv 2))))))
 (pss_nil))
 (pss_cons (ps_asg (pe_op op_add (pe_ix ix_list (pv 0) (pe_int) (fun _ _ => rfl)) (pe_int)) (pg_sub (pv 0) (pe_int) set_list))
 (pss_cons (ps_set (i := 3) sc_draw.nd rfl (Or.inl rfl) (pe_op op_mod (pe_callTy call_int1 (by rfl) T.n_int b_int (pa_cons (pe_op op_add (pe_op op_add (pe_op op_add (pe_op op_mul (pe_ix ix_list (pv 0) (pe_int) (fun _ _ => rfl)) (pe_int)) (pe_op op_mul (pe_ix ix_list (pv 0) (pe_int) (fun _ _ => rfl)) (pe_int))) (pe_op op_mul (pe_ix ix_list (pv 0) (pe_int) (fun _ _ => rfl)) (pe_int))) (pe_int)) (pa_nil))) (pe_int)))
 (pss_cons (ps_set (i := 3) sc_draw.nd rfl (Or.inl rfl) (pe_op op_mod (pe_callTy call_int1 (by rfl) T.n_int b_int (pa_cons (pe_op op_add (pe_op op_add (pe_op op_mul (pv 3) (pv 3)) (pe_op op_mul (pe_ix ix_list (pv 0) (pe_int) (fun _ _ => rfl)) (pe_int))) (pe_ix ix_list (pv 0) (pe_int) (fun _ _ => rfl))) (pa_nil))) (pe_int)))
 (pss_cons (ps_set (i := 3) sc_draw.nd rfl (Or.inl rfl) (pe_op op_mod (pe_callTy call_int1 (by rfl) T.n_int b_int (pa_cons (pe_op op_add (pe_op op_mul (pv 3) (pv 3)) (pe_int)) (pa_nil))) (pe_int)))
 (pss_one (ps_ret (pe_op op_mod (pe_callTy call_int1 (by rfl) T.n_int b_int (pa_cons (pe_op op_fdiv (pv 3) (pe_int)) (pa_nil))) (pv 1)))))))), ?_⟩)
  · obtain ⟨a, ns, rfl, _⟩ := h; rfl
  obtain ⟨p, many, rfl, ⟨a, b, c, d, hp⟩, hm0, hm1, kk⟩ := h
  refine ⟨_, rfl, p, _, _, _, rfl, rfl, SqL.of hp, rfl, rfl, _, rfl, ?_⟩
  refine ite2 (fun _ => ?_) (fun _ => ?_)
  · refine ⟨_, rfl, p, _, _, _, rfl, rfl, SqL.of hp, rfl, .inl ⟨_, rfl, _, rfl, _, _, rfl, rfl, hm0, ?_⟩⟩
    refine ⟨_, rfl, p, _, _, _, rfl, rfl, SqL.of hp, rfl, .inl ⟨_, rfl, _, rfl, _, _, rfl, rfl, ⟨hm0, hm1⟩, _, rfl, p, _, _, _, rfl, rfl, hp, rfl, ?_⟩⟩
    refine ⟨_, rfl, p, _, _, _, rfl, rfl, SqL.of upd_same, rfl, rfl, _, rfl, ?_⟩
    refine ite2 (fun _ => ?_) (fun _ => ?_)
    · refine ⟨_, rfl, p, _, _, _, rfl, rfl, upd_same, rfl, ?_⟩
      refine ⟨_, rfl, _, rfl, p, _, _, _, rfl, rfl, upd_same, rfl, ?_⟩
      exact ⟨_, rfl, kk _ _ (Int.emod_nonneg _ (by omega)) (Int.emod_lt_of_pos _ hm0) (by rw [upd_upd, upd_upd]; exact Keep.refl.upd) (by rw [upd_upd, upd_upd]; exact IsPool.upd)⟩
    · exact ⟨_, rfl, kk _ _ (Int.emod_nonneg _ (by omega)) (Int.emod_lt_of_pos _ hm0) Keep.refl.upd IsPool.upd⟩
  · refine ⟨_, rfl, _, _, _, _, rfl, rfl, SqL.of hp, rfl, _, _, rfl, rfl, _, rfl, p, _, _, _, rfl, rfl, hp, rfl, ?_⟩
    refine ⟨_, rfl, _, _, _, _, rfl, rfl, SqL.of upd_same, rfl, _, _, rfl, rfl, .inr ⟨by decide, by decide⟩, _, rfl, _, _, _, _, rfl, rfl, SqL.of upd_same, rfl, _, _, rfl, rfl, .inr ⟨by decide, by decide⟩, _, _, rfl, rfl, _, rfl, _, _, _, _, rfl, rfl, SqL.of upd_same, rfl, _, _, rfl, rfl, .inr ⟨by decide, by decide⟩, _, _, rfl, rfl, _, _, rfl, rfl, .inl ⟨_, rfl, _, _, rfl, rfl, (by show (0:Int) < _; decide), ?_⟩⟩
    refine ⟨_, rfl, _, rfl, _, _, rfl, rfl, .inl ⟨Int.lt_of_lt_of_le (by decide) (Int.emod_nonneg _ (by decide)), Int.lt_trans (Int.emod_lt_of_pos _ (by decide)) (by decide)⟩, _, rfl, _, _, _, _, rfl, rfl, SqL.of upd_same, rfl, _, _, rfl, rfl, .inr ⟨by decide, by decide⟩, _, _, rfl, rfl, _, rfl, _, _, _, _, rfl, rfl, SqL.of upd_same, rfl, _, _, rfl, rfl, .inl ⟨_, rfl, _, _, rfl, rfl, (by show (0:Int) < _; decide), ?_⟩⟩
    refine ⟨_, rfl, _, rfl, _, _, rfl, rfl, .inl ⟨Int.lt_of_lt_of_le (by decide) (Int.emod_nonneg _ (by decide)), Int.lt_trans (Int.emod_lt_of_pos _ (by decide)) (by decide)⟩, _, _, rfl, rfl, .inl ⟨_, rfl, _, _, rfl, rfl, (by show (0:Int) < _; decide), ?_⟩⟩
    exact ⟨_, rfl, _, _, rfl, rfl, ⟨by decide, by decide⟩, .inl ⟨_, rfl, _, rfl, _, _, rfl, rfl, hm0, kk _ _ (Int.emod_nonneg _ (by omega)) (Int.emod_lt_of_pos _ hm0) Keep.refl.upd IsPool.upd⟩⟩
end
end LR
set_option Elab.async false
set_option maxRecDepth 100000
set_option linter.all false
set_option maxHeartbeats 4000000
namespace LR
open PySem PySem.Spec PyProof.Rows L2
section
variable {P : Program} {w : World} {K : PySem.W.Frag} {mg : Str → Option Value} {base : Heap} {ζ : Cs}
def spNumber : Sp := fun vs H Q _ => ∃ (x : V) (d : Dt), vs = [x] ∧ At H x d ∧ Q (.bl (isN d)) H
theorem ok_number (T : Txt P K mg ζ) : Cal P w K mg base 1 "_law_number" spNumber := by
  refine T.d_number.cal sc_number (fun vs H Q E h => ?_) (fun f cdv A outer s H vs Q E hr h => ⟨_, pss_one (ps_ret (pe_and (pe_callB call_isi (by rfl) T.n_isinstance b_isinstance (pa_cons (pv 0) (pa_cons (pe_bltn (v := .ty "int") (by rfl) T.n_int b_int rfl) (pa_nil)))) (pe_one (pe_not (pe_callB call_isi (by rfl) T.n_isinstance b_isinstance (pa_cons (pv 0) (pa_cons (pe_bltn (v := .ty "bool") (by rfl) T.n_bool b_bool rfl) (pa_nil)))))))), ?_⟩)
  · obtain ⟨x, d, rfl, _⟩ := h; rfl
  obtain ⟨x, d, rfl, a, kk⟩ := h
  refine ⟨_, rfl, _, _, _, _, _, rfl, .ty _, At.tyX a, kit_ty (kitI d), _, rfl, ite_b (fun c => ?_) (fun c => ?_)⟩
  · refine ⟨_, rfl, _, _, _, _, _, rfl, .ty _, At.tyX a, kit_ty (kitBo d), _, rfl, ?_⟩
    have e : (!isB d) = isN d := by cases d <;> first | rfl | cases c
    rw [e]; exact kk
  · have e : isN d = false := by cases d <;> first | rfl | cases c
    rw [← e]; exact kk
end
end LR
set_option Elab.async false
set_option maxRecDepth 100000
set_option linter.all false
set_option maxHeartbeats 4000000
namespace LR
open PySem PySem.Spec PyProof.Rows L2
section
variable {P : Program} {w : World} {K : PySem.W.Frag} {mg : Str → Option Value} {base : Heap} {ζ : Cs}
def spHeight : Sp := fun vs H Q _ => ∃ h : Int, vs = [.int h] ∧ (h = 1 ∨ h = 2 ∨ h = 3) ∧ ∀ H', Same H H' → Q .non H'
theorem ok_height (T : Txt P K mg ζ) : Cal P w K mg base 1 "check_height" spHeight := by
  refine T.d_check_height.cal sc_check_height (fun vs H Q E h => ?_) (fun f cdv A outer s H vs Q E hr h => ⟨_, pss_one (ps_if (pt_cmpR op_notIn_seq (pv 0) (pe_tup (pa_cons (pe_int) (pa_cons (pe_int) (pa_cons (pe_int) (pa_nil))))) rfl)
 (pss_never)
 (pss_nil)), ?_⟩)
  · obtain ⟨h, rfl, _⟩ := h; rfl
  obtain ⟨h, rfl, hh, kk⟩ := h
  refine ⟨_, rfl, (by show 3 ≤ sizeLine; decide), fun t ht => ?_⟩
  refine ⟨t, _, rfl, .inr (SqT.of upd_same), rfl, rfl, _, rfl, ?_⟩
  rcases hh with rfl | rfl | rfl <;> exact iteF (kk _ (same_new ht))
end
end LR
set_option Elab.async false
set_option maxRecDepth 100000
set_option linter.all false
set_option maxHeartbeats 4000000
namespace LR
open PySem PySem.Spec PyProof.Rows L2
section
variable {P : Program} {w : World} {K : PySem.W.Frag} {mg : Str → Option Value} {base : Heap} {ζ : Cs}
/-- the answer is the due one, in kind and value -/
def spSame (n : Nat) : Sp := fun vs H Q _ => ∃ (x y : V) (a d : Dt), vs = [x, y] ∧ At H x a ∧ At H y d ∧ dep d < n ∧ ∀ b : Bool, (b = true ↔ a = d) → Q (.bl b) H
theorem ok_same (T : Txt P K mg ζ) (n : Nat) : Cal P w K mg base (n + 2) "_law_same" (spSame n) := by
  have c_number : Cal P w K mg base 1 "_law_number" spNumber := ok_number T
  induction n with
  | zero =>
    refine T.d_same.cal sc_same (fun vs H Q E h => ?_) (fun f cdv A outer s H vs Q E hr h => ?_)
    · obtain ⟨x, y, a, d, rfl, _⟩ := h; rfl
    · obtain ⟨x, y, a, d, rfl, _, _, hn, _⟩ := h
      exact absurd hn (Nat.not_lt_zero _)
  | succ n ih =>
  have c_same := ih
  refine T.d_same.cal sc_same (fun vs H Q E h => ?_) (fun f cdv A outer s H vs Q E hr h => ⟨_, pss_cons (ps_if (PW.pt (pw_or (pt_val (pe_callB call_isi (by rfl) T.n_isinstance b_isinstance (pa_cons (pv 1) (pa_cons (pe_bltn (v := .ty "list") (by rfl) T.n_list b_list rfl) (pa_nil))))) (pw_or1 (pt_val (pe_callB call_isi (by rfl) T.n_isinstance b_isinstance (pa_cons (pv 1) (pa_cons (pe_bltn (v := .ty "tuple") (by rfl) T.n_tuple b_tuple rfl) (pa_nil))))))))
 (pss_cons (ps_if (PW.pt (pw_and (pt_val (pe_callB call_isi (by rfl) T.n_isinstance b_isinstance (pa_cons (pv 1) (pa_cons (pe_bltn (v := .ty "list") (by rfl) T.n_list b_list rfl) (pa_nil))))) (pw_and1 (pt_not (pt_val (pe_callB call_isi (by rfl) T.n_isinstance b_isinstance (pa_cons (pv 0) (pa_cons (pe_bltn (v := .ty "list") (by rfl) T.n_list b_list rfl) (pa_nil)))))))))
 (pss_one (ps_ret (pe_bl)))
 (pss_nil))
 (pss_cons (ps_if (PW.pt (pw_and (pt_val (pe_callB call_isi (by rfl) T.n_isinstance b_isinstance (pa_cons (pv 1) (pa_cons (pe_bltn (v := .ty "tuple") (by rfl) T.n_tuple b_tuple rfl) (pa_nil))))) (pw_and1 (pt_not (pt_val (pe_callB call_isi (by rfl) T.n_isinstance b_isinstance (pa_cons (pv 0) (pa_cons (pe_bltn (v := .ty "tuple") (by rfl) T.n_tuple b_tuple rfl) (pa_nil)))))))))
 (pss_one (ps_ret (pe_bl)))
 (pss_nil))
 (pss_cons (ps_if (pt_cmpR op_ne (pe_callB call_len_seq (by rfl) T.n_len b_len (pa_cons (pv 0) (pa_nil))) (pe_callB call_len_seq (by rfl) T.n_len b_len (pa_cons (pv 1) (pa_nil))) (nomark _))
 (pss_one (ps_ret (pe_bl)))
 (pss_nil))
 (pss_cons (ps_for PassesOwn.never rfl (pi_range1 rfl T.n_range (pa_cons (pe_callB call_len_seq (by rfl) T.n_len b_len (pa_cons (pv 1) (pa_nil))) (pa_nil))) (pg_name (i := 2) sc_same.nd rfl (Or.inl rfl))
 (pss_one (ps_if (pt_not (pt_val (pe_c c_same hr (by first | decide | omega) (by rfl) (pa_cons (pe_ix ix_seq (pv 0) (pv 2) (fun _ _ => rfl)) (pa_cons (pe_ix ix_seq (pv 1) (pv 2) (fun _ _ => rfl)) (pa_nil))))))
 (pss_one (ps_ret (pe_bl)))
 (pss_nil))))
 (pss_one (ps_ret (pe_bl)))))))
 (pss_nil))
 (pss_cons (ps_if (pt_cmpR op_isN (pv 1) (pe_non) (nomark _))
 (pss_one (ps_ret (pe_cmpR op_isN (pv 0) (pe_non) (nomark _))))
 (pss_nil))
 (pss_cons (ps_if (pt_val (pe_callB call_isi (by rfl) T.n_isinstance b_isinstance (pa_cons (pv 1) (pa_cons (pe_bltn (v := .ty "bool") (by rfl) T.n_bool b_bool rfl) (pa_nil)))))
 (pss_one (ps_ret (pe_and (pe_callB call_isi (by rfl) T.n_isinstance b_isinstance (pa_cons (pv 0) (pa_cons (pe_bltn (v := .ty "bool") (by rfl) T.n_bool b_bool rfl) (pa_nil)))) (pe_one (pe_cmpR op_eq (pv 0) (pv 1) (nomark _))))))
 (pss_nil))
 (pss_cons (ps_if (pt_val (pe_callB call_isi (by rfl) T.n_isinstance b_isinstance (pa_cons (pv 1) (pa_cons (pe_bltn (v := .ty "int") (by rfl) T.n_int b_int rfl) (pa_nil)))))
 (pss_one (ps_ret (pe_and (pe_c c_number hr (by first | decide | omega) (by rfl) (pa_cons (pv 0) (pa_nil))) (pe_one (pe_cmpR op_eq (pv 0) (pv 1) (nomark _))))))
 (pss_nil))
 (pss_one (ps_ret (pe_and (pe_callB call_isi (by rfl) T.n_isinstance b_isinstance (pa_cons (pv 0) (pa_cons (pe_bltn (v := .ty "str") (by rfl) T.n_str b_str rfl) (pa_nil)))) (pe_one (pe_cmpR op_eq (pv 0) (pv 1) (nomark _))))))))), ?_⟩)
  · obtain ⟨x, y, a, d, rfl, _⟩ := h; rfl
  obtain ⟨x, y, a, d, rfl, ha, hd, hn, kk⟩ := h
  cases hd with
  | non =>
    refine ⟨_, rfl, _, _, _, _, _, rfl, .ty _, At.tyX .non, kit_ty (kitL _), _, rfl, iteF ⟨_, rfl, _, _, _, _, _, rfl, .ty _, At.tyX .non, kit_ty (kitU _), _, rfl, iteF ?_⟩⟩
    refine ⟨_, rfl, rfl, _, rfl, iteT ⟨_, rfl, rfl, kk _ ?_⟩⟩
    cases ha <;> simp
  | bl b =>
    refine ⟨_, rfl, _, _, _, _, _, rfl, .ty _, At.tyX (.bl _), kit_ty (kitL _), _, rfl, iteF ⟨_, rfl, _, _, _, _, _, rfl, .ty _, At.tyX (.bl _), kit_ty (kitU _), _, rfl, iteF ?_⟩⟩
    refine ⟨_, rfl, rfl, _, rfl, iteF ⟨_, rfl, _, _, _, _, _, rfl, .ty _, At.tyX (.bl _), kit_ty (kitBo _), _, rfl, iteT ?_⟩⟩
    refine ⟨_, rfl, _, _, _, _, _, rfl, .ty _, At.tyX ha, kit_ty (kitBo _), _, rfl, ite_b (fun c => ?_) (fun c => ?_)⟩
    · cases ha with
      | bl b' => exact ⟨_, rfl, _, rfl, rfl, kk _ (by simp)⟩
      | _ => cases c
    · refine kk _ ⟨fun z => (by cases z), fun z => ?_⟩
      subst z; cases c
  | int b =>
    refine ⟨_, rfl, _, _, _, _, _, rfl, .ty _, At.tyX (.int _), kit_ty (kitL _), _, rfl, iteF ⟨_, rfl, _, _, _, _, _, rfl, .ty _, At.tyX (.int _), kit_ty (kitU _), _, rfl, iteF ?_⟩⟩
    refine ⟨_, rfl, rfl, _, rfl, iteF ⟨_, rfl, _, _, _, _, _, rfl, .ty _, At.tyX (.int _), kit_ty (kitBo _), _, rfl, iteF ⟨_, rfl, _, _, _, _, _, rfl, .ty _, At.tyX (.int _), kit_ty (kitI _), _, rfl, iteT ?_⟩⟩⟩
    refine ⟨_, rfl, x, a, rfl, ha, _, rfl, ite_b (fun c => ?_) (fun c => ?_)⟩
    · cases ha with
      | int b' => exact ⟨_, rfl, _, rfl, rfl, kk _ (by simp)⟩
      | _ => cases c
    · refine kk _ ⟨fun z => (by cases z), fun z => ?_⟩
      subst z; cases c
  | str b =>
    refine ⟨_, rfl, _, _, _, _, _, rfl, .ty _, At.tyX (.str _), kit_ty (kitL _), _, rfl, iteF ⟨_, rfl, _, _, _, _, _, rfl, .ty _, At.tyX (.str _), kit_ty (kitU _), _, rfl, iteF ?_⟩⟩
    refine ⟨_, rfl, rfl, _, rfl, iteF ⟨_, rfl, _, _, _, _, _, rfl, .ty _, At.tyX (.str _), kit_ty (kitBo _), _, rfl, iteF ⟨_, rfl, _, _, _, _, _, rfl, .ty _, At.tyX (.str _), kit_ty (kitI _), _, rfl, iteF ?_⟩⟩⟩
    refine ⟨_, rfl, _, _, _, _, _, rfl, .ty _, At.tyX ha, kit_ty (kitS _), _, rfl, ite_b (fun c => ?_) (fun c => ?_)⟩
    · cases ha with
      | str b' => exact ⟨_, rfl, _, rfl, rfl, kk _ (by simp)⟩
      | _ => cases c
    · refine kk _ ⟨fun z => (by cases z), fun z => ?_⟩
      subst z; cases c
  | lst hq hs hz =>
    rename_i q ys ds
    have hdn : deps ds < n := by rw [dep] at hn; omega
    refine ⟨_, rfl, _, _, _, _, _, rfl, .ty _, At.tyX (At.lst hq hs hz), kit_ty (kitL _), _, rfl, iteT ?_⟩
    refine ⟨_, rfl, _, _, _, _, _, rfl, .ty _, At.tyX (At.lst hq hs hz), kit_ty (kitL _), _, rfl, iteT ?_⟩
    cases ha with
    | lst hp as az =>
      rename_i p xs as'
      refine ⟨_, rfl, _, _, _, _, _, rfl, .ty _, At.tyX (At.lst hp as az), kit_ty (kitL _), _, rfl, iteF ?_⟩
      refine ⟨_, rfl, _, _, _, _, _, rfl, .ty _, At.tyX (At.lst hq hs hz), kit_ty (kitU _), _, rfl, iteF (iteF ?_)⟩
      have hl1 := as.length; have hl2 := hs.length
      refine ⟨_, rfl, p, xs, rfl, .inl (SqL.of hp), _, rfl, q, ys, rfl, .inl (SqL.of hq), rfl, _, rfl, ?_⟩
      refine ite_b (fun c => ?_) (fun c => ?_)
      · refine kk _ ⟨fun z => (by cases z), fun z => ?_⟩
        cases z
        rw [hl1, hl2] at c; simp at c
      have hl : as'.length = ds.length := by
        rw [hl1, hl2] at c; simp at c; omega
      refine ⟨_, rfl, q, ys, rfl, .inl (SqL.of hq), _, rfl, by omega, by omega, ?_⟩
      refine for_range (lo := 0) (n := ys.length) (fun i σ H' => H' = H ∧ (∃ z, σ = [some (.ref p), some (.ref q), z]) ∧ as'.take i = ds.take i) ⟨rfl, ⟨_, rfl⟩, rfl⟩ ?_ ?_
      · rintro i σ H' hi ⟨rfl, ⟨z, rfl⟩, ht⟩
        have hi1 : i < as'.length := by omega
        have hi2 : i < ds.length := by omega
        obtain ⟨x, ex, ax⟩ := as.getD (List.getElem?_eq_getElem hi1)
        obtain ⟨y, ey, ay⟩ := hs.getD (List.getElem?_eq_getElem hi2)
        refine ⟨_, rfl, _, rfl, .inl ⟨ p, xs, _, _, rfl, rfl, SqL.of hp, (by rw [Int.zero_add]; exact atI_nat ex), _, rfl, _, rfl, .inl ⟨ q, ys, _, _, rfl, rfl, SqL.of hq, (by rw [Int.zero_add]; exact atI_nat ey), ?_⟩⟩⟩
        refine ⟨x, y, _, _, rfl, ax, ay, Nat.lt_of_le_of_lt (deps_mem (List.getElem_mem hi2)) hdn, fun b hb => ⟨_, rfl, ite_b (fun c => ?_) (fun c => ?_)⟩⟩
        · refine kk _ ⟨fun z => (by cases z), fun z => ?_⟩
          injection z with z
          have hbt := hb.mpr (List.getElem_of_eq z hi1)
          rw [hbt] at c; cases c
        · refine ⟨rfl, ⟨_, rfl⟩, ?_⟩
          have hbt : b = true := by cases b with
            | true => rfl
            | false => cases c
          rw [List.take_succ, List.take_succ, ht, List.getElem?_eq_getElem hi1, List.getElem?_eq_getElem hi2, hb.mp hbt]
      · rintro σ H' ⟨rfl, ⟨z, rfl⟩, ht⟩
        refine kk true ⟨fun _ => ?_, fun _ => rfl⟩
        rw [hl2, List.take_length, ← hl, List.take_length] at ht
        rw [ht]
    | non => exact ⟨_, rfl, _, _, _, _, _, rfl, .ty _, At.tyX .non, kit_ty (kitL _), _, rfl, iteT (kk _ ⟨fun z => (by cases z), fun z => (by cases z)⟩)⟩
    | bl _ => exact ⟨_, rfl, _, _, _, _, _, rfl, .ty _, At.tyX (.bl _), kit_ty (kitL _), _, rfl, iteT (kk _ ⟨fun z => (by cases z), fun z => (by cases z)⟩)⟩
    | int _ => exact ⟨_, rfl, _, _, _, _, _, rfl, .ty _, At.tyX (.int _), kit_ty (kitL _), _, rfl, iteT (kk _ ⟨fun z => (by cases z), fun z => (by cases z)⟩)⟩
    | str _ => exact ⟨_, rfl, _, _, _, _, _, rfl, .ty _, At.tyX (.str _), kit_ty (kitL _), _, rfl, iteT (kk _ ⟨fun z => (by cases z), fun z => (by cases z)⟩)⟩
    | tup h5 a5 z5 => exact ⟨_, rfl, _, _, _, _, _, rfl, .ty _, At.tyX (.tup h5 a5 z5), kit_ty (kitL _), _, rfl, iteT (kk _ ⟨fun z => (by cases z), fun z => (by cases z)⟩)⟩
  | tup hq hs hz =>
    rename_i q ys ds
    have hdn : deps ds < n := by rw [dep] at hn; omega
    refine ⟨_, rfl, _, _, _, _, _, rfl, .ty _, At.tyX (At.tup hq hs hz), kit_ty (kitL _), _, rfl, iteF ⟨_, rfl, _, _, _, _, _, rfl, .ty _, At.tyX (At.tup hq hs hz), kit_ty (kitU _), _, rfl, iteT ?_⟩⟩
    refine ⟨_, rfl, _, _, _, _, _, rfl, .ty _, At.tyX (At.tup hq hs hz), kit_ty (kitL _), _, rfl, iteF (iteF ⟨_, rfl, _, _, _, _, _, rfl, .ty _, At.tyX (At.tup hq hs hz), kit_ty (kitU _), _, rfl, iteT ?_⟩)⟩
    cases ha with
    | tup hp as az =>
      rename_i p xs as'
      refine ⟨_, rfl, _, _, _, _, _, rfl, .ty _, At.tyX (At.tup hp as az), kit_ty (kitU _), _, rfl, iteF ?_⟩
      have hl1 := as.length; have hl2 := hs.length
      refine ⟨_, rfl, p, xs, rfl, .inr (SqT.of hp), _, rfl, q, ys, rfl, .inr (SqT.of hq), rfl, _, rfl, ?_⟩
      refine ite_b (fun c => ?_) (fun c => ?_)
      · refine kk _ ⟨fun z => (by cases z), fun z => ?_⟩
        cases z
        rw [hl1, hl2] at c; simp at c
      have hl : as'.length = ds.length := by
        rw [hl1, hl2] at c; simp at c; omega
      refine ⟨_, rfl, q, ys, rfl, .inr (SqT.of hq), _, rfl, by omega, by omega, ?_⟩
      refine for_range (lo := 0) (n := ys.length) (fun i σ H' => H' = H ∧ (∃ z, σ = [some (.ref p), some (.ref q), z]) ∧ as'.take i = ds.take i) ⟨rfl, ⟨_, rfl⟩, rfl⟩ ?_ ?_
      · rintro i σ H' hi ⟨rfl, ⟨z, rfl⟩, ht⟩
        have hi1 : i < as'.length := by omega
        have hi2 : i < ds.length := by omega
        obtain ⟨x, ex, ax⟩ := as.getD (List.getElem?_eq_getElem hi1)
        obtain ⟨y, ey, ay⟩ := hs.getD (List.getElem?_eq_getElem hi2)
        refine ⟨_, rfl, _, rfl, .inr (.inl ⟨ p, xs, _, _, rfl, rfl, SqT.of hp, (by rw [Int.zero_add]; exact atI_nat ex), _, rfl, _, rfl, .inr (.inl ⟨ q, ys, _, _, rfl, rfl, SqT.of hq, (by rw [Int.zero_add]; exact atI_nat ey), ?_⟩)⟩)⟩
        refine ⟨x, y, _, _, rfl, ax, ay, Nat.lt_of_le_of_lt (deps_mem (List.getElem_mem hi2)) hdn, fun b hb => ⟨_, rfl, ite_b (fun c => ?_) (fun c => ?_)⟩⟩
        · refine kk _ ⟨fun z => (by cases z), fun z => ?_⟩
          injection z with z
          have hbt := hb.mpr (List.getElem_of_eq z hi1)
          rw [hbt] at c; cases c
        · refine ⟨rfl, ⟨_, rfl⟩, ?_⟩
          have hbt : b = true := by cases b with
            | true => rfl
            | false => cases c
          rw [List.take_succ, List.take_succ, ht, List.getElem?_eq_getElem hi1, List.getElem?_eq_getElem hi2, hb.mp hbt]
      · rintro σ H' ⟨rfl, ⟨z, rfl⟩, ht⟩
        refine kk true ⟨fun _ => ?_, fun _ => rfl⟩
        rw [hl2, List.take_length, ← hl, List.take_length] at ht
        rw [ht]
    | non => exact ⟨_, rfl, _, _, _, _, _, rfl, .ty _, At.tyX .non, kit_ty (kitU _), _, rfl, iteT (kk _ ⟨fun z => (by cases z), fun z => (by cases z)⟩)⟩
    | bl _ => exact ⟨_, rfl, _, _, _, _, _, rfl, .ty _, At.tyX (.bl _), kit_ty (kitU _), _, rfl, iteT (kk _ ⟨fun z => (by cases z), fun z => (by cases z)⟩)⟩
    | int _ => exact ⟨_, rfl, _, _, _, _, _, rfl, .ty _, At.tyX (.int _), kit_ty (kitU _), _, rfl, iteT (kk _ ⟨fun z => (by cases z), fun z => (by cases z)⟩)⟩
    | str _ => exact ⟨_, rfl, _, _, _, _, _, rfl, .ty _, At.tyX (.str _), kit_ty (kitU _), _, rfl, iteT (kk _ ⟨fun z => (by cases z), fun z => (by cases z)⟩)⟩
    | lst h5 a5 z5 => exact ⟨_, rfl, _, _, _, _, _, rfl, .ty _, At.tyX (.lst h5 a5 z5), kit_ty (kitU _), _, rfl, iteT (kk _ ⟨fun z => (by cases z), fun z => (by cases z)⟩)⟩
end
end LR
set_option Elab.async false
set_option maxRecDepth 100000
set_option linter.all false
set_option maxHeartbeats 4000000
namespace LR
open PySem PySem.Spec PyProof.Rows L2
section
variable {P : Program} {w : World} {K : PySem.W.Frag} {mg : Str → Option Value} {base : Heap} {ζ : Cs}
def spChkEdges (K : PySem.W.Frag) : Sp := fun vs H Q _ => ∃ (h n : Int) (a : Addr) (ts : List Addr) (es : List (List Int)), vs = [.int h, .int n, .ref a] ∧ Sq K H a (ts.map V.ref) ∧ RowsH H ts es ∧ (∀ e ∈ es, EdgeOk h n e) ∧ es.Nodup ∧ es.length ≤ 63 ∧ ∀ H', Same H H' → Q .non H'
theorem ok_chkedges (T : Txt P K mg ζ) : Cal P w K mg base 1 "_check_edges" (spChkEdges K) := by
  refine T.d__check_edges.cal sc__check_edges (fun vs H Q E h => ?_) (fun f cdv A outer s H vs Q E hr h => ⟨_, pss_cons (ps_set (i := 3) sc__check_edges.nd rfl (Or.inl rfl) (pe_callTy0 cr_set0T (by rfl) T.n_set b_set))
 (pss_one (ps_for PassesOwn.never rfl (pi_enumS (by rfl) T.n_enumerate (pa_cons (pv 2) (pa_nil))) (pg_tup rfl (pgs_cons (pg_name (i := 4) sc__check_edges.nd rfl (Or.inl rfl)) (pgs_cons (pg_name (i := 5) sc__check_edges.nd rfl (Or.inl rfl)) (pgs_nil))))
 (pss_cons (ps_asg (pv 5) (pg_tup rfl (pgs_cons (pg_name (i := 6) sc__check_edges.nd rfl (Or.inl rfl)) (pgs_cons (pg_name (i := 7) sc__check_edges.nd rfl (Or.inl rfl)) (pgs_cons (pg_name (i := 8) sc__check_edges.nd rfl (Or.inl rfl)) (pgs_nil))))))
 (pss_cons (ps_if (pt_not (PW.pt (pw_and (pt_chain op_le op_lt (pe_int) (pv 6) (pv 1) ) (pw_and (pt_chain op_le op_lt (pe_int) (pv 8) (pv 1) ) (pw_and1 (pt_chain op_le op_le (pe_int) (pv 7) (pe_op op_mul (pe_int) (pv 0)) ))))))
 (pss_never)
 (pss_nil))
 (pss_cons (ps_if (pt_cmpR (or_inT hr.units) (pv 5) (pv 3) rfl)
 (pss_never)
 (pss_nil))
 (pss_one (ps_expr (pe_addT hr.units (pv 3) (pa_cons (pv 5) pa_nil))))))))), ?_⟩)
  · obtain ⟨h, n, a, ts, es, rfl, _⟩ := h; rfl
  obtain ⟨h, n, a, ts, es, rfl, hS, hR, hok, hnd, hl, kk⟩ := h
  refine ⟨rfl, fun S hS0 => ?_⟩
  have s1 : Same H (upd H S (SetTO P w S [])) := same_new hS0
  have hS1 : (upd H S (SetTO P w S [])) S = some (SetTO P w S []) := upd_same
  refine ⟨_, rfl, a, rfl, hS.enum s1 fun J G W g1 g2 => for_it W (fun i σ H' => Same H H' ∧ (∃ L : List (Addr × List Int), H' S = some (SetTO P w S L) ∧ (∀ p ∈ L, H p.1 = some (.tup (p.2.map V.int))) ∧ L.length = i ∧ ∀ k, k ∈ L.map (·.2) ↔ k ∈ es.take i) ∧ ∃ z4 z5 z6 z7 z8 : Option V, σ = [some (.int h), some (.int n), some (.ref a), some (.ref S), z4, z5, z6, z7, z8]) ⟨s1, ⟨[], hS1, (fun p z => by cases z), rfl, fun k => by simp⟩, none, none, none, none, none, rfl⟩ (fun i σ H' _ h => g1 _ h.1) ?_ ?_⟩
  · rintro i x1 σ H2 H3 hi ⟨s2, ⟨L, hL, hLt, hLl, hLm⟩, z4, z5, z6, z7, z8, rfl⟩ ⟨t, x2, y2, rfl, ht, rfl, ex, ey⟩
    cases ex
    obtain ⟨te, ete, rfl⟩ : ∃ te, ts[i]? = some te ∧ y2 = .ref te := by
      have ey : (ts.map V.ref)[i]? = some y2 := ey
      rw [List.getElem?_map] at ey
      cases q : ts[i]? with
      | none => rw [q] at ey; cases ey
      | some te => rw [q] at ey; cases ey; exact ⟨te, rfl, rfl⟩
    obtain ⟨e, ee, he⟩ := hR.getT ete
    have eok := hok e (List.mem_of_getElem? ee)
    obtain ⟨s0, r0, t0, rfl, hs, hr0, ht0⟩ := eok
    refine ⟨t, _, rfl, SqT.of upd_same, rfl, _, _, rfl, _, _, rfl, rfl, ?_⟩
    have s3 := s2.new (o := .tup [.int (i : Nat), .ref te]) ht
    have hL3 := (same_new (o := .tup [.int (i : Nat), .ref te]) ht) _ _ hL
    generalize upd H2 t (.tup [.int (i : Nat), .ref te]) = H4 at s3 hL3 ⊢
    have he3 := s3 _ _ he
    have hS3 : H S = none := hS0
    refine ⟨_, rfl, te, _, rfl, SqT.of he3, rfl, _, _, rfl, _, _, rfl, _, _, rfl, rfl, ?_⟩
    have heS := SqT.of (K := K) he3
    have hLS : ∀ p ∈ L, SqT K H4 p.1 (p.2.map V.int) := fun p hp => SqT.of (s3 _ _ (hLt p hp))
    refine ⟨_, rfl, _, _, rfl, rfl, _, rfl, ite2 (fun _ => ?_) (fun c => absurd (decide_eq_true hs.1) c)⟩
    refine ⟨_, rfl, _, _, rfl, rfl, _, rfl, ite2 (fun _ => ?_) (fun c => absurd (decide_eq_true hs.2) c)⟩
    refine ⟨_, rfl, _, _, rfl, rfl, _, rfl, ite2 (fun _ => ?_) (fun c => absurd (decide_eq_true ht0.1) c)⟩
    refine ⟨_, rfl, _, _, rfl, rfl, _, rfl, ite2 (fun _ => ?_) (fun c => absurd (decide_eq_true ht0.2) c)⟩
    refine ⟨_, rfl, _, _, rfl, rfl, _, rfl, ite2 (fun _ => ?_) (fun c => absurd (decide_eq_true hr0.1) c)⟩
    refine ⟨_, rfl, _, _, rfl, rfl, .inl ⟨by decide, by decide⟩, _, _, rfl, rfl, _, rfl, ite2 (fun c => by rw [decide_eq_true hr0.2] at c; cases c) (fun _ => ?_)⟩
    have nin : [s0, r0, t0] ∉ L.map (·.2) := fun z => nodup_take hnd ee ((hLm _).mp z)
    refine ⟨_, rfl, _, rfl, te, S, [s0, r0, t0], L, rfl, rfl, heS, hL3, hLS, _, rfl, ite2 (fun c => absurd (of_decide_eq_true c) nin) (fun _ => ?_)⟩
    have li : i < ts.length := (List.getElem?_eq_some_iff.mp ete).1
    have := hR.1
    refine ⟨_, rfl, ⟨S, L, rfl, hL3⟩, _, rfl, S, te, [s0, r0, t0], L, rfl, rfl, heS, hL3, hLS, by omega, fun L' _ e2 => ⟨fun b o q => ?_, ⟨L', upd_same, fun p hp => ?_, ?_, fun k => ?_⟩, _, _, _, _, _, rfl⟩⟩
    · rw [upd_ne (ne_of_none q hS3)]; exact s3 _ _ q
    · rcases List.mem_cons.mp ((e2 nin).mem_iff.mp hp) with q | q
      · subst q; exact he
      · exact hLt p q
    · rw [(e2 nin).length_eq, List.length_cons, hLl]
    · rw [((e2 nin).map (·.2)).mem_iff, take_mem ee, List.map_cons, List.mem_cons, hLm k]
  · rintro σ H' ⟨s2, _⟩
    exact kk _ s2
def spCount : Sp := fun vs H Q _ => ∃ c m : Int, vs = [.int c, .int m] ∧ 1 ≤ c ∧ c ≤ m ∧ Q .non H
theorem ok_count (T : Txt P K mg ζ) : Cal P w K mg base 1 "check_count" spCount := by
  refine T.d_check_count.cal sc_check_count (fun vs H Q E h => ?_) (fun f cdv A outer s H vs Q E hr h => ⟨_, pss_one (ps_if (pt_not (pt_chain op_le op_le (pe_int) (pv 0) (pv 1) ))
 (pss_never)
 (pss_nil)), ?_⟩)
  · obtain ⟨m, u, rfl, _⟩ := h; rfl
  obtain ⟨c, m, rfl, h1, h2, kk⟩ := h
  refine ⟨_, rfl, _, _, rfl, rfl, _, rfl, ite2 (fun _ => ?_) (fun q => absurd (decide_eq_true h1) q)⟩
  exact ⟨_, rfl, _, _, rfl, rfl, _, rfl, ite2 (fun q => by rw [decide_eq_true h2] at q; cases q) (fun _ => kk)⟩
def spWeb (C : Addr) : Sp := fun vs H Q _ => ∃ (x a dx : Addr) (h n : Int) (ts : List Addr) (es : List (List Int)), vs = [.ref x, .int h, .int n, .ref a] ∧ H x = some (.ins C dx []) ∧ (H a = some (.lst (ts.map V.ref)) ∨ H a = some (.tup (ts.map V.ref))) ∧ RowsH H ts es ∧ (h = 1 ∨ h = 2 ∨ h = 3) ∧ (1 ≤ n ∧ n ≤ 9) ∧ es.length ≤ 63 ∧ (∀ e ∈ es, EdgeOk h n e) ∧ es.Nodup ∧ ∀ H' ss, Keep x H H' → WebAt C H' x h n ss → ss.Perm es → ss.Pairwise elt → Q .non H'
theorem body_web (T : Txt P K mg ζ) {C : Addr} (cl : Cls K C) (na1 : NoAttr K C "height") (na2 : NoAttr K C "size") (na3 : NoAttr K C "edges") (f : Addr) (cdv : Value) (A : Around) (outer : List Env) (s : Shared) (H : Hp) (vs : List V) (Q : VK) (E : XK) (hr : Room 1 (A.deeper (envOfC "Web.__init__" (defScope s_W_init) s.heap.objs.size f cdv))) (h : spWeb C vs H Q E) :
    ∃ t, PSs (cxOf CX0 P w K mg base N_W_init "Web.__init__" (defScope s_W_init) f cdv A outer s H E).nox (defBody s_W_init) t ∧ t { nx := fun _ H' => Q .non H', rt := Q } (L2.start N_W_init vs) H := by
  have c_check_height : Cal P w K mg base 1 "check_height" spHeight := ok_height T
  have c_check_count : Cal P w K mg base 1 "check_count" spCount := ok_count T
  have c__check_edges : Cal P w K mg base 1 "_check_edges" (spChkEdges K) := ok_chkedges T
  refine ⟨_, pss_cons (ps_expr (pe_c c_check_height hr (by first | decide | omega) (by rfl) (pa_cons (pv 1) (pa_nil))))
 (pss_cons (ps_expr (pe_c c_check_count hr (by first | decide | omega) (by rfl) (pa_cons (pv 2) (pa_cons (ClX.pe_cval (pe_glob (v := .ref ζ.Web) (by rfl) T.mg_Web rfl)) (pa_nil)))))
 (pss_cons (ps_if (pt_cmpR op_gt (pe_callB call_len_seq (by rfl) T.n_len b_len (pa_cons (pv 3) (pa_nil))) (ClX.pe_cval (pe_glob (v := .ref ζ.Web) (by rfl) T.mg_Web rfl)) (nomark _))
 (pss_never)
 (pss_nil))
 (pss_cons (ps_expr (pe_c c__check_edges hr (by first | decide | omega) (by rfl) (pa_cons (pv 1) (pa_cons (pv 2) (pa_cons (pv 3) (pa_nil))))))
 (pss_cons (ps_fld (pv 0) (pv 1) rfl)
 (pss_cons (ps_fld (pv 0) (pv 2) rfl)
 (pss_one (ps_fld (pv 0) (pe_callTy call_tuple_of (by rfl) T.n_tuple b_tuple (pa_cons (pe_callB (cr_sortQ (d := 3) (B := 64) (by decide)) (by rfl) T.n_sorted b_sorted (pa_cons (pv 3) pa_nil)) (pa_nil))) rfl))))))), ?_⟩
  obtain ⟨x, a, dx, h, n, ts, es, rfl, hx, ha, hR, hh, hn, hl, hok, hnd, kk⟩ := h
  have hS : Sq K H a (ts.map V.ref) := by
    rcases ha with ha | ha
    · exact .inl (SqL.of ha)
    · exact .inr (SqT.of ha)
  have nax : a ≠ x := by
    rcases ha with ha | ha
    · exact ne_of ha hx (by intro z; cases z)
    · exact ne_of ha hx (by intro z; cases z)
  obtain ⟨mc, u, cr, cv⟩ := T.cv_Web_MOST_NODES
  obtain ⟨mc2, u2, cr2, cv2⟩ := T.cv_Web_MOST_EDGES
  refine ⟨_, rfl, h, rfl, hh, fun H1 s1 => ?_⟩
  refine ⟨_, rfl, ζ.Web, mc, _, u, rfl, cr, cv, n, 9, rfl, hn.1, hn.2, ?_⟩
  refine ⟨_, rfl, a, _, rfl, hS.same s1, ζ.Web, mc2, _, u2, rfl, cr2, cv2, _, _, rfl, rfl, _, rfl, ?_⟩
  rw [List.length_map, hR.1]
  refine ite2 (fun c => absurd (of_decide_eq_true c) (by omega)) (fun _ => ?_)
  refine ⟨_, rfl, _, rfl, _, rfl, h, n, a, ts, es, rfl, hS.same s1, hR.same s1, hok, hnd, hl, fun H2 s2 => ?_⟩
  have s02 := s1.trans s2
  have hx2 := s02 _ _ hx
  refine ⟨_, rfl, _, rfl, x, C, dx, _, rfl, hx2, cl, na1, (by show 0 < 1000; decide), ?_⟩
  have k3 : Keep x H (upd H2 x (.ins C dx (putF "height" (V.int h) []))) := s02.keep.upd
  refine ⟨_, rfl, _, rfl, x, C, dx, _, rfl, upd_same, cl, na2, (by show 1 < 1000; decide), ?_⟩
  rw [upd_upd]
  have k4 : Keep x H (upd H2 x (.ins C dx (putF "size" (V.int n) (putF "height" (V.int h) [])))) := s02.keep.upd
  have hx4 : (upd H2 x (.ins C dx (putF "size" (V.int n) (putF "height" (V.int h) [])))) x = some (.ins C dx (putF "size" (V.int n) (putF "height" (V.int h) []))) := upd_same
  generalize upd H2 x (.ins C dx (putF "size" (V.int n) (putF "height" (V.int h) []))) = H4 at k4 hx4 ⊢
  have hR4 : RowsH H4 ts es := ⟨hR.1, fun k t e a b => k4 _ (ne_of (hR.2 k t e a b) hx (by intro z; cases z)) _ (hR.2 k t e a b)⟩
  have hS4 := hS.keep k4 nax
  refine ⟨_, rfl, a, ts.map V.ref, rfl, hS4, (by rw [List.length_map, hR.1]; omega), fun y hy => ?_, fun ys p perm pw hp => ?_⟩
  · obtain ⟨t, ht, rfl⟩ := List.mem_map.mp hy
    obtain ⟨j, hj⟩ := List.mem_iff_getElem?.mp ht
    obtain ⟨e, ee, he⟩ := hR4.getT hj
    obtain ⟨b1, b2⟩ := edge_bd (by omega) hn.2 (hok e (List.mem_of_getElem? ee))
    exact ⟨e, ⟨t, rfl, SqT.of he⟩, b1, b2⟩
  obtain ⟨us, rfl, pu, hU, pss⟩ := hR4.perm perm
  have rowU : ∀ t ∈ us, TupI K H4 (.ref t) (rowH H4 t) := fun t ht => by
    obtain ⟨j, hj⟩ := List.mem_iff_getElem?.mp ht
    obtain ⟨e, _, he⟩ := hU.getT hj
    exact ⟨t, rfl, by rw [rowH_of he]; exact SqT.of he⟩
  have okU : ∀ t ∈ us, EdgeOk h n (rowH H4 t) := fun t ht => hok _ (pss.mem_iff.mp (List.mem_map.mpr ⟨t, ht, rfl⟩))
  have pw2 : (us.map (rowH H4)).Pairwise elt := by
    rw [List.pairwise_map]
    have nd3 := List.pairwise_map.mp (pss.nodup_iff.mpr hnd)
    have pw1 := List.pairwise_map.mp pw
    refine List.Pairwise.imp_of_mem (fun {u v} hu hv hw => ?_) (pw1.and nd3)
    exact elt_code (by omega) hn.2 (okU u hu) (okU v hv) (hw.1 _ _ (rowU u hu) (rowU v hv)) hw.2
  have npx : x ≠ p := ne_of_none hx4 hp
  refine ⟨p, _, rfl, .inl ⟨SqL.of upd_same, fun te hte => ?_⟩⟩
  have hx5 := (same_new (o := .lst (us.map V.ref)) hp) _ _ hx4
  have npt : x ≠ te := ne_of_none hx5 hte
  refine ⟨_, rfl, x, C, dx, _, rfl, (same_new hte) _ _ hx5, cl, na3, (by show 2 < 1000; decide), ?_⟩
  refine kk _ (us.map (rowH H4)) (((k4.new hp).new hte).upd) ⟨dx, te, us, ?_, ?_, ?_⟩ pss pw2
  · rw [upd_same]; rfl
  · rw [upd_ne npt.symm, upd_same]
  · refine ⟨hU.1, fun k t e a b => ?_⟩
    have := hU.2 k t e a b
    rw [upd_ne (ne_of this hx4 (by intro z; cases z)), upd_ne (ne_of_none ((same_new (o := .lst (us.map V.ref)) hp) _ _ this) hte), upd_ne (ne_of_none this hp)]
    exact this
def spNode : Sp := fun vs H Q _ => ∃ (m u : Int), vs = [.int m, .int u] ∧ 0 ≤ u ∧ u < m ∧ Q .non H
theorem ok_node (T : Txt P K mg ζ) : Cal P w K mg base 1 "check_node" spNode := by
  refine T.d_check_node.cal sc_check_node (fun vs H Q E h => ?_) (fun f cdv A outer s H vs Q E hr h => ⟨_, pss_one (ps_if (pt_not (pt_chain op_le op_lt (pe_int) (pv 1) (pv 0) ))
 (pss_never)
 (pss_nil)), ?_⟩)
  · obtain ⟨m, u, rfl, _⟩ := h; rfl
  obtain ⟨m, u, rfl, u0, u1, kk⟩ := h
  refine ⟨_, rfl, _, _, rfl, rfl, _, rfl, ?_⟩
  refine ite2 (fun c => ?_) (fun c => absurd (decide_eq_true u0) c)
  refine ⟨_, rfl, _, _, rfl, rfl, _, rfl, ?_⟩
  refine ite2 (fun c => ?_) (fun _ => kk)
  rw [decide_eq_true u1] at c; cases c
end
end LR
set_option Elab.async false
set_option maxRecDepth 100000
set_option linter.all false
set_option maxHeartbeats 4000000
namespace LR
open PySem PySem.Spec PyProof.Rows L2
section
variable {P : Program} {w : World} {K : PySem.W.Frag} {mg : Str → Option Value} {base : Heap} {ζ : Cs}
def spChkOwn : Sp := fun vs H Q _ => ∃ os : List Bool, vs = [.str (strO os)] ∧ 1 ≤ os.length ∧ os.length ≤ 9 ∧ ∀ H', Same H H' → Q .non H'
theorem ok_chkown (T : Txt P K mg ζ) : Cal P w K mg base 1 "_check_owners" spChkOwn := by
  refine T.d__check_owners.cal sc__check_owners (fun vs H Q E h => ?_) (fun f cdv A outer s H vs Q E hr h => ⟨_, pss_cons (ps_if (pt_not (pt_chain op_le op_le (pe_int) (pe_callB call_len_str (by rfl) T.n_len b_len (pa_cons (pv 0) pa_nil)) (ClX.pe_cval (pe_glob (v := .ref ζ.Web) (by rfl) T.mg_Web rfl)) ))
 (pss_never)
 (pss_nil))
 (pss_one (ps_if (pt_val (pe_callB (cr_any rfl) (by rfl) T.n_any b_any (pa_cons (pe_lc (own := [("owner", 1)]) (g := gName 1) (tt := tYes)  rfl sc__check_owners.nd (pi_str (pv 0)) (blkOk_by (N := N__check_owners) (sc := defScope s__check_owners) (by decide +kernel)) (fun _ _ _ _ _ => pg_name (i := 1) sc__check_owners.nd rfl (Or.inl rfl)) (fun _ _ _ _ _ => pts_nil) (fun _ _ _ _ _ => pe_cmpR (op_notInK (K := K) rfl) (pv 1) (pe_tup (pa_cons (pe_str) (pa_cons (pe_str) (pa_nil)))) rfl)) (pa_nil))))
 (pss_never)
 (pss_nil))), ?_⟩)
  · obtain ⟨os, rfl, _⟩ := h; rfl
  obtain ⟨os, rfl, h1, h9, kk⟩ := h
  obtain ⟨mc, u, cr, cv⟩ := T.cv_Web_MOST_NODES
  have hle := strO_len os
  refine ⟨_, rfl, _, rfl, (by rw [hle, sizeLine_eq]; omega), _, _, rfl, rfl, _, rfl, ite2 (fun _ => ?_) (fun c => absurd (decide_eq_true (by rw [hle]; omega)) c)⟩
  refine ⟨ζ.Web, mc, _, u, rfl, cr, cv, _, _, rfl, rfl, _, rfl, ite2 (fun c => ?_) (fun _ => ?_)⟩
  · rw [hle, decide_eq_true (by omega)] at c; cases c
  refine ⟨_, rfl, _, rfl, fun D hD => ?_⟩
  have hsz : (strO os).cps.size = os.length := hle
  refine lc_it (walk_str (z := strO os)) (fun i H' => Same H H' ∧ ∃ bs : List Bool, H' D = some (.lst (bs.map V.bl)) ∧ bs.length = i ∧ bs.any id = false) ⟨same_new hD, [], upd_same, rfl, rfl⟩ (fun _ _ _ _ => trivial) ?_ ?_
  · rintro i x H2 H3 hi ⟨s2, bs, hD2, hbl, hba⟩ ⟨rfl, c, hc, rfl⟩
    obtain ⟨b, hb, rfl⟩ := strO_getN hc
    refine ⟨rfl, _, rfl, (by show 2 ≤ sizeLine; decide), fun t ht => ?_⟩
    refine ⟨t, _, rfl, .inr (SqT.of upd_same), rfl, rfl, bs.map V.bl, ?_, ?_, fun q o e => ?_, bs ++ [false], ?_, ?_, ?_⟩
    · exact (same_new ht) _ _ hD2
    · rw [List.length_map, sizeLine_eq]; omega
    · rw [upd_ne (ne_of_none e hD), upd_ne (ne_of_none (s2 _ _ e) ht)]; exact s2 _ _ e
    · rw [upd_same, List.map_append]
      cases b <;> rfl
    · rw [List.length_append, hbl]; rfl
    · rw [List.any_append, hba]; rfl
  · rintro H2 ⟨s2, bs, hD2, hbl, hba⟩
    refine ⟨_, bs, rfl, SqL.of hD2, _, rfl, ?_⟩
    rw [hba]
    exact iteF (kk _ s2)
def spDead : Sp := fun vs H Q _ => ∃ (n : Nat) (te : Addr) (us : List Addr) (ss : List (List Int)), vs = [.int n, .ref te] ∧ n ≤ 9 ∧ H te = some (.tup (us.map V.ref)) ∧ RowsH H us ss ∧ ss.length ≤ 63 ∧ (∀ e ∈ ss, e.length = 3) ∧ (∀ v : Nat, v < n → ∃ e ∈ ss, e.head? = some (v : Int)) ∧ ∀ H', Same H H' → Q .non H'
theorem inV_ints (i : Int) (l : List Int) : inV (.int i) (l.map V.int) = decide (i ∈ l) := by
  unfold inV
  rw [List.any_map, Bool.eq_iff_iff, List.any_eq_true, decide_eq_true_eq]
  constructor
  · rintro ⟨j, hj, he⟩
    have : (j == i) = true := he
    rw [beq_iff_eq] at this
    subst this; exact hj
  · intro h
    exact ⟨i, h, by show (i == i) = true; simp⟩
theorem flat_ints (l : List Int) : (l.map V.int).all flatV = true := by
  rw [List.all_map, List.all_eq_true]
  intro _ _; rfl
theorem ok_dead (T : Txt P K mg ζ) : Cal P w K mg base 1 "_check_dead_ends" spDead := by
  refine T.d__check_dead_ends.cal sc__check_dead_ends (fun vs H Q E h => ?_) (fun f cdv A outer s H vs Q E hr h => ⟨_, pss_cons (ps_setLc (i := 2) (own := [("edge", 3)]) (g := gName 3) (tt := tYes)  rfl sc__check_dead_ends.nd rfl rfl (sw_true rfl rfl rfl (by decide +kernel)) (pi_tup (pv 1)) (blkOk_by (N := N__check_dead_ends) (sc := defScope s__check_dead_ends) (by decide +kernel)) (fun _ _ _ _ _ => pg_name (i := 3) sc__check_dead_ends.nd rfl (Or.inl rfl)) (fun _ _ _ _ _ => pts_nil) (fun _ _ _ _ _ => pe_ix (ix_tupK (K := K) rfl) (pv 3) pe_int (fun _ _ => rfl)))
 (pss_one (ps_for PassesOwn.never rfl (pi_range1 rfl T.n_range (pa_cons (pv 0) (pa_nil))) (pg_name (i := 4) sc__check_dead_ends.nd rfl (Or.inl rfl))
 (pss_one (ps_if (pt_cmpR op_notIn_seq (pv 4) (pv 2) rfl)
 (pss_never)
 (pss_nil))))), ?_⟩)
  · obtain ⟨n, te, us, ss, rfl, _⟩ := h; rfl
  obtain ⟨n, te, us, ss, rfl, n9, ht, hR, hl, h3, hd, kk⟩ := h
  refine ⟨_, rfl, ⟨te, rfl, ⟨_, SqT.of ht⟩, fun D hD => ?_⟩⟩
  refine lc_tup (K := K) (a := te) (xs := us.map V.ref) (fun i H' => Same H H' ∧ H' D = some (.lst (((ss.take i).map fun e => e.headD 0).map V.int))) ⟨same_new hD, upd_same⟩ (fun i H' _ h => SqT.of (h.1 _ _ ht)) ?_ ?_
  · rintro i y H2 hy ⟨s2, hD2⟩
    rw [List.getElem?_map] at hy
    cases q : us[i]? with
    | none => rw [q] at hy; cases hy
    | some t =>
    rw [q] at hy; cases hy
    obtain ⟨e, ee, he⟩ := hR.getT q
    have e3 := h3 e (List.mem_of_getElem? ee)
    obtain ⟨s0, r0, t0, rfl⟩ : ∃ a b c, e = [a, b, c] := by
      match e, e3 with
      | [a, b, c], _ => exact ⟨a, b, c, rfl⟩
    have et : ss.take (i + 1) = ss.take i ++ [[s0, r0, t0]] := by rw [List.take_succ, ee]; rfl
    refine ⟨rfl, _, rfl, t, _, _, _, rfl, rfl, SqT.of (s2 _ _ he), rfl, _, hD2, ?_, fun b o e => ?_, ?_⟩
    · rw [List.length_map, List.length_map, List.length_take, sizeLine_eq]; omega
    · rw [upd_ne (ne_of_none e hD)]; exact s2 _ _ e
    · rw [upd_same, et, List.map_append, List.map_append]; rfl
  · rintro H2 ⟨s2, hD2⟩
    rw [List.length_map, hR.1, List.take_length] at hD2
    refine ⟨_, rfl, _, rfl, by omega, by omega, ?_⟩
    refine for_range (lo := 0) (n := ((n : Int)).toNat) (fun i σ H' => Same H H' ∧ (∃ l : List Int, H' D = some (.lst (l.map V.int)) ∧ ∀ v : Nat, v < n → (v : Int) ∈ l) ∧ ∃ z3 z4 : Option V, σ = [some (.int n), some (.ref te), some (.ref D), z3, z4]) ⟨s2, ⟨_, hD2, fun v hv => ?_⟩, none, none, rfl⟩ ?_ ?_
    · obtain ⟨e, he, hh⟩ := hd v hv
      refine List.mem_map.mpr ⟨e, he, ?_⟩
      cases e with
      | nil => cases hh
      | cons a r => cases hh; rfl
    · rintro i σ H3 hi ⟨s3, ⟨l, hl3, hm⟩, z3, z4, rfl⟩
      rw [Int.toNat_natCast] at hi
      refine ⟨_, rfl, _, rfl, D, _, rfl, .inl (SqL.of hl3), rfl, flat_ints l, _, rfl, ?_⟩
      have := inV_ints (0 + (i : Nat)) l
      rw [this, Int.zero_add, decide_eq_true (hm i hi)]
      exact iteF ⟨s3, ⟨l, hl3, hm⟩, _, _, rfl⟩
    · rintro σ H3 ⟨s3, _⟩
      exact kk _ s3
def spGame (C : Addr) : Sp := fun vs H Q _ => ∃ (x a dx : Addr) (h : Int) (os : List Bool) (ts : List Addr) (es : List (List Int)), vs = [.ref x, .int h, .str (strO os), .ref a] ∧ H x = some (.ins C dx []) ∧ (H a = some (.lst (ts.map V.ref)) ∨ H a = some (.tup (ts.map V.ref))) ∧ RowsH H ts es ∧ (h = 1 ∨ h = 2 ∨ h = 3) ∧ (1 ≤ os.length ∧ os.length ≤ 9) ∧ es.length ≤ 63 ∧ (∀ e ∈ es, EdgeOk h os.length e) ∧ es.Nodup ∧ (∀ v : Nat, v < os.length → ∃ e ∈ es, e.head? = some (v : Int)) ∧ ∀ H' ss, Keep x H H' → GameAt C H' x h os ss → ss.Perm es → ss.Pairwise elt → Q .non H'
theorem ok_game (T : Txt P K mg ζ) : Mak P w K mg base 3 "Game" ζ.Game (spGame ζ.Game) := by
  have c__check_owners : Cal P w K mg base 1 "_check_owners" spChkOwn := ok_chkown T
  have c__check_dead_ends : Cal P w K mg base 1 "_check_dead_ends" spDead := ok_dead T
  have su_init : SupTo P w K mg base CX0 2 ζ.Game ζ.Game "__init__" (spWeb ζ.Game) := T.su_Game_init.to sc_W_init (fun vs H Q E h => by obtain ⟨x, a, dx, h, n, ts, es, rfl, _⟩ := h; rfl) (fun f cdv A outer s H vs Q E hr h => body_web T T.cl_Game T.na_Game_height T.na_Game_size T.na_Game_edges f cdv A outer s H vs Q E hr h)
  refine T.mk_Game.mak csc_G_init (fun vs H Q E h => ?_) (fun f cc cda fd A outer s H vs Q E S hr h => ⟨_, nss_cons (ns_ps (ps_expr (pe_c c__check_owners hr (by first | decide | omega) (by rfl) (pa_cons (pv 2) (pa_nil)))))
 (nss_cons (ns_expr (ne_supM (i := 0) S su_init hr (by first | decide | omega) pass0 (pa_cons (pv 1) (pa_cons (pe_callB call_len_str (by rfl) T.n_len b_len (pa_cons (pv 2) pa_nil)) (pa_cons (pv 3) (pa_nil))))))
 (nss_cons (ns_ps (ps_fld (pv 0) (pv 2) rfl))
 (nss_one (ns_ps (ps_expr (pe_c c__check_dead_ends hr (by first | decide | omega) (by rfl) (pa_cons (pe_fld (pv 0) rfl) (pa_cons (pe_fld (pv 0) rfl) (pa_nil))))))))), ?_⟩)
  · obtain ⟨x, a, dx, h, os, ts, es, rfl, _⟩ := h; rfl
  obtain ⟨x, a, dx, h, os, ts, es, rfl, hx, ha, hR, hh, hn, hl, hok, hnd, hdd, kk⟩ := h
  refine ⟨_, rfl, os, rfl, hn.1, hn.2, fun H1 s1 => ?_⟩
  have hx1 := s1 _ _ hx
  have hle := strO_len os
  refine ⟨x, dx, _, rfl, hx1, _, rfl, _, rfl, _, rfl, (by rw [hle, sizeLine_eq]; omega), _, rfl, ?_⟩
  rw [hle]
  refine ⟨x, a, dx, h, os.length, ts, es, rfl, hx1, ha.imp (s1 _ _) (s1 _ _), hR.same s1, hh, (by omega), hl, hok, hnd, fun H2 ss k2 WA perm pw => ?_⟩
  obtain ⟨dx2, te, us, w1, w2, w3⟩ := WA
  have nte : te ≠ x := ne_of w2 w1 (by intro z; cases z)
  refine ⟨_, rfl, _, rfl, x, ζ.Game, dx2, _, rfl, w1, T.cl_Game, T.na_Game_owners, (by show 3 < 1000; decide), ?_⟩
  have k3 : Keep x H (upd H2 x (.ins ζ.Game dx2 (putF "owners" (.str (strO os)) [("height", V.int h), ("size", V.int os.length), ("edges", .ref te)]))) := (s1.keep.trans k2).upd
  have g3 : GameAt ζ.Game (upd H2 x (.ins ζ.Game dx2 (putF "owners" (.str (strO os)) [("height", V.int h), ("size", V.int os.length), ("edges", .ref te)]))) x h os ss := by
    refine ⟨dx2, te, us, upd_same, ?_, w3.1, fun k t e a b => ?_⟩
    · rw [upd_ne nte]; exact w2
    · have := w3.2 k t e a b
      rw [upd_ne (ne_of this w1 (by intro z; cases z))]; exact this
  generalize upd H2 x (.ins ζ.Game dx2 (putF "owners" (.str (strO os)) [("height", V.int h), ("size", V.int os.length), ("edges", .ref te)])) = H3 at k3 g3 ⊢
  obtain ⟨dx3, te3, us3, v1, v2, v3⟩ := id g3
  refine ⟨_, rfl, x, ζ.Game, dx3, _, _, rfl, v1, T.cl_Game, T.na_Game_size, rfl, _, rfl, x, ζ.Game, dx3, _, _, rfl, v1, T.cl_Game, T.na_Game_edges, rfl, ?_⟩
  refine ⟨os.length, te3, us3, ss, rfl, hn.2, v2, v3, (by rw [perm.length_eq]; exact hl), fun e he => ?_, fun v hv => ?_, fun H4 s4 => kk H4 ss (k3.same s4) (g3.same s4) perm pw⟩
  · obtain ⟨_, _, _, rfl, _⟩ := hok e (perm.mem_iff.mp he); rfl
  · obtain ⟨e, he, hh⟩ := hdd v hv
    exact ⟨e, perm.mem_iff.mpr he, hh⟩
/-- edges and size stand in the instance's fields -/
def EdgesAt (C : Addr) (H : Hp) (x : Addr) (n : Int) (ss : List (List Int)) : Prop := ∃ dx fs te us, H x = some (.ins C dx fs) ∧ fs.lookup ("size" : Str) = some (.int n) ∧ fs.lookup ("edges" : Str) = some (.ref te) ∧ H te = some (.tup (us.map V.ref)) ∧ RowsH H us ss
def spOutG (C : Addr) : Sp := fun vs H Q _ => ∃ (x : Addr) (h n v : Int) (ss : List (List Int)), vs = [.ref x, .int v] ∧ EdgesAt C H x n ss ∧ (∀ e ∈ ss, EdgeOk h n e) ∧ ss.length ≤ 63 ∧ (0 ≤ v ∧ v < n) ∧ ∀ H' b us, Same H H' → H' b = some (.tup (us.map V.ref)) → RowsH H' us (ss.filter fun e => decide (e.head? = some v)) → Q (.ref b) H'
theorem body_out (T : Txt P K mg ζ) {C : Addr} (cl : Cls K C) (na2 : NoAttr K C "size") (na3 : NoAttr K C "edges") (f : Addr) (cdv : Value) (A : Around) (outer : List Env) (s : Shared) (H : Hp) (vs : List V) (Q : VK) (E : XK) (hr : Room 1 (A.deeper (envOfC "Web.out" (defScope s_W_out) s.heap.objs.size f cdv))) (h : spOutG C vs H Q E) :
    ∃ t, PSs (cxOf CX0 P w K mg base N_W_out "Web.out" (defScope s_W_out) f cdv A outer s H E).nox (defBody s_W_out) t ∧ t { nx := fun _ H' => Q .non H', rt := Q } (L2.start N_W_out vs) H := by
  have c_check_node : Cal P w K mg base 1 "check_node" spNode := ok_node T
  refine ⟨_, pss_cons (ps_expr (pe_c c_check_node hr (by first | decide | omega) (by rfl) (pa_cons (pe_fld (pv 0) rfl) (pa_cons (pv 1) (pa_nil)))))
 (pss_one (ps_ret (pe_callTy call_tuple_of (by rfl) T.n_tuple b_tuple (pa_cons (pe_lc (own := [("edge", 2)]) (g := gName 2)  rfl sc_W_out.nd (pi_tup (pe_fld (pv 0) rfl)) (blkOk_by (N := N_W_out) (sc := defScope s_W_out) (by decide +kernel)) (fun _ _ _ _ _ => pg_name (i := 2) sc_W_out.nd rfl (Or.inl rfl)) (fun _ _ _ _ _ => pts_one (pt_cmpR op_eq (pe_ix (ix_tupK (K := K) rfl) (pv 2) pe_int (fun _ _ => rfl)) (pv 1) (nomark _))) (fun _ _ _ _ _ => pv 2)) (pa_nil))))), ?_⟩
  obtain ⟨x, h, n, v, ss, rfl, WA, hok, hl, hv, kk⟩ := h
  obtain ⟨dx, fs, te, us, h1, f2, f3, h2, h3⟩ := id WA
  refine ⟨_, rfl, x, C, dx, _, _, rfl, h1, cl, na2, f2, _, rfl, _, v, rfl, hv.1, hv.2, ?_⟩
  refine ⟨_, rfl, x, C, dx, _, _, rfl, h1, cl, na3, f3, te, rfl, ⟨_, SqT.of h2⟩, fun D hD => ?_⟩
  refine lc_tup (K := K) (a := te) (xs := us.map V.ref) (fun i H' => Same H H' ∧ ∃ ws, H' D = some (.lst (ws.map V.ref)) ∧ RowsH H ws ((ss.take i).filter fun e => decide (e.head? = some v))) ⟨same_new hD, [], upd_same, RowsH.nil⟩ (fun i H' _ h => SqT.of (h.1 _ _ h2)) ?_ ?_
  · rintro i y H2 hy ⟨s2, ws, hD2, hW⟩
    rw [List.getElem?_map] at hy
    cases q : us[i]? with
    | none => rw [q] at hy; cases hy
    | some t =>
    rw [q] at hy; cases hy
    obtain ⟨e, ee, he⟩ := h3.getT q
    obtain ⟨s0, r0, t0, rfl, _⟩ := hok e (List.mem_of_getElem? ee)
    have et : ss.take (i + 1) = ss.take i ++ [[s0, r0, t0]] := by rw [List.take_succ, ee]; rfl
    refine ⟨rfl, _, rfl, t, _, _, _, rfl, rfl, SqT.of (s2 _ _ he), rfl, _, rfl, rfl, _, rfl, ?_⟩
    have em : decide (V.int s0 = V.int v) = decide (s0 = v) := by simp
    rw [em]
    refine ite_b (fun c => ?_) (fun c => ?_)
    · have wl : ws.length ≤ 63 := by
        have := List.length_filter_le (fun e : List Int => decide (e.head? = some v)) (ss.take i)
        rw [← hW.1, List.length_take] at this; omega
      have c1 : decide ([s0, r0, t0].head? = some v) = true := by simp; exact of_decide_eq_true c
      refine ⟨_, rfl, _, hD2, (by rw [List.length_map, sizeLine_eq]; omega), fun b o e => ?_, ws ++ [t], ?_, ?_⟩
      · rw [upd_ne (ne_of_none e hD)]; exact s2 _ _ e
      · rw [upd_same, List.map_append]; rfl
      · rw [et, List.filter_append, List.filter_cons, List.filter_nil, if_pos c1]
        exact hW.snoc he
    · have c1 : ¬ decide ([s0, r0, t0].head? = some v) = true := by
        intro z; simp at z; rw [decide_eq_true z] at c; cases c
      refine ⟨s2, ws, hD2, ?_⟩
      rw [et, List.filter_append, List.filter_cons, List.filter_nil, if_neg c1, List.append_nil]
      exact hW
  · rintro H2 ⟨s2, ws, hD2, hW⟩
    rw [List.length_map, h3.1, List.take_length] at hW
    refine ⟨D, _, rfl, .inl ⟨SqL.of hD2, fun b hb => ?_⟩⟩
    exact kk _ b ws (s2.new hb) upd_same ((hW.same s2).same (same_new hb))
theorem GameAt.edges {C H x h os ss} (g : GameAt C H x h os ss) : EdgesAt C H x os.length ss := by
  obtain ⟨dx, te, us, h1, h2, h3⟩ := g
  exact ⟨dx, _, te, us, h1, rfl, rfl, h2, h3⟩
theorem ok_gout (T : Txt P K mg ζ) : Met P w K mg base 3 ζ.Game "out" (spOutG ζ.Game) := by
  have su_out : SupTo P w K mg base CX0 2 ζ.Game ζ.Game "out" (spOutG ζ.Game) := T.su_Game_out.to sc_W_out (fun vs H Q E h => by obtain ⟨x, h, n, v, ss, rfl, _⟩ := h; rfl) (fun f cdv A outer s H vs Q E hr h => body_out T T.cl_Game T.na_Game_size T.na_Game_edges f cdv A outer s H vs Q E hr h)
  refine T.mt_G_out.met T.cl_Game csc_G_out (fun vs H Q E h => ?_) (fun f cc cda fd A outer s H vs Q E S hr h => ⟨_, nss_one (ns_ret (ne_supM (i := 0) S su_out hr (by first | decide | omega) pass0 (pa_cons (pv 1) (pa_nil)))), ?_⟩)
  · obtain ⟨x, h, n, v, ss, rfl, _⟩ := h; rfl
  obtain ⟨x, h, n, v, ss, rfl, WA, rest⟩ := h
  obtain ⟨dx, fs, te, us, h1, h2⟩ := id WA
  exact ⟨x, dx, fs, rfl, h1, _, rfl, x, h, n, v, ss, rfl, WA, rest⟩
end
end LR
set_option Elab.async false
set_option maxRecDepth 100000
set_option linter.all false
set_option maxHeartbeats 4000000
namespace LR
open PySem PySem.Spec PyProof.Rows L2
section
variable {P : Program} {w : World} {K : PySem.W.Frag} {mg : Str → Option Value} {base : Heap} {ζ : Cs}
def spRowS (K : PySem.W.Frag) : Sp := fun vs H Q _ => ∃ (h : Int) (a : Addr) (ls : List Int) (most : Int), vs = [.int h, .ref a, .int most] ∧ Sq K H a (ls.map V.int) ∧ (ls.length : Int) ≤ most ∧ (∀ l ∈ ls, 1 ≤ l ∧ l ≤ h) ∧ ∀ H', Same H H' → Q .non H'
theorem ok_rowS (T : Txt P K mg ζ) : Cal P w K mg base 1 "check_row" (spRowS K) := by
  refine T.d_check_row.cal sc_check_row (fun vs H Q E h => ?_) (fun f cdv A outer s H vs Q E hr h => ⟨_, pss_cons (ps_if (pt_cmpR op_gt (pe_callB call_len_seq (by rfl) T.n_len b_len (pa_cons (pv 1) (pa_nil))) (pv 2) (nomark _))
 (pss_never)
 (pss_nil))
 (pss_one (ps_for PassesOwn.never rfl (pi_enumS (by rfl) T.n_enumerate (pa_cons (pv 1) (pa_nil))) (pg_tup rfl (pgs_cons (pg_name (i := 3) sc_check_row.nd rfl (Or.inl rfl)) (pgs_cons (pg_name (i := 4) sc_check_row.nd rfl (Or.inl rfl)) (pgs_nil))))
 (pss_one (ps_if (pt_not (pt_chain op_le op_le (pe_int) (pv 4) (pv 0) ))
 (pss_never)
 (pss_nil))))), ?_⟩)
  · obtain ⟨h, a, ls, most, rfl, _⟩ := h; rfl
  obtain ⟨h, a, ls, most, rfl, hS, hl, hb, kk⟩ := h
  refine ⟨_, rfl, a, _, rfl, hS, _, rfl, _, _, rfl, rfl, _, rfl, ?_⟩
  refine ite2 (fun c => absurd (of_decide_eq_true c) (by rw [List.length_map]; omega)) (fun _ => ?_)
  refine ⟨_, rfl, a, rfl, hS.enum (Same.refl _) fun J G W g1 g2 => for_it W (fun i σ H' => Same H H' ∧ ∃ y z, σ = [some (.int h), some (.ref a), some (.int most), y, z]) ⟨Same.refl _, _, _, rfl⟩ (fun i σ H' _ h => g1 _ h.1) ?_ (fun σ H' h => ?_)⟩
  · rintro i x σ H1 H2 hi ⟨s1, y, z, rfl⟩ ⟨t, x, y, rfl, ht, rfl, ex, ey⟩
    cases ex
    obtain ⟨l, el, rfl⟩ := map_get ey
    obtain ⟨b1, b2⟩ := hb l (List.mem_of_getElem? el)
    refine ⟨t, _, rfl, SqT.of upd_same, rfl, _, _, rfl, _, _, rfl, rfl, ?_⟩
    refine ⟨_, rfl, _, _, rfl, rfl, _, rfl, ?_⟩
    refine ite2 (fun c => ?_) (fun c => absurd (decide_eq_true b1) c)
    refine ⟨_, rfl, _, _, rfl, rfl, _, rfl, ?_⟩
    refine ite2 (fun c => ?_) (fun _ => ⟨s1.new ht, _, _, rfl⟩)
    rw [decide_eq_true b2] at c; cases c
  · exact kk _ h.1
def spCountsS (K : PySem.W.Frag) : Sp := fun vs H Q _ => ∃ (lv : Int) (a : Addr) (ls : List Int), vs = [.int lv, .ref a] ∧ Sq K H a (ls.map V.int) ∧ ls.length ≤ 1000 ∧ ∀ H' p, Same H H' → H p = none → H' p = some (.tup (cnL ls lv (ls.length + 1))) → Q (.ref p) H'
theorem ok_countsS (T : Txt P K mg ζ) : Cal P w K mg base 1 "_counts_from" (spCountsS K) := by
  refine T.d__counts_from.cal sc__counts_from (fun vs H Q E h => ?_) (fun f cdv A outer s H vs Q E hr h => ⟨_, pss_cons (ps_set (i := 2) sc__counts_from.nd rfl (Or.inl rfl) (pe_lst (pa_cons (pe_int) (pa_nil))))
 (pss_cons (ps_for PassesOwn.never rfl (pi_seq (pv 1)) (pg_name (i := 3) sc__counts_from.nd rfl (Or.inl rfl))
 (pss_one (ps_expr (pe_bm PySem.F.plainAttrs_list PySem.F.slot_list_append PySem.F.type_list_append mt_append (pv 2) (pa_cons (pe_op op_add (pe_ix ix_list (pv 2) (pe_un un_neg (pe_int)) (fun _ _ => rfl)) (pe_ifExp (pt_cmpR op_ge (pv 3) (pv 0) (nomark _)) (pe_int) (pe_int))) (pa_nil))))))
 (pss_one (ps_ret (pe_callTy call_tuple_of (by rfl) T.n_tuple b_tuple (pa_cons (pv 2) (pa_nil)))))), ?_⟩)
  · obtain ⟨lv, a, ls, rfl, _⟩ := h; rfl
  obtain ⟨lv, a, ls, rfl, hS, hl, kk⟩ := h
  refine ⟨(by show 1 ≤ sizeLine; decide), fun d hd => ?_⟩
  refine ⟨_, rfl, a, rfl, hS.walk (same_new hd) fun J G W g1 g2 => for_it W (fun i σ H' => Same H H' ∧ H' d = some (.lst (cnL ls lv (i + 1))) ∧ ∃ z, σ = [some (.int lv), some (.ref a), some (.ref d), z]) ⟨same_new hd, upd_same, _, rfl⟩ (fun i σ H' _ h => g1 _ h.1) ?_ ?_⟩
  · rintro i x σ H1 H2 hi ⟨s1, h1, z, rfl⟩ ⟨rfl, hx⟩
    obtain ⟨l, el, rfl⟩ := map_get hx
    have hi : i < ls.length := (List.getElem?_eq_some_iff.mp el).1
    refine ⟨_, rfl, .inl ⟨rfl, _, SqL.of h1⟩, _, rfl, _, rfl, _, _, _, _, rfl, rfl, SqL.of h1, (by rw [cnL_succ]; exact atI_last _ _), ?_⟩
    refine ⟨_, rfl, _, rfl, _, _, rfl, rfl, _, rfl, ?_⟩
    have fin : ∀ z1 : Int, cn ls lv (i + 1) = cn ls lv i + z1 → Same H (upd H2 d (.lst (cnL ls lv (i + 1) ++ [V.int (cn ls lv i + z1)]))) ∧ (upd H2 d (.lst (cnL ls lv (i + 1) ++ [V.int (cn ls lv i + z1)]))) d = some (.lst (cnL ls lv (i + 1 + 1))) := fun z1 e => by
      refine ⟨fun b o e1 => ?_, ?_⟩
      · rw [upd_ne (ne_of_none e1 hd)]; exact s1 _ _ e1
      · rw [upd_same, cnL_succ (n := i + 1), e]
    have e0 := cn_succ (lv := lv) el
    refine ite2 (fun c => ?_) (fun c => ?_)
    · have c := of_decide_eq_true c
      rw [if_pos c] at e0
      obtain ⟨f1, f2⟩ := fin 1 e0
      exact ⟨_, _, rfl, rfl, d, _, _, rfl, rfl, h1, by rw [cnL_length, sizeLine_eq]; omega, f1, f2, _, rfl⟩
    · have c : ¬ lv ≤ l := fun q => c (decide_eq_true q)
      rw [if_neg c] at e0
      obtain ⟨f1, f2⟩ := fin 0 e0
      exact ⟨_, _, rfl, rfl, d, _, _, rfl, rfl, h1, by rw [cnL_length, sizeLine_eq]; omega, f1, f2, _, rfl⟩
  · rintro σ H1 ⟨s1, h1, z, rfl⟩
    rw [List.length_map] at h1
    refine ⟨_, rfl, d, _, rfl, .inl ⟨SqL.of h1, fun t ht => ?_⟩⟩
    exact kk _ t (s1.new ht) (s1.free ht) upd_same
def spInitS (C : Addr) : Sp := fun vs H Q _ => ∃ (x a dx : Addr) (h : Int) (ls : List Int), vs = [.ref x, .int h, .ref a] ∧ H x = some (.ins C dx []) ∧ (H a = some (.lst (ls.map V.int)) ∨ H a = some (.tup (ls.map V.int))) ∧ (h = 1 ∨ h = 2 ∨ h = 3) ∧ ls.length ≤ 24 ∧ (∀ l ∈ ls, 1 ≤ l ∧ l ≤ h) ∧ ∀ H', Keep x H H' → LadderAt C H' x h ls → Q .non H'
theorem ok_initS (T : Txt P K mg ζ) : Mak P w K mg base 2 "Ladder" ζ.Ladder (spInitS ζ.Ladder) := by
  have c_check_height : Cal P w K mg base 1 "check_height" spHeight := ok_height T
  have c_check_row : Cal P w K mg base 1 "check_row" (spRowS K) := ok_rowS T
  have c__counts_from : Cal P w K mg base 1 "_counts_from" (spCountsS K) := ok_countsS T
  refine T.mk_Ladder.mak sc_L_init (fun vs H Q E h => ?_) (fun f cdv A outer s H vs Q E hr h => ⟨_, pss_cons (ps_expr (pe_c c_check_height hr (by first | decide | omega) (by rfl) (pa_cons (pv 1) (pa_nil))))
 (pss_cons (ps_expr (pe_c c_check_row hr (by first | decide | omega) (by rfl) (pa_cons (pv 1) (pa_cons (pv 2) (pa_cons (ClX.pe_cval (pe_glob (v := .ref ζ.Ladder) (by rfl) T.mg_Ladder rfl)) (pa_nil))))))
 (pss_cons (ps_fld (pv 0) (pv 1) rfl)
 (pss_cut (ps_fld (pv 0) (pe_callTy call_tuple_of (by rfl) T.n_tuple b_tuple (pa_cons (pv 2) (pa_nil))) rfl)
 (pss_cons (ps_fld (pv 0) (pe_callB call_len_seq (by rfl) T.n_len b_len (pa_cons (pv 2) (pa_nil))) rfl)
 (pss_one (ps_fld (pv 0) (pe_callTy call_tuple_of (by rfl) T.n_tuple b_tuple (pa_cons (pe_lc (own := [("level", 3)]) (g := gName 3) (tt := tYes)  rfl sc_L_init.nd (pi_range2 rfl T.n_range (pa_cons (pe_int) (pa_cons (pe_op op_add (pv 1) (pe_int)) (pa_nil)))) (blkOk_by (N := N_L_init) (sc := defScope s_L_init) (by decide +kernel)) (fun _ _ _ _ _ => pg_name (i := 3) sc_L_init.nd rfl (Or.inl rfl)) (fun _ _ _ _ _ => pts_nil) (fun _ _ _ _ _ => pe_c c__counts_from hr (by first | decide | omega) (by rfl) (pa_cons (pv 3) (pa_cons (pv 2) (pa_nil))))) (pa_nil))) rfl)))))), ?_⟩)
  · obtain ⟨x, a, dx, h, ls, rfl, _⟩ := h; rfl
  obtain ⟨x, a, dx, h, ls, rfl, hx, ha, hh, hl, hb, kk⟩ := h
  have nax : a ≠ x := by
    rcases ha with ha | ha
    · exact ne_of ha hx (by intro z; cases z)
    · exact ne_of ha hx (by intro z; cases z)
  have hS : Sq K H a (ls.map V.int) := by
    rcases ha with ha | ha
    · exact .inl (SqL.of ha)
    · exact .inr (SqT.of ha)
  obtain ⟨mc, u, cr, cv⟩ := T.cv_Ladder_MOST_LEVELS
  refine ⟨_, rfl, h, rfl, hh, fun H1 s1 => ?_⟩
  refine ⟨_, rfl, _, rfl, ζ.Ladder, mc, _, u, rfl, cr, cv, h, a, ls, 24, rfl, hS.same s1, by omega, hb, fun H2 s2 => ?_⟩
  have k2 : Keep x H H2 := (s1.trans s2).keep
  refine ⟨_, rfl, _, rfl, x, ζ.Ladder, dx, _, rfl, s2 _ _ (s1 _ _ hx), T.cl_Ladder, T.na_Ladder_height, (by show 0 < 1000; decide), ?_⟩
  have k3 : Keep x H (upd H2 x (.ins ζ.Ladder dx (putF "height" (V.int h) []))) := k2.upd
  refine ⟨fun σ' H' => σ' = [some (.ref x), some (.int h), some (.ref a), none] ∧ Keep x H H' ∧ ∃ tl, x ≠ tl ∧ H' tl = some (.tup (ls.map V.int)) ∧ H' x = some (.ins ζ.Ladder dx (putF "levels" (V.ref tl) (putF "height" (V.int h) []))), ?_, ?_⟩
  · rcases ha with ha | ha
    · refine ⟨_, rfl, a, _, rfl, .inl ⟨SqL.of (k3 _ nax _ ha), fun tl htl => ?_⟩⟩
      have nxt : x ≠ tl := fun q => by rw [← q, upd_same] at htl; cases htl
      refine ⟨_, rfl, x, ζ.Ladder, dx, _, rfl, (upd_ne nxt).trans upd_same, T.cl_Ladder, T.na_Ladder_levels, (by show 1 < 1000; decide), ?_⟩
      exact ⟨rfl, (k3.new htl).upd, tl, nxt, by rw [upd_ne nxt.symm, upd_same], upd_same⟩
    · refine ⟨_, rfl, a, _, rfl, .inr ⟨SqT.of (k3 _ nax _ ha), ?_⟩⟩
      refine ⟨_, rfl, x, ζ.Ladder, dx, _, rfl, upd_same, T.cl_Ladder, T.na_Ladder_levels, (by show 1 < 1000; decide), ?_⟩
      exact ⟨rfl, k3.upd, a, nax.symm, by rw [upd_ne nax, k3 _ nax _ ha], upd_same⟩
  rintro σ' H3 ⟨rfl, k4, tl, nxt, htl, hx3⟩
  refine ⟨_, rfl, a, _, rfl, hS.keep k4 nax, _, rfl, x, ζ.Ladder, dx, _, rfl, hx3, T.cl_Ladder, T.na_Ladder_top, (by show 2 < 1000; decide), ?_⟩
  have k5 := k4.upd (o := .ins ζ.Ladder dx (putF "top" (V.int ((ls.map V.int).length : Int)) (putF "levels" (V.ref tl) (putF "height" (V.int h) []))))
  have hx5 : (upd H3 x (.ins ζ.Ladder dx (putF "top" (V.int ((ls.map V.int).length : Int)) (putF "levels" (V.ref tl) (putF "height" (V.int h) []))))) x = some (.ins ζ.Ladder dx (putF "top" (V.int ((ls.map V.int).length : Int)) (putF "levels" (V.ref tl) (putF "height" (V.int h) [])))) := upd_same
  have ht5 : (upd H3 x (.ins ζ.Ladder dx (putF "top" (V.int ((ls.map V.int).length : Int)) (putF "levels" (V.ref tl) (putF "height" (V.int h) []))))) tl = some (.tup (ls.map V.int)) := by rw [upd_ne nxt.symm, htl]
  generalize upd H3 x (.ins ζ.Ladder dx (putF "top" (V.int ((ls.map V.int).length : Int)) (putF "levels" (V.ref tl) (putF "height" (V.int h) [])))) = H5 at k5 hx5 ht5 ⊢
  refine ⟨_, rfl, _, _, rfl, rfl, 1, _, rfl, ⟨by decide, by decide, by omega, by omega⟩, fun D hD => ?_⟩
  have nDx : D ≠ x := fun q => by rw [q, hx5] at hD; cases hD
  refine lc_range (lo := 1) (n := (h + 2 - 1).toNat) (fun i H' => Keep x H H' ∧ H' x = H5 x ∧ H' tl = H5 tl ∧ ∃ cs : List Addr, H' D = some (.lst (cs.map V.ref)) ∧ cs.length = i ∧ ∀ (j : Nat) (b : Addr), cs[j]? = some b → H' b = some (.tup (cnL ls (j + 1) (ls.length + 1)))) ?_ ?_ ?_
  · exact ⟨k5.new hD, upd_ne nDx.symm, upd_ne (ne_of_none ht5 hD), [], upd_same, rfl, fun j b e => by simp at e⟩
  · rintro i H6 hi ⟨k6, e1, e2, cs, h6, hc, hj⟩
    refine ⟨rfl, lc_yes (iteT ?_)⟩
    refine ⟨_, rfl, _, rfl, _, a, ls, rfl, hS.keep k6 nax, by omega, fun H7 p s7 hp h7 => ?_⟩
    have nD : D ≠ p := ne_of_none h6 hp
    refine ⟨_, s7 _ _ h6, (by rw [List.length_map, hc, sizeLine_eq]; omega), ?_, ?_, ?_, cs ++ [p], ?_, by simp [hc], ?_⟩
    · intro b nb o e
      have := s7 _ _ (k6 b nb o e)
      rw [upd_ne (fun q => ?_)]
      · exact this
      · have hn : H D = none := by
          cases q2 : H D with
          | none => rfl
          | some o2 =>
            have := k5 D nDx o2 q2
            rw [hD] at this; cases this
        rw [q, hn] at e; cases e
    · rw [upd_ne nDx.symm, s7 x _ (e1.trans hx5), hx5]
    · rw [upd_ne (ne_of_none ht5 hD), s7 tl _ (e2.trans ht5), ht5]
    · rw [upd_same, List.map_append]; rfl
    · intro j b e
      rw [List.getElem?_append] at e
      split at e
      · rename_i hj2
        have h8 := s7 _ _ (hj j b e)
        rw [upd_ne (fun q => ?_)]
        · exact h8
        · rw [q, s7 _ _ h6] at h8; cases h8
      · rename_i hj2
        have ej : j = i := by
          have := (List.getElem?_eq_some_iff.mp e).1
          simp at this; omega
        subst ej
        rw [hc, Nat.sub_self] at e
        simp at e
        subst e
        rw [upd_ne nD.symm, h7, Int.add_comm]
  · rintro H6 ⟨k6, e1, e2, cs, h6, hc, hj⟩
    refine ⟨D, _, rfl, .inl ⟨SqL.of h6, fun tc htc => ?_⟩⟩
    have hx6 := e1.trans hx5
    have ht6 := e2.trans ht5
    have nx : x ≠ tc := ne_of_none hx6 htc
    refine ⟨_, rfl, x, ζ.Ladder, dx, _, rfl, (upd_ne nx).trans hx6, T.cl_Ladder, T.na_Ladder__counts, (by show 3 < 1000; decide), ?_⟩
    refine kk _ ((k6.new htc).upd) ⟨dx, tl, tc, ?_, ?_, cs, ?_, by rw [hc]; omega, fun j b e => ?_⟩
    · rw [upd_same, List.length_map]; rfl
    · rw [upd_ne nxt.symm, upd_ne (ne_of_none ht6 htc), ht6]
    · rw [upd_ne nx.symm, upd_same]
    · have h9 := hj j b e
      rw [upd_ne (ne_of h9 hx6 (by intro z; cases z)), upd_ne (ne_of_none h9 htc), h9]
end
end LR
set_option Elab.async false
set_option maxRecDepth 100000
set_option linter.all false
set_option maxHeartbeats 4000000
namespace LR
open PySem PySem.Spec PyProof.Rows L2
section
variable {P : Program} {w : World} {K : PySem.W.Frag} {mg : Str → Option Value} {base : Heap} {ζ : Cs}
def spStep : Sp := fun vs H Q _ => ∃ (m u : Int), vs = [.int m, .int u] ∧ 0 ≤ u ∧ u ≤ m ∧ Q .non H
theorem ok_step (T : Txt P K mg ζ) : Cal P w K mg base 1 "check_step" spStep := by
  refine T.d_check_step.cal sc_check_step (fun vs H Q E h => ?_) (fun f cdv A outer s H vs Q E hr h => ⟨_, pss_one (ps_if (pt_not (pt_chain op_le op_le (pe_int) (pv 1) (pv 0) ))
 (pss_never)
 (pss_nil)), ?_⟩)
  · obtain ⟨m, u, rfl, _⟩ := h; rfl
  obtain ⟨m, u, rfl, u0, u1, kk⟩ := h
  refine ⟨_, rfl, _, _, rfl, rfl, _, rfl, ?_⟩
  refine ite2 (fun c => ?_) (fun c => absurd (decide_eq_true u0) c)
  refine ⟨_, rfl, _, _, rfl, rfl, _, rfl, ?_⟩
  refine ite2 (fun c => ?_) (fun _ => kk)
  rw [decide_eq_true u1] at c; cases c
end
end LR
set_option Elab.async false
set_option maxRecDepth 100000
set_option linter.all false
set_option maxHeartbeats 4000000
namespace LR
open PySem PySem.Spec PyProof.Rows L2
section
variable {P : Program} {w : World} {K : PySem.W.Frag} {mg : Str → Option Value} {base : Heap} {ζ : Cs}
def spGapP (C : Addr) : Sp := fun vs H Q _ => ∃ (x : Addr) (h : Int) (ls : List Int) (u w : Int), vs = [.ref x, .int u, .int w] ∧ LadderAt C H x h ls ∧ ls.length ≤ 1000 ∧ (0 ≤ u ∧ u ≤ ls.length) ∧ (0 ≤ w ∧ w ≤ ls.length) ∧ ∀ H', Same H H' → Q (.int (gapI ls u w)) H'
theorem ok_gapP (T : Txt P K mg ζ) : Met P w K mg base 2 ζ.Ladder "gap" (spGapP ζ.Ladder) := by
  have c_check_step : Cal P w K mg base 1 "check_step" spStep := ok_step T
  refine T.mt_L_gap.met T.cl_Ladder sc_L_gap (fun vs H Q E h => ?_) (fun f cdv A outer s H vs Q E hr h => ⟨_, pss_cons (ps_expr (pe_c c_check_step hr (by first | decide | omega) (by rfl) (pa_cons (pe_fld (pv 0) rfl) (pa_cons (pv 1) (pa_nil)))))
 (pss_cons (ps_expr (pe_c c_check_step hr (by first | decide | omega) (by rfl) (pa_cons (pe_fld (pv 0) rfl) (pa_cons (pv 2) (pa_nil)))))
 (pss_one (ps_ret (pe_callBK (cr_maxD rfl (Nat.lt_of_le_of_lt (Nat.add_le_add_left (by decide) _) hr.units)) (by rfl) T.n_max b_max (pa_cons (pe_slice sl_tupA (pe_fld (pv 0) rfl) (po_some (pe_callB (call_min2 rfl) (by rfl) T.n_min b_min (pa_cons (pv 1) (pa_cons (pv 2) (pa_nil))))) (po_some (pe_callB (call_max2 rfl) (by rfl) T.n_max b_max (pa_cons (pv 1) (pa_cons (pv 2) (pa_nil)))))) (pa_nil)) (pk_cons (pe_int) pk_nil))))), ?_⟩)
  · obtain ⟨x, h, ls, p, w, rfl, _⟩ := h; rfl
  obtain ⟨x, h, ls, u, w, rfl, LA, hl, bu, bw, good⟩ := h
  obtain ⟨dx, tl, tc, h1, h2, h3⟩ := id LA
  refine ⟨_, rfl, x, ζ.Ladder, dx, _, _, rfl, h1, T.cl_Ladder, T.na_Ladder_top, rfl, _, rfl, _, u, rfl, bu.1, bu.2, ?_⟩
  refine ⟨_, rfl, x, ζ.Ladder, dx, _, _, rfl, h1, T.cl_Ladder, T.na_Ladder_top, rfl, _, rfl, _, w, rfl, bw.1, bw.2, ?_⟩
  have h2L : SqT K H tl (ls.map V.int) := SqT.of h2
  refine ⟨_, rfl, x, ζ.Ladder, dx, _, _, rfl, h1, T.cl_Ladder, T.na_Ladder_levels, rfl, _, rfl, _, rfl, u, w, rfl, _, rfl, _, rfl, _, rfl, u, w, rfl, _, rfl, tl, _, rfl, h2L, fun full => ?_, fun nf t ht => ?_⟩
  · have e := whole_gap bu bw full
    exact ⟨tl, gapL ls u w, 0, rfl, rfl, (by rw [e]; exact h2L), good H (Same.refl _)⟩
  · refine ⟨t, gapL ls u w, 0, rfl, rfl, ?_, good _ (same_new ht)⟩
    rw [← cut_gap bu bw]
    exact SqT.of upd_same
end
end LR
set_option Elab.async false
set_option maxRecDepth 100000
set_option linter.all false
set_option maxHeartbeats 4000000
namespace LR
open PySem PySem.Spec PyProof.Rows L2
section
variable {P : Program} {w : World} {K : PySem.W.Frag} {mg : Str → Option Value} {base : Heap} {ζ : Cs}
def fPool : Fs := fun as _ Q => ∃ (ns : List Int) (k : Nat), as = [.scr ns, .d (nat k)] ∧ Q .pool
theorem q_pool (T : Txt P K mg ζ) : CalX P w K mg base 1 "_law_pool" (spF K fPool) := (ok_pool T).toX.imp fun vs H Q E h => by
  obtain ⟨g, as, Ed, Qd, en, ia, ⟨ns, k, rfl, q⟩, kv, _⟩ := h
  obtain ⟨a, r, rfl, sc, ia⟩ := ia.s1
  obtain ⟨v, r, rfl, i1, ia⟩ := ia.d1
  cases ia.n0
  exact ⟨a, ns, k, by rw [i1.intE], sc.at_ en, fun p x y z t hp => kv (.ref p) .pool _ _ pool_le (en.ok.pool hp ⟨_, _, _, _, upd_same⟩) ⟨p, rfl, .inr rfl⟩ q⟩
def fDraw : Fs := fun as _ Q => ∃ m : Int, as = [.pool, .d (.int m)] ∧ 0 < m ∧ m < 1073741824 ∧ ∀ v : Int, 0 ≤ v → v < m → Q (.d (.int v))
theorem q_draw (T : Txt P K mg ζ) : CalX P w K mg base 1 "_law_draw" (spF K fDraw) := (ok_draw T).toX.imp fun vs H Q E h => by
  obtain ⟨g, as, Ed, Qd, en, ia, ⟨m, rfl, h0, h1, q⟩, kv, _⟩ := h
  obtain ⟨p, r, rfl, mp, ia⟩ := ia.p1
  obtain ⟨v, r, rfl, i1, ia⟩ := ia.d1
  cases ia.n0
  exact ⟨p, m, by rw [i1.intE], (en.ok.pl p mp).1, h0, h1, fun u H' u0 u1 kp hp => kv (.int u) (.d (.int u)) _ _ (grow_le en.ok) (en.ok.keep mp kp hp) (Is.int u) (q u u0 u1)⟩
end
end LR
set_option Elab.async false
set_option maxRecDepth 100000
set_option linter.all false
set_option maxHeartbeats 4000000
namespace LR
open PySem PySem.Spec PyProof.Rows L2
section
variable {P : Program} {w : World} {K : PySem.W.Frag} {mg : Str → Option Value} {base : Heap} {ζ : Cs}
def fWeb (C : Addr) : Fs := fun as _ Q => ∃ (h n : Int) (tp : Bool) (es : List (List Int)), as = [.d (.int h), .d (.int n), .d (edX tp es)] ∧ (h = 1 ∨ h = 2 ∨ h = 3) ∧ (1 ≤ n ∧ n ≤ 9) ∧ es.length ≤ 63 ∧ (∀ e ∈ es, EdgeOk h n e) ∧ es.Nodup ∧ ∀ ss, ss.Perm es → ss.Pairwise elt → Q (.d (webD C h n ss))
theorem made_rows {H : Hp} {y dx C : Addr} (hy : H y = none) (hd : H dx = none) : Same H (upd (upd H dx (.own y)) y (.ins C dx [])) := fun b o e => by
  rw [upd_ne (ne_of_none e hy), upd_ne (ne_of_none e hd)]; exact e
theorem mk_Web (T : Txt P K mg ζ) : ∀ {vs H Q E}, spF K (fWeb ζ.Web) vs H Q E → ∀ y dx, H y = none → H dx = none → dx ≠ y → spWeb ζ.Web (.ref y :: vs) (upd (upd H dx (.own y)) y (.ins ζ.Web dx [])) (fun v H2 => v = .non ∧ Q (.ref y) H2) E := fun {vs H Q E} h y dx hy hd ne => by
  obtain ⟨g, as, Ed, Qd, en, ia, ⟨h, n, tp, es, rfl, hh, hn, hl, hok, hnd, q⟩, kv, _⟩ := h
  obtain ⟨v1, r, rfl, i1, ia⟩ := ia.d1
  obtain ⟨v2, r, rfl, i2, ia⟩ := ia.d1
  obtain ⟨v3, r, rfl, i3, ia⟩ := ia.d1
  cases ia.n0
  obtain ⟨a, ts, rfl, ha, hr⟩ := edX_at i3
  have s0 := made_rows (C := ζ.Web) hy hd
  have sb := en.ok.sb
  refine ⟨y, a, dx, h, n, ts, es, by rw [i1.intE, i2.intE], upd_same, ?_, (hr.same sb).same s0, hh, hn, hl, hok, hnd, fun H' ss k W perm pw => ⟨rfl, ?_⟩⟩
  · rcases ha with ha | ha
    · exact .inl (s0 _ _ (sb _ _ ha))
    · exact .inr (s0 _ _ (sb _ _ ha))
  · have s1 := made_same hy hd k
    have w1 := en.ok.same s1
    have okS : ∀ e ∈ ss, EdgeOk h n e := fun e he => hok e (perm.mem_iff.mp he)
    refine kv _ (.d (webD ζ.Web h n ss)) H' _ (grow_le en.ok) w1 ?_ (q ss perm pw)
    exact webD_of w1 T.cl_Web (fun f hf => by
      simp only [List.mem_cons, List.not_mem_nil, or_false] at hf
      rcases hf with rfl | rfl | rfl
      · exact T.na_Web_height
      · exact T.na_Web_size
      · exact T.na_Web_edges) W (by rw [perm.length_eq]; omega) (ed3 okS)
end
end LR
set_option Elab.async false
set_option maxRecDepth 100000
set_option linter.all false
set_option maxHeartbeats 4000000
namespace LR
open PySem PySem.Spec PyProof.Rows L2
section
variable {P : Program} {w : World} {K : PySem.W.Frag} {mg : Str → Option Value} {base : Heap} {ζ : Cs}
def fGame (C : Addr) : Fs := fun as _ Q => ∃ (h : Int) (os : List Bool) (tp : Bool) (es : List (List Int)), as = [.d (.int h), .d (.str (strO os)), .d (edX tp es)] ∧ (h = 1 ∨ h = 2 ∨ h = 3) ∧ (1 ≤ os.length ∧ os.length ≤ 9) ∧ es.length ≤ 63 ∧ (∀ e ∈ es, EdgeOk h os.length e) ∧ es.Nodup ∧
  (∀ v : Nat, v < os.length → ∃ e ∈ es, e.head? = some (v : Int)) ∧ ∀ ss, ss.Perm es → ss.Pairwise elt → Q (.d (gameD C h os ss))
theorem naGame (T : Txt P K mg ζ) : ∀ f ∈ (["height", "size", "edges", "owners"] : List Str), NoAttr K ζ.Game f := fun f hf => by
  simp only [List.mem_cons, List.not_mem_nil, or_false] at hf
  rcases hf with rfl | rfl | rfl | rfl
  · exact T.na_Game_height
  · exact T.na_Game_size
  · exact T.na_Game_edges
  · exact T.na_Game_owners
theorem mk_Game (T : Txt P K mg ζ) : ∀ {vs H Q E}, spF K (fGame ζ.Game) vs H Q E → ∀ y dx, H y = none → H dx = none → dx ≠ y → spGame ζ.Game (.ref y :: vs) (upd (upd H dx (.own y)) y (.ins ζ.Game dx [])) (fun v H2 => v = .non ∧ Q (.ref y) H2) E := fun {vs H Q E} h y dx hy hd ne => by
  obtain ⟨g, as, Ed, Qd, en, ia, ⟨h, os, tp, es, rfl, hh, hn, hl, hok, hnd, hde, q⟩, kv, _⟩ := h
  obtain ⟨v1, r, rfl, i1, ia⟩ := ia.d1
  obtain ⟨v2, r, rfl, i2, ia⟩ := ia.d1
  obtain ⟨v3, r, rfl, i3, ia⟩ := ia.d1
  cases ia.n0
  obtain ⟨a, ts, rfl, ha, hr⟩ := edX_at i3
  have s0 := made_rows (C := ζ.Game) hy hd
  have sb := en.ok.sb
  refine ⟨y, a, dx, h, os, ts, es, by rw [i1.intE, i2.strE], upd_same, ?_, (hr.same sb).same s0, hh, hn, hl, hok, hnd, hde, fun H' ss k W perm pw => ⟨rfl, ?_⟩⟩
  · rcases ha with ha | ha
    · exact .inl (s0 _ _ (sb _ _ ha))
    · exact .inr (s0 _ _ (sb _ _ ha))
  · have s1 := made_same hy hd k
    have w1 := en.ok.same s1
    have okS : ∀ e ∈ ss, EdgeOk h os.length e := fun e he => hok e (perm.mem_iff.mp he)
    exact kv _ (.d (gameD ζ.Game h os ss)) H' _ (grow_le en.ok) w1 (gameD_of w1 T.cl_Game (naGame T) W (by rw [perm.length_eq]; omega) (ed3 okS)) (q ss perm pw)
end
end LR
set_option Elab.async false
set_option maxRecDepth 100000
set_option linter.all false
set_option maxHeartbeats 4000000
namespace LR
open PySem PySem.Spec PyProof.Rows L2
section
variable {P : Program} {w : World} {K : PySem.W.Frag} {mg : Str → Option Value} {base : Heap} {ζ : Cs}
def intX (tp : Bool) (l : List Int) : D := if tp then intT l else intL l
theorem seq_intX {k : List D → Prop} {tp ls} (h : k (ls.map .int)) : asD (seqI k) (.d (intX tp ls)) := by cases tp <;> exact h
theorem enm_at {l : List D} {i : Nat} {x : D} (e : (enm l)[i]? = some x) : ∃ y, l[i]? = some y ∧ x = .tup [.int (i : Nat), y] := by
  unfold enm at e
  rw [List.getElem?_map, List.getElem?_zipIdx] at e
  cases h : l[i]? with
  | none => rw [h] at e; cases e
  | some y => rw [h] at e; cases e; exact ⟨y, rfl, by simp⟩
theorem int_get {l : List Int} {i : Nat} {x : D} (e : (l.map D.int)[i]? = some x) : ∃ y, l[i]? = some y ∧ x = .int y := by
  rw [List.getElem?_map] at e
  cases h : l[i]? with
  | none => rw [h] at e; cases e
  | some y => rw [h] at e; cases e; exact ⟨y, rfl, rfl⟩
theorem nat_get {l : List Nat} {i : Nat} {x : D} (e : (l.map nat)[i]? = some x) : ∃ y, l[i]? = some y ∧ x = nat y := by
  rw [List.getElem?_map] at e
  cases h : l[i]? with
  | none => rw [h] at e; cases e
  | some y => rw [h] at e; cases e; exact ⟨y, rfl, rfl⟩
theorem map_getD {α : Type} {f : α → D} {l : List α} {i : Nat} {x : D} (e : (l.map f)[i]? = some x) : ∃ y, l[i]? = some y ∧ x = f y := by
  rw [List.getElem?_map] at e
  cases h : l[i]? with
  | none => rw [h] at e; cases e
  | some y => rw [h] at e; cases e; exact ⟨y, rfl, rfl⟩
theorem rg_get {n i : Nat} {x : D} (e : (rgD 0 n)[i]? = some x) : i < n ∧ x = nat i := by
  unfold rgD at e
  obtain ⟨y, ey, rfl⟩ := map_getD e
  have hi := (List.getElem?_eq_some_iff.mp ey).1
  rw [List.length_range] at hi
  rw [List.getElem?_range hi] at ey
  cases ey
  exact ⟨hi, by show D.int _ = D.int _; rw [Int.zero_add]⟩
theorem rg_len {a : Int} {n : Nat} : (rgD a n).length = n := by unfold rgD; rw [List.length_map, List.length_range]
theorem rg_snoc {α : Type} {f : Nat → α} {k : Nat} {x : α} (h : x = f k) : (List.range k).map f ++ [x] = (List.range (k + 1)).map f := by rw [List.range_succ, List.map_append, h]; rfl
theorem natL_at {c : List Nat} {j : Int} {k : Nat} (e : j = k) (h : k < c.length) : ixD (natL c) (.int j) = some (nat (c.getD k 0)) := by
  subst e
  show atI _ _ = _
  refine atI_of ?_
  rw [List.getElem?_map, List.getElem?_eq_getElem h, List.getD_eq_getElem?_getD, List.getElem?_eq_getElem h]; rfl
theorem intL_at {c : List Int} {j : Int} {k : Nat} {x : Int} (e : j = k) (h : c[k]? = some x) : ixD (intL c) (.int j) = some (.int x) := by
  subst e
  show atI _ _ = _
  exact atI_of (by rw [List.getElem?_map, h]; rfl)
theorem cut_take {l : List D} {n : Nat} : cutD l none (some (n : Int)) = l.take n := by
  unfold cutD
  rw [HT.sIx_none, HT.sIx_nat, List.drop_zero, Nat.sub_zero]
  rw [List.take_eq_take_iff]; omega
theorem cut_drop {l : List D} {n : Nat} : cutD l (some (n : Int)) none = l.drop n := by
  unfold cutD
  rw [HT.sIx_none, HT.sIx_nat]
  by_cases h : n ≤ l.length
  · rw [Nat.min_eq_left h, ← List.length_drop, List.take_length]
  · rw [Nat.min_eq_right (by omega), List.drop_length, List.drop_eq_nil_of_le (by omega)]; simp
end
end LR
set_option Elab.async false
set_option maxRecDepth 100000
set_option linter.all false
set_option maxHeartbeats 4000000
namespace LR
open PySem PySem.Spec PyProof.Rows L2
section
variable {P : Program} {w : World} {K : PySem.W.Frag} {mg : Str → Option Value} {base : Heap} {ζ : Cs}
/-- drawn levels -/
def fLevels : Fs := fun as _ Q => ∃ h lim : Int, as = [.pool, .d (.int h), .d (.int lim)] ∧ (1 ≤ h ∧ h ≤ 1000) ∧ (0 ≤ lim ∧ lim ≤ 1000) ∧ ∀ ls : List Int, (ls.length : Int) ≤ lim → (∀ l ∈ ls, 1 ≤ l ∧ l ≤ h) → Q (.fr (.ls (ls.map .int)))
theorem q_levels (T : Txt P K mg ζ) : CalX P w K mg base 2 "_law_levels" (spF K fLevels) := by
  have cx_draw : CalX P w K mg base 1 "_law_draw" (spF K fDraw) := q_draw T
  refine T.d_levels.dl sc_levels (by rintro as E Q ⟨h, lim, rfl, _⟩; rfl) (by decide) fun fa cdv A outer s H E hr => ⟨_, qss_cons (qs_setN (i := 3) false sc_levels.nd rfl (Or.inl rfl) (qe_cT cx_draw hr (by first | decide | omega) (takes_of rfl rfl rfl rfl) (by rfl) (qa_cons (qe_var (pv 0)) (qa_cons (qe_p (qp_op op_addA o_add (qp_var (pv 2)) (qp_int))) (qa_nil)))))
 (qss_one (qs_ret (qe_lc (own := [("index", 4)]) rfl sc_levels.nd (qi_range1 (by rfl) T.n_range (qe_var (pv 3))) (blkOk_by (N := N_levels) (sc := defScope s_levels) (by decide +kernel)) (fun _ _ _ _ _ => qg_name (pg_name (i := 4) sc_levels.nd rfl (Or.inl rfl))) (fun _ _ _ _ _ => qts_nil) (fun _ _ _ _ _ => qe_op op_addA o_add (qe_p (qp_int)) (qe_cT cx_draw hr (by first | decide | omega) takes0 (by rfl) (qa_cons (qe_var (pv 0)) (qa_cons (qe_var (pv 1)) (qa_nil)))))))), ?_⟩
  rintro as Ed Qd ⟨h, lim, rfl, ⟨h0, h1⟩, ⟨l0, l1⟩, q⟩
  refine ⟨_, rfl, lim + 1, rfl, by omega, by omega, fun n n0 n1 => ?_⟩
  refine ⟨rfl, ⟨by omega, by omega⟩, fun i acc => ∃ ls : List Int, acc = ls.map .int ∧ ls.length = i ∧ ∀ l ∈ ls, 1 ≤ l ∧ l ≤ h, ⟨[], rfl, rfl, fun _ h => by cases h⟩, ?_, ?_⟩
  · rintro i x acc ex ⟨ls, rfl, hl, hb⟩
    refine ⟨fun _ => ?_, fun c => by cases c⟩
    refine ⟨_, rfl, h, rfl, by omega, by omega, fun v v0 v1 => ⟨_, rfl, ls ++ [1 + v], by rw [List.map_append]; rfl, by rw [List.length_append, hl]; rfl, fun l hl => ?_⟩⟩
    rcases List.mem_append.mp hl with z | z
    · exact hb l z
    · rw [List.mem_singleton] at z; omega
  · rintro acc ⟨ls, rfl, hl, hb⟩
    rw [rg_len] at hl
    exact q ls (by omega) hb
/-- the gap of two steps -/
def fGapL : Fs := fun as _ Q => ∃ (ls : List Int) (i j : Nat), as = [.d (intL ls), .d (nat i), .d (nat j)] ∧ (∀ l ∈ ls, 1 ≤ l) ∧ ls.length ≤ 1000 ∧ i ≤ ls.length ∧ j ≤ ls.length ∧ Q (.d (.int (gapI ls i j)))
theorem q_gap (T : Txt P K mg ζ) : CalX P w K mg base 1 "_law_gap" (spF K fGapL) := by
  refine T.d_gap.dl sc_gap (by rintro as E Q ⟨ls, i, j, rfl, _⟩; rfl) (by decide) fun fa cdv A outer s H E hr => ⟨_, qss_cons (qs_setN (i := 3) false sc_gap.nd rfl (Or.inl rfl) (qe_p (qp_int)))
 (qss_cons (qs_for (vs := [4]) [4] (passes_of rfl) rfl (qi_range2 (by rfl) T.n_range (qe_p (qp_callB o_min2 (call_min2 rfl) (by rfl) T.n_min b_min (qps_cons (qp_var (pv 1)) (qps_cons (qp_var (pv 2)) (qps_nil))))) (qe_p (qp_callB o_max2 (call_max2 rfl) (by rfl) T.n_max b_max (qps_cons (qp_var (pv 1)) (qps_cons (qp_var (pv 2)) (qps_nil)))))) (qg_name (pg_name (i := 4) sc_gap.nd rfl (Or.inl rfl)))
 (qss_one (qs_setN (i := 3) false sc_gap.nd rfl (Or.inl rfl) (qe_p (qp_callB o_max2 (call_max2 rfl) (by rfl) T.n_max b_max (qps_cons (qp_var (pv 3)) (qps_cons (qp_ix ix_A o_ix (qp_var (pv 0)) (qp_var (pv 4)) (fun _ _ => rfl)) (qps_nil))))))))
 (qss_one (qs_ret (qe_var (pv 3))))), ?_⟩
  rintro as Ed Qd ⟨ls, i, j, rfl, hb, hl, hi, hj, q⟩
  have e1 : (if (j : Int) < i then (j : Int) else i) = (min i j : Nat) := by split <;> omega
  have e2 : (if (j : Int) > i then (j : Int) else i) = (max i j : Nat) := by split <;> omega
  refine ⟨_, rfl, .int (min i j : Nat), by show some (D.int (if (j : Int) < i then (j : Int) else i)) = _; rw [e1], .int (max i j : Nat), by show some (D.int (if (j : Int) > i then (j : Int) else i)) = _; rw [e2], ?_⟩
  refine ⟨⟨by omega, by omega, by omega, by omega, by omega⟩, fun k e => ∃ g, e = [.d (intL ls), .d (nat i), .d (nat j), .d (.int g), .any] ∧ IsGap ls (min i j) (min i j + k) g, ⟨0, rfl, Int.le_refl _, fun m z a b => by omega, .inl rfl⟩, ?_, ?_⟩
  · rintro k x e ex ⟨g, rfl, g0, g1, g2⟩
    obtain ⟨y, ey, rfl⟩ := map_getD ex
    have hy := (List.getElem?_eq_some_iff.mp ey).1
    rw [List.length_range] at hy
    rw [List.getElem?_range hy] at ey
    cases ey
    have hlt : min i j + k < ls.length := by omega
    have hv := List.getElem?_eq_getElem hlt
    refine ⟨_, pN2 rfl (p2_of rfl rfl (atI_of (k := min i j + k) (by rw [List.getElem?_map, hv]; rfl))) rfl, _, rfl, ?_, fun m z a b e => ?_, ?_⟩
    · split <;> omega
    · by_cases c : m < min i j + k
      · have := g1 m z a c e; split <;> omega
      · have : m = min i j + k := by omega
        subst this
        rw [hv] at e; cases e
        split <;> omega
    · split
      · exact .inr ⟨_, by omega, by omega, hv⟩
      · rcases g2 with g2 | ⟨m, a, b, c⟩
        · exact .inl g2
        · exact .inr ⟨m, a, by omega, c⟩
  · rintro e ⟨g, rfl, hg⟩
    rw [rg_len, show min i j + ((max i j : Nat) - (min i j : Nat) : Int).toNat = max i j by omega] at hg
    have e3 : gapI ls i j = g := gapI_of hb (by omega) (by omega) hg
    rw [e3] at q
    exact q
end
end LR
set_option Elab.async false
set_option maxRecDepth 100000
set_option linter.all false
set_option maxHeartbeats 4000000
namespace LR
open PySem PySem.Spec PyProof.Rows L2
section
variable {P : Program} {w : World} {K : PySem.W.Frag} {mg : Str → Option Value} {base : Heap} {ζ : Cs}
/-- data of depth n at most, equal or not -/
def fSame (n : Nat) : Fs := fun as _ Q => ∃ x y : D, as = [.d x, .d y] ∧ okp n x = true ∧ okp n y = true ∧ ∀ b : Bool, (b = true ↔ x = y) → Q (.d (.bl b))
theorem q_same (T : Txt P K mg ζ) (n : Nat) : CalX P w K mg base (n + 3) "_law_same" (spF K (fSame n)) := (ok_same T (n + 1)).toX.imp fun vs H Q E h => by
  obtain ⟨g, as, Ed, Qd, en, ia, ⟨x, y, rfl, ox, oy, q⟩, kv, _⟩ := h
  obtain ⟨v, r, rfl, i1, ia⟩ := ia.d1
  obtain ⟨u, r, rfl, i2, ia⟩ := ia.d1
  cases ia.n0
  obtain ⟨a, rfl, _⟩ := okp_dt n x ox
  obtain ⟨d, rfl, hd⟩ := okp_dt n y oy
  refine ⟨v, u, a, d, rfl, dtF_at en.ok.sb a i1, dtF_at en.ok.sb d i2, by omega, fun b hb => ?_⟩
  exact kv (.bl b) (.d (.bl b)) H g .rfl en.ok (Is.bl b) (q b (hb.trans ⟨fun e => by rw [e], dtF_inj _ _⟩))
end
end LR
set_option Elab.async false
set_option maxRecDepth 100000
set_option linter.all false
set_option maxHeartbeats 4000000
set_option Elab.async false
set_option maxRecDepth 100000
set_option linter.all false
set_option maxHeartbeats 4000000
namespace LR
open PySem PySem.Spec PyProof.Rows L2
section
variable {P : Program} {w : World} {K : PySem.W.Frag} {mg : Str → Option Value} {base : Heap} {ζ : Cs}
def fRowX2 : Fs := fun as _ Q => ∃ ls : List Int, as = [.d (intL ls)] ∧ ls.length ≤ 1000 ∧ Q (.fr (.ls ((rowE ls).map intT)))
theorem q_rowX2 (T : Txt P K mg ζ) : CalX P w K mg base 1 "_law_row_edges" (spF K fRowX2) := by
  refine T.d_row_edges.dl sc_row_edges (by rintro as E Q ⟨ls, rfl, _⟩; rfl) (by decide) fun fa cdv A outer s H E hr => ⟨_, qss_cons (qs_setN (i := 1) true sc_row_edges.nd rfl (Or.inl rfl) (qe_lst (qa_nil)))
 (qss_cons (qs_for (vs := [2]) [2] (passes_of rfl) rfl (qi_range1 (by rfl) T.n_range (qe_p (qp_callB o_len c_len (by rfl) T.n_len b_len (qps_cons (qp_var (pv 0)) (qps_nil))))) (qg_name (pg_name (i := 2) sc_row_edges.nd rfl (Or.inl rfl)))
 (qss_cons (qs_own m_append (ps_expr (pe_bm PySem.F.plainAttrs_list PySem.F.slot_list_append PySem.F.type_list_append mt_append (pv 1) (qa_cons (qe_p (qp_tup (qps_cons (qp_var (pv 2)) (qps_cons (qp_op op_mulA o_mul (qp_int) (qp_ix ix_A o_ix (qp_var (pv 0)) (qp_var (pv 2)) (fun _ _ => rfl))) (qps_cons (qp_op op_addA o_add (qp_var (pv 2)) (qp_int)) (qps_nil)))))) (qa_nil)))))
 (qss_one (qs_own m_append (ps_expr (pe_bm PySem.F.plainAttrs_list PySem.F.slot_list_append PySem.F.type_list_append mt_append (pv 1) (qa_cons (qe_p (qp_tup (qps_cons (qp_op op_addA o_add (qp_var (pv 2)) (qp_int)) (qps_cons (qp_op op_sub o_sub (qp_op op_mulA o_mul (qp_int) (qp_ix ix_A o_ix (qp_var (pv 0)) (qp_var (pv 2)) (fun _ _ => rfl))) (qp_int)) (qps_cons (qp_var (pv 2)) (qps_nil)))))) (qa_nil))))))))
 (qss_cons (qs_if (qt_p (qpt_cmp (op_eqD hr.units) o_eq (qp_callB o_len c_len (by rfl) T.n_len b_len (qps_cons (qp_var (pv 0)) (qps_nil))) (qp_int) (nomark _)))
 (qss_one (qs_own m_append (ps_expr (pe_bm PySem.F.plainAttrs_list PySem.F.slot_list_append PySem.F.type_list_append mt_append (pv 1) (qa_cons (qe_p (qp_tup (qps_cons (qp_int) (qps_cons (qp_int) (qps_cons (qp_int) (qps_nil)))))) (qa_nil))))))
 (qss_nil))
 (qss_one (qs_retO (pv 1))))), ?_⟩
  rintro as Ed Qd ⟨ls, rfl, hl, q⟩
  have le : ((ls.map D.int).length : Int) = ls.length := by rw [List.length_map]
  refine ⟨_, rfl, Nat.zero_le _, ?_⟩
  refine ⟨_, pN1 rfl rfl, ⟨by omega, by omega⟩, fun i e => e = [.d (intL ls), .own (.ls ((rowP ls i).map intT)), .any], rfl, ?_, ?_⟩
  · rintro i x e ex rfl
    obtain ⟨hi, rfl⟩ := rg_get ex
    rw [le, Int.toNat_natCast] at hi
    have g := intL_at (c := ls) (j := (i : Nat)) (x := ls.getD i 0) rfl (by rw [getD_get hi, List.getElem?_eq_getElem hi])
    refine ⟨_, rfl, intT [(i : Int), 2 * ls.getD i 0, (i : Int) + 1], ptup3 rfl (p2_of rfl (p2_of rfl rfl g) rfl) (p2_of rfl rfl rfl), _, _, rfl, rfl, ?_, ?_⟩
    · rw [List.length_append, List.length_map, rowP_len]; show _ + 1 ≤ 100000; omega
    refine ⟨_, rfl, intT [(i : Int) + 1, 2 * ls.getD i 0 - 1, (i : Int)], ptup3 (p2_of rfl rfl rfl) (p2_of (p2_of rfl (p2_of rfl rfl g) rfl) rfl rfl) rfl, _, _, rfl, rfl, ?_, ?_⟩
    · rw [List.length_append, List.length_append, List.length_map, rowP_len]; show _ + 1 + 1 ≤ 100000; omega
    · show _ = [Ev.d (intL ls), .own (.ls ((rowP ls (i + 1)).map intT)), .any]
      rw [rowP_succ, List.map_append, List.map_append]; rfl
  · rintro e rfl
    rw [rg_len, le, Int.toNat_natCast]
    refine ⟨decide (((ls.map D.int).length : Int) = 0), p2_of (pN1 rfl rfl) rfl rfl, fun z => ?_, fun z => ?_⟩
    · have z := of_decide_eq_true z
      rw [le] at z
      have l0 : ls.length = 0 := by omega
      unfold rowE at q
      rw [if_pos l0] at q
      rw [l0]
      exact ⟨_, rfl, intT [0, 0, 0], ptup3 rfl rfl rfl, _, _, rfl, rfl, by show 1 ≤ 100000; decide, q⟩
    · have z := of_decide_eq_false z
      rw [le] at z
      unfold rowE at q
      rw [if_neg (by omega)] at q
      exact q
end
end LR
set_option Elab.async false
set_option maxRecDepth 100000
set_option linter.all false
set_option maxHeartbeats 4000000
namespace LR
open PySem PySem.Spec PyProof.Rows L2
section
variable {P : Program} {w : World} {K : PySem.W.Frag} {mg : Str → Option Value} {base : Heap} {ζ : Cs}
theorem naLad (T : Txt P K mg ζ) : ∀ f ∈ (["height", "levels", "top", "_counts"] : List Str), NoAttr K ζ.Ladder f := fun f hf => by
  simp only [List.mem_cons, List.not_mem_nil, or_false] at hf
  rcases hf with rfl | rfl | rfl | rfl
  · exact T.na_Ladder_height
  · exact T.na_Ladder_levels
  · exact T.na_Ladder_top
  · exact T.na_Ladder__counts
theorem insE {B : Hp} {v : V} {C : Addr} {ks : List Str} {ds : List D} (h : Is K B v (.ins C ks ds)) : ∃ p, v = .ref p := by cases h; exact ⟨_, rfl⟩
theorem intX_at {B : Hp} {v : V} {tp ls} (i : Is K B v (intX tp ls)) : ∃ a, v = .ref a ∧ (B a = some (.lst (ls.map V.int)) ∨ B a = some (.tup (ls.map V.int))) := by
  cases tp with
  | true =>
    obtain ⟨p, xs, rfl, hp, ip, _⟩ := Is.tupE i
    rw [iss_insE ip] at hp
    exact ⟨p, rfl, .inr hp⟩
  | false =>
    obtain ⟨p, xs, rfl, hp, ip, _⟩ := Is.lstE i
    rw [iss_insE ip] at hp
    exact ⟨p, rfl, .inl hp⟩
def fLad (C : Addr) : Fs := fun as _ Q => ∃ (h : Int) (tp : Bool) (ls : List Int), as = [.d (.int h), .d (intX tp ls)] ∧ (h = 1 ∨ h = 2 ∨ h = 3) ∧ ls.length ≤ 24 ∧ (∀ l ∈ ls, 1 ≤ l ∧ l ≤ h) ∧ Q (.d (ladD C h ls))
theorem mk_Ladder_of (T : Txt P K mg ζ) : ∀ {vs H Q E}, spF K (fLad ζ.Ladder) vs H Q E → ∀ y dx, H y = none → H dx = none → dx ≠ y → spInitS ζ.Ladder (.ref y :: vs) (upd (upd H dx (.own y)) y (.ins ζ.Ladder dx [])) (fun v H2 => v = .non ∧ Q (.ref y) H2) E := fun {vs H Q E} h y dx hy hd ne => by
  obtain ⟨g, as, Ed, Qd, en, ia, ⟨h, tp, ls, rfl, hh, hl, hb, q⟩, kv, _⟩ := h
  obtain ⟨v1, r, rfl, i1, ia⟩ := ia.d1
  obtain ⟨v2, r, rfl, i2, ia⟩ := ia.d1
  cases ia.n0
  obtain ⟨a, rfl, ha⟩ := intX_at i2
  have s0 : Same H (upd (upd H dx (.own y)) y (.ins ζ.Ladder dx [])) := fun b o e => by
    rw [upd_ne (ne_of_none e hy), upd_ne (ne_of_none e hd)]; exact e
  have sb := en.ok.sb
  refine ⟨y, a, dx, h, ls, by rw [i1.intE], upd_same, ha.imp (fun z => s0 _ _ (sb _ _ z)) (fun z => s0 _ _ (sb _ _ z)), hh, hl, hb, fun H' k L => ⟨rfl, ?_⟩⟩
  have s1 := made_same hy hd k
  have w1 := en.ok.same s1
  exact kv _ (.d (ladD ζ.Ladder h ls)) H' _ (grow_le en.ok) w1 (ladD_of w1 T.cl_Ladder (naLad T) L (by omega) (by omega)) q
def fGapM (C : Addr) : Fs := fun as _ Q => ∃ (h : Int) (ls : List Int) (i j : Nat), as = [.d (ladD C h ls), .d (nat i), .d (nat j)] ∧ ls.length ≤ 1000 ∧ i ≤ ls.length ∧ j ≤ ls.length ∧ Q (.d (.int (gapI ls i j)))
theorem q_gapM (T : Txt P K mg ζ) : MetX P w K mg base 2 ζ.Ladder "gap" (spF K (fGapM ζ.Ladder)) := (ok_gapP T).toX.imp fun vs H Q E h => by
  obtain ⟨g, as, Ed, Qd, en, ia, ⟨h, ls, i, j, rfl, hl, hi, hj, q⟩, kv, _⟩ := h
  obtain ⟨v1, r, rfl, i1, ia⟩ := ia.d1
  obtain ⟨v2, r, rfl, i2, ia⟩ := ia.d1
  obtain ⟨v3, r, rfl, i3, ia⟩ := ia.d1
  cases ia.n0
  obtain ⟨x, rfl⟩ := insE i1
  exact ⟨x, h, ls, i, j, by rw [Is.intE i2, Is.intE i3], (ladD_at i1).same en.ok.sb, hl, ⟨by omega, by omega⟩, ⟨by omega, by omega⟩, fun H' s => kv _ (.d (.int (gapI ls i j))) H' _ (grow_le en.ok) (en.ok.same s) (Is.int _) q⟩
end
end LR
set_option Elab.async false
set_option maxRecDepth 100000
set_option linter.all false
set_option maxHeartbeats 4000000
namespace LR
open PySem PySem.Spec PyProof.Rows L2
section
variable {P : Program} {w : World} {K : PySem.W.Frag} {mg : Str → Option Value} {base : Heap} {ζ : Cs}
def fOut (C : Addr) : Fs := fun as _ Q => ∃ (h : Int) (os : List Bool) (ss : List (List Int)) (v : Nat), as = [.d (gameD C h os ss), .d (nat v)] ∧ v < os.length ∧ (∀ e ∈ ss, EdgeOk h os.length e) ∧ ss.length ≤ 63 ∧ Q (.d (edT (outs ss v)))
def fAllM (C : Addr) : Fs := fun as _ Q => ∃ (h : Int) (ls : List Int) (s t : Nat) (r : Int), as = [.d (ladD C h ls), .d (nat s), .d (.int r), .d (nat t)] ∧ 0 ≤ h ∧ s ≤ ls.length ∧ t ≤ ls.length ∧ (0 ≤ r ∧ r ≤ 2 * h) ∧ Q (.d (.bl (alw ls s r t)))
def fChkIn : Fs := fun as _ Q => ∃ a b : Int, as = [.d (.int a), .d (.int b)] ∧ (0 ≤ b ∧ b ≤ a) ∧ Q (.d .non)
theorem q_chkstep (T : Txt P K mg ζ) : CalX P w K mg base 1 "check_step" (spF K fChkIn) := by
  refine T.d_check_step.dl sc_check_step (by rintro as E Q ⟨a, b, rfl, _⟩; rfl) (by decide) fun fa cdv A outer s H E hr => ⟨_, qss_one (qs_if (qt_p (qpt_not (qpt_chain op_le op_le o_cmp o_cmp (qp_int) (qp_var (pv 1)) (qp_var (pv 0)))))
 (qss_one (qs_never))
 (qss_nil)), ?_⟩
  rintro as Ed Qd ⟨a, b, rfl, hb, q⟩
  refine ⟨false, ?_, (fun c => nomatch c), fun _ => q⟩
  show some (D.bl (!(decide (0 ≤ b) && decide (b ≤ a)))) = _
  rw [decide_eq_true hb.1, decide_eq_true hb.2]; rfl
theorem q_chkrank (T : Txt P K mg ζ) : CalX P w K mg base 1 "check_rank" (spF K fun as _ Q => ∃ h r : Int, as = [.d (.int h), .d (.int r)] ∧ (0 ≤ r ∧ r ≤ 2 * h) ∧ Q (.d .non)) := by
  refine T.d_check_rank.dl sc_check_rank (by rintro as E Q ⟨a, b, rfl, _⟩; rfl) (by decide) fun fa cdv A outer s H E hr => ⟨_, qss_one (qs_if (qt_p (qpt_not (qpt_chain op_le op_le o_cmp o_cmp (qp_int) (qp_var (pv 1)) (qp_op op_mulA o_mul (qp_int) (qp_var (pv 0))))))
 (qss_one (qs_never))
 (qss_nil)), ?_⟩
  rintro as Ed Qd ⟨h, r, rfl, hb, q⟩
  refine ⟨false, ?_, (fun c => nomatch c), fun _ => q⟩
  show some (D.bl (!(decide (0 ≤ r) && decide (r ≤ 2 * h)))) = _
  rw [decide_eq_true hb.1, decide_eq_true hb.2]; rfl
theorem q_out (T : Txt P K mg ζ) : MetX P w K mg base 3 ζ.Game "out" (spF K (fOut ζ.Game)) := (ok_gout T).toX.imp fun vs H Q E h => by
  obtain ⟨g, as, Ed, Qd, en, ia, ⟨h, os, ss, v, rfl, hv, hok, hl, q⟩, kv, _⟩ := h
  obtain ⟨v1, r, rfl, i1, ia⟩ := ia.d1
  obtain ⟨v2, r, rfl, i2, ia⟩ := ia.d1
  cases ia.n0
  obtain ⟨x, rfl⟩ := insE i1
  have G := (gameD_at i1).same en.ok.sb
  refine ⟨x, h, os.length, v, ss, by rw [i2.intE], G.edges, hok, hl, ⟨by omega, by omega⟩, fun H' b us s hb rows => ?_⟩
  have e1 : (ss.filter fun e => decide (e.head? = some (v : Int))) = outs ss v := by
    unfold outs
    refine List.filter_congr fun e he => ?_
    obtain ⟨s0, r0, t0, rfl, _⟩ := hok e he
    rw [decide_eq_decide]
    show some s0 = some (v : Int) ↔ s0 = (v : Int)
    exact ⟨fun h => Option.some.inj h, fun h => by rw [h]⟩
  rw [e1] at rows
  have w1 := en.ok.same s
  have b1 := w1.im _ _ hb trivial
  have b3 : RowsH (g.grow H H').B us (outs ss v) := ⟨rows.1, fun k t e a b => w1.im _ _ (rows.2 k t e a b) trivial⟩
  have ol : (outs ss v).length ≤ 63 := Nat.le_trans (List.length_filter_le _ _) hl
  refine kv _ (.d (edT (outs ss v))) H' _ (grow_le en.ok) w1 (.tup b1 (rows_iss b3 (ed3 fun e he => hok e (mem_outs.mp he).1)) ?_) q
  rw [List.length_map, rows.1]; omega
theorem q_lets (T : Txt P K mg ζ) : MetX P w K mg base 1 ζ.Ladder "_lets" (spF K (fAllM ζ.Ladder)) := by
  refine T.mt_Llets.dl T.cl_Ladder sc_Llets (by rintro as E Q ⟨h, ls, s, t, r, rfl, _⟩; rfl) (by decide) fun fa cdv A outer s H E hr => ⟨_, qss_cons (qs_setN (i := 4) false sc_Llets.nd rfl (Or.inl rfl) (qe_p (qp_ix ix_A o_ix (qp_fld (qp_var (pv 0)) rfl) (qp_op op_fdiv o_fdiv (qp_var (pv 2)) (qp_int)) (fun _ _ => rfl))))
 (qss_cons (qs_if (qt_p (qpt_cmp (op_eqD hr.units) o_eq (qp_op op_mod o_mod (qp_var (pv 2)) (qp_int)) (qp_int) (nomark _)))
 (qss_one (qs_ret (qe_p (qp_cmp op_ge o_cmp (qp_ix ix_A o_ix (qp_var (pv 4)) (qp_var (pv 1)) (fun _ _ => rfl)) (qp_ix ix_A o_ix (qp_var (pv 4)) (qp_var (pv 3)) (fun _ _ => rfl)) (nomark _)))))
 (qss_nil))
 (qss_one (qs_ret (qe_p (qp_cmp op_gt o_cmp (qp_ix ix_A o_ix (qp_var (pv 4)) (qp_var (pv 1)) (fun _ _ => rfl)) (qp_ix ix_A o_ix (qp_var (pv 4)) (qp_var (pv 3)) (fun _ _ => rfl)) (nomark _)))))), ?_⟩
  rintro as Ed Qd ⟨h, ls, s, t, r, rfl, h0, hs, ht, hr, q⟩
  obtain ⟨k, hk⟩ : ∃ k : Nat, r / 2 = (k : Int) := ⟨(r / 2).toNat, by omega⟩
  have e1 : ixD (.tup ((List.range (h + 1).toNat).map fun j : Nat => cntD ls ((j : Nat) + 1))) (.int (r / 2)) = some (cntD ls ((k : Int) + 1)) := by
    rw [hk]
    exact atI_of (by rw [List.getElem?_map, List.getElem?_range (by omega)]; rfl)
  have e2 : ∀ i : Nat, i ≤ ls.length → ixD (cntD ls ((k : Int) + 1)) (nat i) = some (.int (cn ls ((k : Int) + 1) i)) := fun i hi => atI_of (by rw [List.getElem?_map, List.getElem?_range (by omega)]; rfl)
  refine ⟨cntD ls ((k : Int) + 1), p2_of (p1_of rfl rfl) (p2_of rfl rfl rfl) e1, ?_⟩
  unfold alw at q
  rw [hk, Int.toNat_natCast, Int.toNat_natCast] at q
  refine ⟨decide (r % 2 = 0), p2_of (p2_of rfl rfl rfl) rfl rfl, fun z => ?_, fun z => ?_⟩
  · rw [if_pos (of_decide_eq_true z)] at q
    exact ⟨_, p2_of (p2_of rfl rfl (e2 s hs)) (p2_of rfl rfl (e2 t ht)) rfl, q⟩
  · rw [if_neg (of_decide_eq_false z)] at q
    exact ⟨_, p2_of (p2_of rfl rfl (e2 s hs)) (p2_of rfl rfl (e2 t ht)) rfl, q⟩
theorem q_allows (T : Txt P K mg ζ) : MetX P w K mg base 2 ζ.Ladder "allows" (spF K (fAllM ζ.Ladder)) := by
  have cx_check_step : CalX P w K mg base 1 "check_step" (spF K fChkIn) := q_chkstep T
  have cx_check_rank : CalX P w K mg base 1 "check_rank" (spF K fun as _ Q => ∃ h r : Int, as = [.d (.int h), .d (.int r)] ∧ (0 ≤ r ∧ r ≤ 2 * h) ∧ Q (.d .non)) := q_chkrank T
  have cx_Llets : MetX P w K mg base 1 ζ.Ladder "_lets" (spF K (fAllM ζ.Ladder)) := q_lets T
  refine T.mt_L_allows.dl T.cl_Ladder sc_L_allows (by rintro as E Q ⟨h, ls, s, t, r, rfl, _⟩; rfl) (by decide) fun fa cdv A outer s H E hr => ⟨_, qss_cons (qs_expr (qe_cT cx_check_step hr (by first | decide | omega) (takes_of rfl rfl rfl rfl) (by rfl) (qa_cons (qe_p (qp_fld (qp_var (pv 0)) rfl)) (qa_cons (qe_var (pv 1)) (qa_nil)))))
 (qss_cons (qs_expr (qe_cT cx_check_rank hr (by first | decide | omega) (takes_of rfl rfl rfl rfl) (by rfl) (qa_cons (qe_p (qp_fld (qp_var (pv 0)) rfl)) (qa_cons (qe_var (pv 2)) (qa_nil)))))
 (qss_cons (qs_expr (qe_cT cx_check_step hr (by first | decide | omega) (takes_of rfl rfl rfl rfl) (by rfl) (qa_cons (qe_p (qp_fld (qp_var (pv 0)) rfl)) (qa_cons (qe_var (pv 3)) (qa_nil)))))
 (qss_one (qs_ret (qe_mtT cx_Llets hr (by first | decide | omega) (takes_of rfl rfl rfl rfl) (qe_var (pv 0)) (qa_cons (qe_var (pv 1)) (qa_cons (qe_var (pv 2)) (qa_cons (qe_var (pv 3)) (qa_nil))))))))), ?_⟩
  rintro as Ed Qd ⟨h, ls, s, t, r, rfl, h0, hs, ht, hr, q⟩
  refine ⟨_, p1_of rfl rfl, (ls.length : Int), s, rfl, by omega, ?_⟩
  refine ⟨_, p1_of rfl rfl, h, r, rfl, hr, ?_⟩
  refine ⟨_, p1_of rfl rfl, (ls.length : Int), t, rfl, by omega, ?_⟩
  exact ⟨_, _, rfl, rfl, h, ls, s, t, r, rfl, h0, hs, ht, hr, q⟩
/-- whether the placement allows the edge -/
def fAllowedE (C : Addr) : Fs := fun as _ Q => ∃ (h : Int) (ls : List Int) (n : Nat) (φ : Plc) (e : List Int), as = [.d (ladD C h ls), .d (plcD φ), .d (intT e)] ∧ 0 ≤ h ∧ PlcOk n ls.length φ ∧ EdgeOk h n e ∧ Q (.d (.bl (match pat φ (es0 e) with | none => false | some s => okAt ls φ s e)))
theorem q_allowed (T : Txt P K mg ζ) : CalX P w K mg base 3 "is_allowed" (spF K (fAllowedE ζ.Ladder)) := by
  have cx_L_allows : MetX P w K mg base 2 ζ.Ladder "allows" (spF K (fAllM ζ.Ladder)) := q_allows T
  refine T.d_is_allowed.dl sc_is_allowed (by rintro as E Q ⟨h, ls, n, φ, e, rfl, _⟩; rfl) (by decide) fun fa cdv A outer s H E hr => ⟨_, qss_cons (qs_asg (vs := [3, 4, 5]) (qe_var (pv 2)) (qg_tup' rfl (qgs_cons' (qg_name (pg_name (i := 3) sc_is_allowed.nd rfl (Or.inl rfl))) (qgs_cons' (qg_name (pg_name (i := 4) sc_is_allowed.nd rfl (Or.inl rfl))) (qgs_cons' (qg_name (pg_name (i := 5) sc_is_allowed.nd rfl (Or.inl rfl))) (qgs_nil))))))
 (qss_cons (qs_setN (i := 6) false sc_is_allowed.nd rfl (Or.inl rfl) (qe_p (qp_ix ix_A o_ix (qp_var (pv 1)) (qp_var (pv 3)) (fun _ _ => rfl))))
 (qss_cons (qs_setN (i := 7) false sc_is_allowed.nd rfl (Or.inl rfl) (qe_p (qp_ix ix_A o_ix (qp_var (pv 1)) (qp_var (pv 5)) (fun _ _ => rfl))))
 (qss_one (qs_ret (qe_and (qe_p (qp_cmp op_notN o_notN (qp_var (pv 6)) (qp_non) (nomark _))) (qe_and (qe_p (qp_cmp op_notN o_notN (qp_var (pv 7)) (qp_non) (nomark _))) (qe_one (qe_mtT cx_L_allows hr (by first | decide | omega) (takes_of rfl rfl rfl rfl) (qe_var (pv 0)) (qa_cons (qe_var (pv 6)) (qa_cons (qe_var (pv 4)) (qa_cons (qe_var (pv 7)) (qa_nil)))))))))))), ?_⟩
  rintro as Ed Qd ⟨h, ls, n, φ, e, rfl, h0, P0, oe, q⟩
  obtain ⟨s, r, t, rfl, hs, hr, ht⟩ := oe
  obtain ⟨s, rfl⟩ : ∃ a : Nat, s = (a : Int) := ⟨s.toNat, by omega⟩
  obtain ⟨t, rfl⟩ : ∃ a : Nat, t = (a : Int) := ⟨t.toNat, by omega⟩
  have pl := P0.len
  refine ⟨_, p2_of rfl rfl (plc_at (φ := φ) (v := s) (by omega)), _, p2_of rfl rfl (plc_at (φ := φ) (v := t) (by omega)), ?_⟩
  have e1 : pat φ (es0 [(s : Int), r, (t : Int)]) = φ.getD s none := rfl
  rw [e1] at q
  cases c1 : φ.getD s none with
  | none =>
    rw [c1] at q
    exact ⟨_, rfl, false, rfl, (fun z => by cases z), fun _ => q⟩
  | some u =>
    rw [c1] at q
    have hu := P0.at_le c1
    refine ⟨_, rfl, true, rfl, fun _ => ?_, fun z => by cases z⟩
    have q : Qd (.d (.bl (match φ.getD t none with | none => false | some w => alw ls u r w))) := q
    cases c2 : φ.getD t none with
    | none =>
      rw [c2] at q
      exact ⟨_, rfl, false, rfl, (fun z => by cases z), fun _ => q⟩
    | some w =>
      rw [c2] at q
      have hw := P0.at_le c2
      refine ⟨_, rfl, true, rfl, fun _ => ?_, fun z => by cases z⟩
      exact ⟨_, _, rfl, rfl, h, ls, u, w, r, rfl, h0, hu.2, hw.2, hr, q⟩
/-- whether a node fits -/
def fFitting (C1 C2 : Addr) : Fs := fun as _ Q => ∃ (h : Int) (os : List Bool) (ss : List (List Int)) (ls : List Int) (φ : Plc) (v : Nat), as = [.d (gameD C1 h os ss), .d (ladD C2 h ls), .d (plcD φ), .d (nat v)] ∧ 0 ≤ h ∧ PlcOk os.length ls.length φ ∧ v < os.length ∧ os.length ≤ 9 ∧ (∀ e ∈ ss, EdgeOk h os.length e) ∧ ss.length ≤ 63 ∧ Q (.d (.bl (fitsB ls os ss φ v)))
theorem q_fitting (T : Txt P K mg ζ) : CalX P w K mg base 4 "is_fitting" (spF K (fFitting ζ.Game ζ.Ladder)) := by
  have cx_is_allowed : CalX P w K mg base 3 "is_allowed" (spF K (fAllowedE ζ.Ladder)) := q_allowed T
  have cx_G_out : MetX P w K mg base 3 ζ.Game "out" (spF K (fOut ζ.Game)) := q_out T
  refine T.d_is_fitting.dl sc_is_fitting (by rintro as E Q ⟨h, os, ss, ls, φ, v, rfl, _⟩; rfl) (by decide) fun fa cdv A outer s H E hr => ⟨_, qss_cons (qs_if (qt_p (qpt_cmp op_isN o_isN (qp_ix ix_A o_ix (qp_var (pv 2)) (qp_var (pv 3)) (fun _ _ => rfl)) (qp_non) (nomark _)))
 (qss_one (qs_ret (qe_p (qp_bl))))
 (qss_nil))
 (qss_cons (qs_setLc (own := [("edge", 5)]) (i := 4) false rfl sc_is_fitting.nd rfl rfl (sw_true rfl rfl rfl (by decide +kernel)) (qi_seq (qe_mtT cx_G_out hr (by first | decide | omega) (takes_of rfl rfl rfl rfl) (qe_var (pv 0)) (qa_cons (qe_var (pv 3)) (qa_nil)))) (blkOk_by (N := N_is_fitting) (sc := defScope s_is_fitting) (by decide +kernel)) (fun _ _ _ _ _ => qg_name (pg_name (i := 5) sc_is_fitting.nd rfl (Or.inl rfl))) (fun _ _ _ _ _ => qts_nil) (fun _ _ _ _ _ => qe_cT cx_is_allowed hr (by first | decide | omega) takes0 (by rfl) (qa_cons (qe_var (pv 1)) (qa_cons (qe_var (pv 2)) (qa_cons (qe_var (pv 5)) (qa_nil))))))
 (qss_one (qs_ret (qe_p (qp_if (qpt_cmp (op_eqD hr.units) o_eq (qp_ix ix_A o_ix (qp_fld (qp_var (pv 0)) rfl) (qp_var (pv 3)) (fun _ _ => rfl)) (qp_str) (nomark _)) (qp_callB o_any (cr_any rfl) (by rfl) T.n_any b_any (qps_cons (qp_var (pv 4)) (qps_nil))) (qp_callB o_all (cr_all rfl) (by rfl) T.n_all b_all (qps_cons (qp_var (pv 4)) (qps_nil)))))))), ?_⟩
  rintro as Ed Qd ⟨h, os, ss, ls, φ, v, rfl, h0, P0, hv, n9, hok, hl, q⟩
  have pl := P0.len
  refine ⟨_, p2_of (p2_of rfl rfl (plc_at (φ := φ) (v := v) (by omega))) rfl (show isND (optN (φ.getD v none)) .non = some (.bl (decide (φ.getD v none = none))) from by cases φ.getD v none <;> rfl), fun z => ?_, fun z => ?_⟩
  · have z := of_decide_eq_true z
    have : fitsB ls os ss φ v = true := by unfold fitsB; rw [z]
    rw [this] at q
    exact ⟨_, rfl, q⟩
  have z := of_decide_eq_false z
  obtain ⟨u, c1⟩ := Option.ne_none_iff_exists'.mp z
  have e1 : fitsB ls os ss φ v = goodAt ls os ss φ v u := by unfold fitsB; rw [c1]
  rw [e1] at q
  refine ⟨rfl, _, _, rfl, rfl, h, os, ss, v, rfl, hv, hok, hl, fun i acc => acc = ((outs ss v).take i).map (fun e => D.bl (okAt ls φ u e)), rfl, ?_, ?_⟩
  · rintro i x acc ex rfl
    obtain ⟨e, ee, rfl⟩ := map_getD ex
    have em := mem_outs.mp (List.mem_of_getElem? ee)
    have oe := hok e em.1
    refine ⟨fun _ => ?_, fun c => by cases c⟩
    refine ⟨h, ls, os.length, φ, e, rfl, h0, P0, oe, ?_⟩
    have e2 : pat φ (es0 e) = some u := by
      unfold pat; rw [em.2, Int.toNat_natCast]; exact c1
    rw [e2]
    show _ = _
    rw [List.take_succ, ee, List.map_append]; rfl
  · rintro acc rfl
    rw [List.length_map, List.take_length]
    obtain ⟨x, ex, eA⟩ := owner_A (os := os) (v := v) (by omega) hv
    refine ⟨_, pif_of (p2_of (p2_of (p1_of rfl rfl) rfl ex) rfl eA) (z := .bl (goodAt ls os ss φ v u)) (fun b => (pN1 rfl any_map).trans ?_) (fun b => (pN1 rfl all_map).trans ?_), q⟩
    · unfold goodAt; rw [if_pos b]
    · unfold goodAt; rw [if_neg (by rw [b]; decide)]
end
end LR
set_option Elab.async false
set_option maxRecDepth 100000
set_option linter.all false
set_option maxHeartbeats 4000000
namespace LR
open PySem PySem.Spec PyProof.Rows L2
section
variable {P : Program} {w : World} {K : PySem.W.Frag} {mg : Str → Option Value} {base : Heap} {ζ : Cs}
def fSameHX (C : Addr) : Fs := fun as Ed Q => ∃ h k : Int, as = [.d (.int h), .d (.int k)] ∧ (0 ≤ h ∧ h ≤ 1000) ∧ (0 ≤ k ∧ k ≤ 1000) ∧ (h ≠ k → Ed ⟨C, none⟩) ∧ (h = k → Q (.d .non))
theorem q_samehX (T : Txt P K mg ζ) : CalX P w K mg base 1 "check_same_height" (spF K (fSameHX ζ.HeightMismatch)) := by
  refine T.d_check_same_height.dl sc_check_same_height (by rintro as E Q ⟨h, k, rfl, _⟩; rfl) (by decide) fun fa cdv A outer s H E hr => ⟨_, qss_one (qs_if (qt_p (qpt_cmp (op_neD hr.units) o_ne (qp_var (pv 0)) (qp_var (pv 1)) (nomark _)))
 (qss_one (qs_raiseP rfl (takes_of rfl rfl rfl rfl) PySem.F.excBase_ValueError T.r_HeightMismatch.xP T.r_HeightMismatch.gC T.r_HeightMismatch.kP (raises_own T.r_HeightMismatch.bP T.r_HeightMismatch.tP) (by rfl) (qe_msg (.txt qp_str (.val (qp_var (pv 0)) (.txt qp_str (.val (qp_var (pv 1)) (.txt qp_str (.nil)))))))))
 (qss_nil)), ?_⟩
  rintro as Ed Qd ⟨h, k, rfl, hb, kb, q1, q2⟩
  refine ⟨decide (h ≠ k), ?_, fun z => ?_, fun z => q2 ?_⟩
  · show some (D.bl (!decide (h = k))) = _
    rw [← decide_not]
  · have z := of_decide_eq_true z
    refine ⟨⟨⟨_, rfl, (by show _ ≤ 1000; decide)⟩, ⟨_, rfl, ?_⟩, ⟨_, rfl, (by show _ ≤ 1000; decide)⟩, ⟨_, rfl, ?_⟩, ⟨_, rfl, (by show _ ≤ 1000; decide)⟩, trivial⟩, fun _ => q1 z⟩
    · show h.natAbs < 2 ^ 1900
      exact Nat.lt_of_le_of_lt (show h.natAbs ≤ 1000 by omega) (by decide)
    · show k.natAbs < 2 ^ 1900
      exact Nat.lt_of_le_of_lt (show k.natAbs ≤ 1000 by omega) (by decide)
  · have := of_decide_eq_false z
    exact Classical.byContradiction this
def badP (top : Nat) : Option Int → Bool
  | none => false
  | some i => !(decide (0 ≤ i) && decide (i ≤ top))
/-- what is wrong with a placement, or what follows -/
def plcEd (C1 C2 : Addr) (h k : Int) (top : Nat) (φ : List (Option Int)) (Ed : Er → Prop) (ok : Prop) : Prop := (h ≠ k → Ed ⟨C1, none⟩) ∧ (h = k → ∀ j, φ.findIdx? (badP top) = some j → Ed ⟨C2, some [("node", .int (j : Nat))]⟩) ∧ (h = k → φ.findIdx? (badP top) = none → ok)
def fChkP (C1 C2 G L : Addr) : Fs := fun as Ed Q => ∃ (h k : Int) (os : List Bool) (ss : List (List Int)) (ls : List Int) (φ : List (Option Int)), as = [.d (gameD G h os ss), .d (ladD L k ls), .d (plcI φ)] ∧ (0 ≤ h ∧ h ≤ 1000) ∧ (0 ≤ k ∧ k ≤ 1000) ∧ φ.length ≤ 1000 ∧ plcEd C1 C2 h k ls.length φ Ed (Q (.d .non))
theorem q_chkP (T : Txt P K mg ζ) {G : Addr} : CalX P w K mg base 4 "check_placement" (spF K (fChkP ζ.HeightMismatch ζ.BadPlacement G ζ.Ladder)) := by
  have cx_check_same_height : CalX P w K mg base 1 "check_same_height" (spF K (fSameHX ζ.HeightMismatch)) := q_samehX T
  have e_BadPlacement := err_BadPlacement (P := P) (w := w) (base := base) T
  refine T.d_check_placement.dl sc_check_placement (by rintro as E Q ⟨h, k, os, ss, ls, φ, rfl, _⟩; rfl) (by decide) fun fa cdv A outer s H E hr => ⟨_, qss_cons (qs_expr (qe_cT cx_check_same_height hr (by first | decide | omega) (takes_of rfl rfl rfl rfl) (by rfl) (qa_cons (qe_p (qp_fld (qp_var (pv 0)) rfl)) (qa_cons (qe_p (qp_fld (qp_var (pv 1)) rfl)) (qa_nil)))))
 (qss_one (qs_for (vs := [3, 4]) [3, 4] (passes_of rfl) rfl (qi_enum (by rfl) T.n_enumerate (qe_var (pv 2))) (qg_tup' rfl (qgs_cons' (qg_name (pg_name (i := 3) sc_check_placement.nd rfl (Or.inl rfl))) (qgs_cons' (qg_name (pg_name (i := 4) sc_check_placement.nd rfl (Or.inl rfl))) (qgs_nil))))
 (qss_one (qs_if (qt_p (QPW.qpt (qpw_and (qpt_cmp op_notN o_notN (qp_var (pv 4)) (qp_non) (nomark _)) (qpw_and1 (qpt_not (qpt_chain op_le op_le o_cmp o_cmp (qp_int) (qp_var (pv 4)) (qp_fld (qp_var (pv 1)) rfl)))))))
 (qss_one (qs_raiseE rfl (takes_of rfl rfl rfl rfl) e_BadPlacement hr (by first | decide | omega) (qe_var (pv 3)) rfl))
 (qss_nil))))), ?_⟩
  rintro as Ed Qd ⟨h, k, os, ss, ls, φ, rfl, hb, kb, hl, q1, q2, q3⟩
  refine ⟨_, p1_of rfl rfl, _, p1_of rfl rfl, h, k, rfl, hb, kb, q1, fun hk => ?_⟩
  have q2 := q2 hk
  have q3 := q3 hk
  refine ⟨fun i e => e = [.d (gameD G h os ss), .d (ladD ζ.Ladder k ls), .d (plcI φ), .any, .any] ∧ ∀ j o, j < i → φ[j]? = some o → badP ls.length o = false, ⟨rfl, fun j o z => by omega⟩, ?_, ?_⟩
  · rintro i x e ex ⟨rfl, hp⟩
    obtain ⟨y, ey, rfl⟩ := enm_at ex
    obtain ⟨o, eo, rfl⟩ := map_getD ey
    have il := (List.getElem?_eq_some_iff.mp eo).1
    have ef : badP ls.length o = true → φ.findIdx? (badP ls.length) = some i := fun z => List.findIdx?_eq_some_iff_getElem.mpr ⟨il, by rw [(List.getElem?_eq_some_iff.mp eo).2]; exact z, fun j hj => by
      rw [hp j _ hj (List.getElem?_eq_getElem (by omega))]; decide⟩
    have more : badP ls.length o = false → ∀ j o', j < i + 1 → φ[j]? = some o' → badP ls.length o' = false := fun z j o' hj e => by
      by_cases c : j < i
      · exact hp j o' c e
      · have : j = i := by omega
        subst this
        rw [eo] at e; cases e; exact z
    refine ⟨badP ls.length o, ?_, fun z => ?_, fun z => ⟨rfl, more z⟩⟩
    · cases o with
      | none => rfl
      | some i0 =>
        refine pand_of (a := true) rfl (fun _ => ?_) (fun z => by cases z)
        show some (D.bl (!(decide (0 ≤ i0) && decide (i0 ≤ (ls.length : Int))))) = _
        rfl
    · refine ⟨_, rfl, ?_, q2 i (ef z)⟩
      exact Nat.lt_of_le_of_lt (show ((i : Nat) : Int).natAbs ≤ 1000 by omega) (by decide)
  · rintro e ⟨rfl, hp⟩
    refine q3 (List.findIdx?_eq_none_iff.mpr fun o ho => ?_)
    obtain ⟨j, hj⟩ := List.mem_iff_getElem?.mp ho
    have jl := (List.getElem?_eq_some_iff.mp hj).1
    refine hp j o ?_ hj
    unfold enm
    simpa using jl
theorem plc_good {top : Nat} {φ : List (Option Int)} (h : φ.findIdx? (badP top) = none) : ∃ ψ : Plc, PlcOk φ.length top ψ ∧ φ = toI ψ := by
  have hb := List.findIdx?_eq_none_iff.mp h
  refine ⟨φ.map fun o => o.map Int.toNat, ⟨List.length_map _, fun s hs => ?_⟩, ?_⟩
  · obtain ⟨o, ho, e⟩ := List.mem_map.mp hs
    cases o with
    | none => cases e
    | some i =>
      have e : some i.toNat = some s := e
      have := hb _ ho
      unfold badP at this
      cases e
      simp at this
      omega
  · unfold toI
    rw [List.map_map]
    conv => lhs; rw [← List.map_id φ]
    refine List.map_congr_left fun o ho => ?_
    cases o with
    | none => rfl
    | some i =>
      have := hb _ ho
      unfold badP at this
      simp at this
      show some i = some ((i.toNat : Nat) : Int)
      rw [Int.toNat_of_nonneg this.1]
theorem plc_fine {n top : Nat} {φ : Plc} (P : PlcOk n top φ) : (toI φ).findIdx? (badP top) = none := by
  refine List.findIdx?_eq_none_iff.mpr fun o ho => ?_
  unfold toI at ho
  obtain ⟨o', ho', rfl⟩ := List.mem_map.mp ho
  cases o' with
  | none => rfl
  | some s =>
    have := P.le s ho'
    show (!(decide ((0 : Int) ≤ (s : Int)) && decide ((s : Int) ≤ (top : Int)))) = false
    rw [decide_eq_true (by omega), decide_eq_true (by omega)]; rfl
def wrongs (ls : List Int) (os : List Bool) (es : List (List Int)) (φ : Plc) : List Nat := (List.range os.length).filter fun v => !fitsB ls os es φ v
def fMis (C1 C2 G L : Addr) : Fs := fun as Ed Q => ∃ (h k : Int) (os : List Bool) (ss : List (List Int)) (ls : List Int) (φ : List (Option Int)), as = [.d (gameD G h os ss), .d (ladD L k ls), .d (plcI φ)] ∧ (0 ≤ h ∧ h ≤ 1000) ∧ (0 ≤ k ∧ k ≤ 1000) ∧ φ.length = os.length ∧ os.length ≤ 9 ∧ (∀ e ∈ ss, EdgeOk h os.length e) ∧ ss.length ≤ 63 ∧ plcEd C1 C2 h k ls.length φ Ed (∀ ψ, PlcOk os.length ls.length ψ → φ = toI ψ → Q (.fr (.ls ((wrongs ls os ss ψ).map nat))))
theorem q_misfits (T : Txt P K mg ζ) : CalX P w K mg base 5 "misfits" (spF K (fMis ζ.HeightMismatch ζ.BadPlacement ζ.Game ζ.Ladder)) := by
  have cx_check_placement : CalX P w K mg base 4 "check_placement" (spF K (fChkP ζ.HeightMismatch ζ.BadPlacement ζ.Game ζ.Ladder)) := q_chkP T
  have cx_is_fitting : CalX P w K mg base 4 "is_fitting" (spF K (fFitting ζ.Game ζ.Ladder)) := q_fitting T
  refine T.d_misfits.dl sc_misfits (by rintro as E Q ⟨h, k, os, ss, ls, φ, rfl, _⟩; rfl) (by decide) fun fa cdv A outer s H E hr => ⟨_, qss_cons (qs_expr (qe_cT cx_check_placement hr (by first | decide | omega) (takes_of rfl rfl rfl rfl) (by rfl) (qa_cons (qe_var (pv 0)) (qa_cons (qe_var (pv 1)) (qa_cons (qe_var (pv 2)) (qa_nil))))))
 (qss_one (qs_ret (qe_lc (own := [("node", 3)]) rfl sc_misfits.nd (qi_range1 (by rfl) T.n_range (qe_p (qp_fld (qp_var (pv 0)) rfl))) (blkOk_by (N := N_misfits) (sc := defScope s_misfits) (by decide +kernel)) (fun _ _ _ _ _ => qg_name (pg_name (i := 3) sc_misfits.nd rfl (Or.inl rfl))) (fun _ _ _ _ _ => qts_one (qt_not (qt_truth (qe_cT cx_is_fitting hr (by first | decide | omega) takes0 (by rfl) (qa_cons (qe_var (pv 0)) (qa_cons (qe_var (pv 1)) (qa_cons (qe_var (pv 2)) (qa_cons (qe_var (pv 3)) (qa_nil))))))))) (fun _ _ _ _ _ => qe_var (pv 3))))), ?_⟩
  rintro as Ed Qd ⟨h, k, os, ss, ls, φ, rfl, hb, kb, pl, n9, hok, hl, q1, q2, q3⟩
  refine ⟨h, k, os, ss, ls, φ, rfl, hb, kb, by omega, q1, q2, fun hk e => ?_⟩
  subst hk
  obtain ⟨ψ, P0, rfl⟩ := plc_good e
  have P0 : PlcOk os.length ls.length ψ := by rw [← pl]; exact P0
  have q3 := q3 rfl e ψ P0 rfl
  refine ⟨rfl, _, p1_of rfl rfl, ⟨by omega, by omega⟩, fun i acc => acc = ((List.range i).filter fun v => !fitsB ls os ss ψ v).map nat, rfl, ?_, ?_⟩
  · rintro i x acc ex rfl
    obtain ⟨hi, rfl⟩ := rg_get ex
    rw [Int.toNat_natCast] at hi
    refine ⟨h, os, ss, ls, ψ, i, by rw [← plcI_toI], hb.1, P0, hi, n9, hok, hl, _, rfl, fun c => ?_, fun c => ?_⟩
    · show _ = ((List.range (i + 1)).filter _).map nat
      rw [List.range_succ, List.filter_append, List.map_append]
      simp [c]
    · show _ = ((List.range (i + 1)).filter _).map nat
      rw [List.range_succ, List.filter_append, List.map_append]
      simp [c]
  · rintro acc rfl
    rw [rg_len, Int.toNat_natCast]
    exact q3
theorem fits_off {ls os es φ v} (h : φ.getD v none = none) : fitsB ls os es φ v = true := by unfold fitsB; rw [h]
def fLift (C1 C2 C3 G L : Addr) : Fs := fun as Ed Q => ∃ (h k : Int) (os : List Bool) (ss : List (List Int)) (ls : List Int) (φ : List (Option Int)) (v : Int), as = [.d (gameD G h os ss), .d (ladD L k ls), .d (plcI φ), .d (.int v)] ∧ (0 ≤ h ∧ h ≤ 1000) ∧ (0 ≤ k ∧ k ≤ 1000) ∧ φ.length = os.length ∧ os.length ≤ 9 ∧ ls.length ≤ 1000 ∧ (∀ e ∈ ss, EdgeOk h os.length e) ∧ ss.length ≤ 63 ∧ v.natAbs < 2 ^ 1900 ∧
  plcEd C1 C2 h k ls.length φ Ed ((¬ (0 ≤ v ∧ v < os.length) → Ed ⟨C3, some [("node", .int v)]⟩) ∧ ∀ u : Nat, v = (u : Int) → u < os.length → ∀ ψ, PlcOk os.length ls.length ψ → φ = toI ψ → Q (.fr (.ls ((liftP ls os ss ψ u).map optN))))
theorem q_nodeX (T : Txt P K mg ζ) : CalX P w K mg base 3 "check_node" (spF K fun as Ed Q => ∃ (n : Nat) (v : Int), as = [.d (nat n), .d (.int v)] ∧ v.natAbs < 2 ^ 1900 ∧ (¬ (0 ≤ v ∧ v < n) → Ed ⟨ζ.NoSuchNode, some [("node", .int v)]⟩) ∧ ((0 ≤ v ∧ v < n) → Q (.d .non))) := by
  have e_NoSuchNode := err_NoSuchNode (P := P) (w := w) (base := base) T
  refine T.d_check_node.dl sc_check_node (by rintro as E Q ⟨n, v, rfl, _⟩; rfl) (by decide) fun fa cdv A outer s H E hr => ⟨_, qss_one (qs_if (qt_p (qpt_not (qpt_chain op_le op_lt o_cmp o_cmp (qp_int) (qp_var (pv 1)) (qp_var (pv 0)))))
 (qss_one (qs_raiseE rfl (takes_of rfl rfl rfl rfl) e_NoSuchNode hr (by first | decide | omega) (qe_var (pv 1)) rfl))
 (qss_nil)), ?_⟩
  rintro as Ed Qd ⟨n, v, rfl, vb, q1, q2⟩
  refine ⟨!(decide (0 ≤ v) && decide (v < (n : Int))), rfl, fun z => ?_, fun z => q2 ?_⟩
  · refine ⟨_, rfl, vb, q1 fun c => ?_⟩
    rw [decide_eq_true c.1, decide_eq_true c.2] at z; cases z
  · simp at z
    omega
theorem q_lift (T : Txt P K mg ζ) : CalX P w K mg base 6 "lift" (spF K (fLift ζ.HeightMismatch ζ.BadPlacement ζ.NoSuchNode ζ.Game ζ.Ladder)) := by
  have cx_check_placement : CalX P w K mg base 4 "check_placement" (spF K (fChkP ζ.HeightMismatch ζ.BadPlacement ζ.Game ζ.Ladder)) := q_chkP T
  have cx_is_fitting : CalX P w K mg base 4 "is_fitting" (spF K (fFitting ζ.Game ζ.Ladder)) := q_fitting T
  have cx_check_node := q_nodeX (P := P) (w := w) (base := base) T
  refine T.d_lift.dl sc_lift (by rintro as E Q ⟨h, k, os, ss, ls, φ, v, rfl, _⟩; rfl) (by decide) fun fa cdv A outer s H E hr => ⟨_, qss_cons (qs_expr (qe_cT cx_check_placement hr (by first | decide | omega) (takes_of rfl rfl rfl rfl) (by rfl) (qa_cons (qe_var (pv 0)) (qa_cons (qe_var (pv 1)) (qa_cons (qe_var (pv 2)) (qa_nil))))))
 (qss_cons (qs_expr (qe_cT cx_check_node hr (by first | decide | omega) (takes_of rfl rfl rfl rfl) (by rfl) (qa_cons (qe_p (qp_fld (qp_var (pv 0)) rfl)) (qa_cons (qe_var (pv 3)) (qa_nil)))))
 (qss_cons (qs_setN (i := 4) true sc_lift.nd rfl (Or.inl rfl) (qe_listF (by rfl) T.n_list b_list (qe_var (pv 2))))
 (qss_cons (qs_while [] (passes_of rfl) (qt_loanE (qt_not (qt_truth (qe_cT cx_is_fitting hr (by first | decide | omega) (takes_of rfl rfl rfl rfl) (by rfl) (qa_cons (qe_var (pv 0)) (qa_cons (qe_var (pv 1)) (qa_cons (qe_var (pv 4)) (qa_cons (qe_var (pv 3)) (qa_nil)))))))))
 (qss_one (qs_put (ps_asg (qe_loan (qp_if (qpt_cmp op_lt o_cmp (qp_ix ix_A o_ix (qp_var (pv 4)) (qp_var (pv 3)) (fun _ _ => rfl)) (qp_fld (qp_var (pv 1)) rfl) (nomark _)) (qp_op op_addA o_add (qp_ix ix_A o_ix (qp_var (pv 4)) (qp_var (pv 3)) (fun _ _ => rfl)) (qp_int)) (qp_non))) (pg_sub (pv 4) (qe_p (qp_var (pv 3))) set_list)))))
 (qss_one (qs_retO (pv 4)))))), ?_⟩
  rintro as Ed Qd ⟨h, k, os, ss, ls, φ, v, rfl, hb, kb, pl, n9, l1, hok, hl, vb, q1, q2, q3⟩
  refine ⟨h, k, os, ss, ls, φ, rfl, hb, kb, by omega, q1, q2, fun hk e => ?_⟩
  subst hk
  obtain ⟨ψ, P0, rfl⟩ := plc_good e
  have P0 : PlcOk os.length ls.length ψ := by rw [← pl]; exact P0
  obtain ⟨qe, q3⟩ := q3 rfl e
  refine ⟨_, p1_of rfl rfl, os.length, v, rfl, vb, qe, fun hv => ?_⟩
  obtain ⟨u, rfl⟩ : ∃ u : Nat, v = (u : Int) := ⟨v.toNat, by omega⟩
  have q3 := q3 u rfl (by omega) ψ P0 rfl
  have ul : u < os.length := by omega
  have ul2 : u < ψ.length := by rw [P0.len]; exact ul
  have e0 : plcI (toI ψ) = plcD ψ := plcI_toI ψ
  rw [e0]
  have es : ψ.set u (ψ.getD u none) = ψ := by rw [getD_get ul2, List.set_getElem_self]
  refine ⟨_, rfl, ?_⟩
  let Inv : Nat → Option Nat → Prop := fun m o => match o with
    | some s => m = ls.length + 2 - s ∧ s ≤ ls.length ∧ ∃ s0, ψ.getD u none = some s0 ∧ s0 ≤ s ∧ ∀ j, s0 ≤ j → j < s → fitsB ls os ss (ψ.set u (some j)) u = false
    | none => m = 0 ∧ liftV ls os ss ψ u = none
  refine ⟨fun m e => ∃ o, Inv m o ∧ e = [.d (gameD ζ.Game h os ss), .d (ladD ζ.Ladder h ls), .d (plcD ψ), .d (nat u), .own (.ls ((ψ.set u o).map optN))], ?_, ?_⟩
  · cases c : ψ.getD u none with
    | none =>
      have es' : ψ.set u none = ψ := by rw [← c]; exact es
      exact ⟨0, none, ⟨rfl, by unfold liftV; rw [c]⟩, by rw [es']; rfl⟩
    | some s =>
      have es' : ψ.set u (some s) = ψ := by rw [← c]; exact es
      exact ⟨_, some s, ⟨rfl, (P0.at_le c).2, s, c, Nat.le_refl _, fun j a b => by omega⟩, by rw [es']; rfl⟩
  rintro m e ⟨o, I, rfl⟩
  have Po : PlcOk os.length ls.length (ψ.set u o) := P0.set fun s e => by subst e; exact I.2.1
  refine ⟨h, os, ss, ls, ψ.set u o, u, rfl, hb.1, Po, ul, n9, hok, hl, _, rfl, fun z => ?_, fun z => ?_⟩
  · cases o with
    | none =>
      rw [fits_off (getD_set_eq ul2)] at z; cases z
    | some s =>
      obtain ⟨em, hs, s0, h0, hle, hn⟩ := I
      have z : fitsB ls os ss (ψ.set u (some s)) u = false := by simpa using z
      have at_ : ixD (plcD (ψ.set u (some s))) (.int (u : Int)) = some (nat s) := by
        rw [plc_at (by rw [List.length_set]; exact ul2), getD_set_eq ul2]; rfl
      have hn2 : ∀ j, s0 ≤ j → j < s + 1 → fitsB ls os ss (ψ.set u (some j)) u = false := fun j a b => by
        by_cases c : j < s
        · exact hn j a c
        · have : j = s := by omega
          subst this; exact z
      have put : ∀ o, (((ψ.set u (some s)).map optN).set u (optN o)) = (ψ.set u o).map optN := fun o => by
        rw [← List.map_set, List.set_set]
      refine ⟨optN (if s < ls.length then some (s + 1) else none), ?_, by split <;> rfl, _, u, u, rfl, rfl, ixN_of (by rw [List.length_map, List.length_set]; exact ul2), ?_⟩
      · refine pif_of (b := decide (s < ls.length)) (p2_of (p2_of rfl rfl at_) (p1_of rfl rfl) (some_dec (by omega))) (fun b => ?_) (fun b => ?_)
        · rw [if_pos (of_decide_eq_true b)]
          exact p2_of (p2_of rfl rfl at_) rfl (some_nat (by omega))
        · rw [if_neg (of_decide_eq_false b)]; rfl
      · dsimp only
        by_cases c : s < ls.length
        · rw [if_pos c]
          refine ⟨ls.length + 2 - (s + 1), by omega, some (s + 1), ⟨rfl, by omega, s0, h0, by omega, hn2⟩, ?_⟩
          rw [← put (some (s + 1))]; rfl
        · rw [if_neg c]
          refine ⟨0, by omega, none, ⟨rfl, liftV_none h0 fun j a b => hn2 j a (by omega)⟩, ?_⟩
          rw [← put none]; rfl
  · have z : fitsB ls os ss (ψ.set u o) u = true := by simpa using z
    have : liftV ls os ss ψ u = o := by
      cases o with
      | none => exact I.2
      | some s =>
        obtain ⟨em, hs, s0, h0, hle, hn⟩ := I
        exact liftV_some h0 hle hs z hn
    unfold liftP at q3
    rw [this] at q3
    exact q3
end
end LR
set_option Elab.async false
set_option maxRecDepth 100000
set_option linter.all false
set_option maxHeartbeats 4000000
namespace LR
open PySem PySem.Spec PyProof.Rows L2
section
variable {P : Program} {w : World} {K : PySem.W.Frag} {mg : Str → Option Value} {base : Heap} {ζ : Cs}
/-- the lifts from φ on: what is handed out, the placement behind them -/
inductive LiftsTo (ls : List Int) (os : List Bool) (ss : List (List Int)) : Plc → List (Nat × Option Nat) → Plc → Prop
  | nil {φ : Plc} (h : wrongs ls os ss φ = []) : LiftsTo ls os ss φ [] φ
  | cons {φ φ' : Plc} {v : Nat} {r : List Nat} {out : List (Nat × Option Nat)} (h : wrongs ls os ss φ = v :: r) (t : LiftsTo ls os ss (liftP ls os ss φ v) out φ') : LiftsTo ls os ss φ ((v, liftV ls os ss φ v) :: out) φ'
def outI (out : List (Nat × Option Nat)) : Outs := out.map fun q => ((q.1 : Int), q.2.map fun n : Nat => (n : Int))
def fLifts (C1 C2 C L : Addr) : FG := fun as Ed out Z => ∃ (h k : Int) (os : List Bool) (ss : List (List Int)) (ls : List Int) (x : D) (φ : List (Option Int)), as = [.d (gameD C h os ss), .d (ladD L k ls), .d x] ∧ (x = .non ∧ φ = toI (List.replicate os.length (some 0)) ∨ x = plcI φ) ∧ (0 ≤ h ∧ h ≤ 1000) ∧ (0 ≤ k ∧ k ≤ 1000) ∧ φ.length = os.length ∧ os.length ≤ 9 ∧ ls.length ≤ 1000 ∧ (∀ e ∈ ss, EdgeOk h os.length e) ∧ ss.length ≤ 63 ∧
  plcEd C1 C2 h k ls.length φ Ed (∀ ψ, PlcOk os.length ls.length ψ → φ = toI ψ → Z ∧ ∃ o φ', LiftsTo ls os ss ψ o φ' ∧ out = outI o)
theorem toI_inj {φ ψ : Plc} (h : toI φ = toI ψ) : φ = ψ := by
  induction φ generalizing ψ with
  | nil => cases ψ with
    | nil => rfl
    | cons b r => cases h
  | cons a r ih => cases ψ with
    | nil => cases h
    | cons b r' =>
      have h : (a.map fun n : Nat => (n : Int)) :: toI r = (b.map fun n : Nat => (n : Int)) :: toI r' := h
      rw [List.cons.injEq] at h
      rw [ih h.2]
      cases a with
      | none => cases b with
        | none => rfl
        | some b => cases h.1
      | some a => cases b with
        | none => cases h.1
        | some b => rw [Int.ofNat.inj (Option.some.inj h.1)]
theorem optN_eD (o : Option Nat) : optN o = eD (o.map fun n : Nat => (n : Int)) := by cases o <;> rfl
theorem ed_ok {C1 C2 : Addr} {h : Int} {n top : Nat} {φ : Plc} {Ed : Er → Prop} {S : Plc → Prop} (ok : PlcOk n top φ) (q : S φ) : plcEd C1 C2 h h top (toI φ) Ed (∀ ψ, PlcOk n top ψ → toI φ = toI ψ → S ψ) :=
  ⟨fun z => (z rfl).elim, fun _ j e => (by rw [plc_fine ok] at e; cases e), fun _ _ ψ _ e => by rw [← toI_inj e]; exact q⟩
theorem ed_ok2 {C1 C2 : Addr} {h : Int} {n top v : Nat} {φ : Plc} {Ed : Er → Prop} {Z : Prop} {S : Nat → Plc → Prop} (ok : PlcOk n top φ) (hv : v < n) (q : S v φ) : plcEd C1 C2 h h top (toI φ) Ed ((¬ (0 ≤ (v : Int) ∧ (v : Int) < n) → Z) ∧ ∀ u : Nat, (v : Int) = (u : Int) → u < n → ∀ ψ, PlcOk n top ψ → toI φ = toI ψ → S u ψ) :=
  ⟨fun z => (z rfl).elim, fun _ j e => (by rw [plc_fine ok] at e; cases e), fun _ _ => ⟨fun z => (z ⟨Int.natCast_nonneg _, by omega⟩).elim, fun u eu _ ψ _ e => by rw [← toI_inj e, ← Int.ofNat.inj eu]; exact q⟩⟩
theorem as3 {a b : Ar} {φ : Plc} : [a, b, Ar.d (plcD φ)] = [a, b, .d (plcI (toI φ))] := by rw [plcI_toI]
theorem as4 {a b c : Ar} {φ : Plc} : [a, b, Ar.d (plcD φ), c] = [a, b, .d (plcI (toI φ)), c] := by rw [plcI_toI]
theorem len_toI {φ : Plc} : (toI φ).length = φ.length := List.length_map ..
theorem ptup_2 {p q : PF} {env : List Ev} {a b : D} (h1 : p env = some a) (h2 : q env = some b) : ptup [p, q] env = some (.tup [a, b]) := by
  unfold ptup evs
  rw [h1]
  unfold evs
  rw [h2]
  rfl
theorem smI_nat {n : Nat} (h : n ≤ 1000) : smI (n : Int) = true := by
  unfold smI
  simp
  omega
theorem small_v {v : Nat} (h : v ≤ 1000) : (v : Int).natAbs < 2 ^ 1900 := Nat.lt_of_le_of_lt (show (v : Int).natAbs ≤ 1000 by omega) (by decide)
theorem lift_ok {os : List Bool} {ss : List (List Int)} {ls : List Int} {φ : Plc} {v : Nat} (ok : PlcOk os.length ls.length φ) : PlcOk os.length ls.length (liftP ls os ss φ v) := ok.set fun _ e => liftV_le e
theorem wrong_lt {os : List Bool} {ss : List (List Int)} {ls : List Int} {φ : Plc} {v : Nat} (h : v ∈ wrongs ls os ss φ) : v < os.length ∧ fitsB ls os ss φ v = false := by
  unfold wrongs at h
  rw [List.mem_filter, List.mem_range] at h
  exact ⟨h.1, by simpa using h.2⟩
theorem start_at {os : List Bool} {ss : List (List Int)} {C : Addr} {h : Int} {x : D} {φ : List (Option Int)} {env : List Ev} (hx : x = .non ∧ φ = toI (List.replicate os.length (some 0)) ∨ x = plcI φ) (ol : os.length ≤ 9) (e0 : nth env 0 = .d (gameD C h os ss)) (e2 : nth env 2 = .d x) :
    pif (p2 isND (pvar 2) (pc D.non)) (p2 mulD (plst [pc (D.int 0)]) (p1 (fldD (Str.ofString "size")) (pvar 0))) (pN listD [pvar 2]) env = some (plcI φ) := by
  have v2 : pvar 2 env = some x := by unfold pvar; rw [e2]
  have v0 : pvar 0 env = some (gameD C h os ss) := by unfold pvar; rw [e0]
  rcases hx with ⟨rfl, rfl⟩ | rfl
  · refine pif_of (b := true) (p2_of v2 rfl rfl) (fun _ => p2_of (x := .lst [.int 0]) rfl (p1_of v0 rfl) ?_) fun z => by cases z
    rw [plcI_toI]
    show (if smI (os.length : Int) = true ∧ [D.int 0].length * (os.length : Int).toNat ≤ 100000 then some (D.lst (List.replicate (os.length : Int).toNat [D.int 0]).flatten) else none) = _
    rw [if_pos ⟨smI_nat (by omega), by simp; omega⟩]
    unfold plcD
    rw [List.map_replicate, Int.toNat_natCast]
    have : ∀ n, (List.replicate n [D.int 0]).flatten = List.replicate n (optN (some 0)) := fun n => by
      induction n with
      | zero => rfl
      | succ n ih => rw [List.replicate_succ, List.flatten_cons, ih]; rfl
    rw [this]
  · refine pif_of (b := false) (p2_of v2 rfl rfl) (fun z => by cases z) fun _ => pN1 v2 rfl
theorem plcEd.map {C1 C2 : Addr} {h k : Int} {top : Nat} {φ : List (Option Int)} {Ed : Er → Prop} {a b : Prop} (m : h = k → φ.findIdx? (badP top) = none → a → b) (x : plcEd C1 C2 h k top φ Ed a) : plcEd C1 C2 h k top φ Ed b := ⟨x.1, x.2.1, fun e n => m e n (x.2.2 e n)⟩
theorem g_lifts (T : Txt P K mg ζ) : GCal P w K mg base 7 "lifts" 3 [.non] (fLifts ζ.HeightMismatch ζ.BadPlacement ζ.Game ζ.Ladder) := by
  have cx_misfits : CalX P w K mg base 5 "misfits" (spF K (fMis ζ.HeightMismatch ζ.BadPlacement ζ.Game ζ.Ladder)) := q_misfits T
  have cx_lift : CalX P w K mg base 6 "lift" (spF K (fLift ζ.HeightMismatch ζ.BadPlacement ζ.NoSuchNode ζ.Game ζ.Ladder)) := q_lift T
  refine T.d_lifts.dl sc_lifts (fun _ => rfl) (by rintro as Ed out Z ⟨h, k, os, ss, ls, x, φ, rfl, _⟩; rfl) (by decide) fun fa cdv A outer s H pn lim out gE E Ed hr => ⟨_, g1q_cons (qs_setN (i := 3) false sc_lifts.nd rfl (Or.inl rfl) (qe_p (qp_if (qpt_cmp op_isN o_isN (qp_var (pv 2)) (qp_non) (nomark _)) (qp_op op_mulA o_mul (qp_lst (qps_cons (qp_int) (qps_nil))) (qp_fld (qp_var (pv 0)) rfl)) (qp_callTy o_list call_list_of (by rfl) T.n_list b_list (qps_cons (qp_var (pv 2)) (qps_nil))))))
 (g1q_cons (qs_setN (i := 4) false sc_lifts.nd rfl (Or.inl rfl) (qe_cT cx_misfits hr (by first | decide | omega) takes_gcx (by rfl) (qa_cons (qe_var (pv 0)) (qa_cons (qe_var (pv 1)) (qa_cons (qe_var (pv 3)) (qa_nil))))))
 (g1q_go (gq_cons (gq_while rfl (fun _ _ => qt_p (qpt_truth (qp_var (pv 4))))
 (gq_cons (gq_st rfl (fun _ _ => qs_setN (i := 5) false sc_lifts.nd rfl (Or.inl rfl) (qe_p (qp_ix ix_A o_ix (qp_var (pv 4)) (qp_int) (fun _ _ => rfl)))))
 (gq_cons (gq_st rfl (fun _ _ => qs_setN (i := 3) false sc_lifts.nd rfl (Or.inl rfl) (qe_cT cx_lift hr (by first | decide | omega) takes0 (by rfl) (qa_cons (qe_var (pv 0)) (qa_cons (qe_var (pv 1)) (qa_cons (qe_var (pv 3)) (qa_cons (qe_var (pv 5)) (qa_nil))))))))
 (gq_cons (gq_yield rfl (fun _ _ => qe_p (qp_tup (qps_cons (qp_var (pv 5)) (qps_cons (qp_ix ix_A o_ix (qp_var (pv 3)) (qp_var (pv 5)) (fun _ _ => rfl)) (qps_nil))))))
 (gq_cons (gq_st rfl (fun _ _ => qs_setN (i := 4) false sc_lifts.nd rfl (Or.inl rfl) (qe_cT cx_misfits hr (by first | decide | omega) takes0 (by rfl) (qa_cons (qe_var (pv 0)) (qa_cons (qe_var (pv 1)) (qa_cons (qe_var (pv 3)) (qa_nil)))))))
 (gq_nil))))))
 (gq_nil)))), ?_⟩
  rintro as Z ⟨h, k, os, ss, ls, x, φI, rfl, hx, hb, kb, pl, ol, ll, eo, sl, pe⟩ hlim
  refine ⟨plcI φI, start_at hx ol rfl rfl, h, k, os, ss, ls, φI, rfl, hb, kb, pl, ol, eo, sl, pe.map fun hk _ ex φ ok ef => ?_⟩
  subst hk
  obtain ⟨hZ, o, φ', lt, rfl⟩ := ex φ ok ef
  subst ef
  refine ⟨fun j k env => ∃ (ψ : Plc) (y : Ev), env = [.d (gameD ζ.Game h os ss), .d (ladD ζ.Ladder h ls), .d x, .d (plcD ψ), .d (.lst ((wrongs ls os ss ψ).map nat)), y] ∧ PlcOk os.length ls.length ψ ∧ j = o.length - k ∧ k ≤ o.length ∧ LiftsTo ls os ss ψ (o.drop k) φ', ⟨_, φ, .any, by rw [← plcI_toI]; rfl, ok, rfl, Nat.zero_le _, lt⟩, ?_⟩
  rintro j k env ⟨ψ, y, rfl, okk, rfl, hk, ltk⟩
  have lenO : (outI o).length = o.length := List.length_map ..
  cases ew : wrongs ls os ss ψ with
  | nil =>
    refine ⟨false, rfl, (if_neg Bool.false_ne_true).mpr ?_⟩
    refine ⟨?_, hZ⟩
    rw [lenO]
    generalize ed : o.drop k = dk at ltk
    cases ltk with
    | nil _ =>
      have := List.drop_eq_nil_iff.mp ed
      omega
    | cons h2 _ => rw [ew] at h2; cases h2
  | cons v r =>
    refine ⟨true, rfl, (if_pos rfl).mpr ?_⟩
    obtain ⟨hv, _⟩ := wrong_lt (show v ∈ wrongs ls os ss ψ by rw [ew]; exact List.mem_cons_self)
    have ok2 : PlcOk os.length ls.length (liftP ls os ss ψ v) := lift_ok okk
    generalize ed : o.drop k = dk at ltk
    cases ltk with
    | nil h2 => rw [ew] at h2; cases h2
    | cons h2 t =>
    rw [ew] at h2
    cases h2
    rename_i out'
    have kl : k < o.length := by
      rcases Nat.lt_or_ge k o.length with z | z
      · exact z
      · rw [List.drop_eq_nil_of_le z] at ed; cases ed
    have ok_ : o[k]? = some (v, liftV ls os ss ψ v) := by
      have := congrArg (·[0]?) ed
      simpa using this
    have ed2 : o.drop (k + 1) = out' := by
      rw [← List.drop_drop, ed]; rfl
    refine ⟨nat v, p2_of (x := .lst ((v :: r).map nat)) (y := .int ((0 : Nat) : Int)) rfl rfl (atI_of rfl), h, h, os, ss, ls, toI ψ, v, as4, hb, hb, len_toI.trans okk.len, ol, ll, eo, sl, small_v (by omega), ed_ok2 okk hv ⟨by omega, .tup [nat v, optN (liftV ls os ss ψ v)], ?_, (v : Int), (liftV ls os ss ψ v).map fun n : Nat => (n : Int), by unfold outI; rw [List.getElem?_map, ok_]; rfl, by rw [optN_eD], h, h, os, ss, ls, toI (liftP ls os ss ψ v), as3, hb, hb, len_toI.trans ok2.len, ol, eo, sl, ed_ok ok2 ?_⟩⟩
    · have e1 : ixD (plcD (liftP ls os ss ψ v)) (.int (v : Int)) = some (optN (liftV ls os ss ψ v)) := by
        rw [plc_at (by rw [ok2.len]; exact hv)]
        unfold liftP
        rw [getD_set_eq (by rw [okk.len]; exact hv)]
      exact ptup_2 rfl (p2_of rfl rfl e1)
    · exact ⟨o.length - (k + 1), by omega, liftP ls os ss ψ v, _, rfl, ok2, rfl, kl, by rw [ed2]; exact t⟩
end
end LR
set_option Elab.async false
set_option maxRecDepth 100000
set_option linter.all false
set_option maxHeartbeats 4000000
namespace LR
open PySem PySem.Spec PyProof.Rows L2
section
variable {P : Program} {w : World} {K : PySem.W.Frag} {mg : Str → Option Value} {base : Heap} {ζ : Cs}
theorem zeros_eD (n : Nat) : (List.replicate n [D.int 0]).flatten = (toI (List.replicate n (some 0))).map eD := by
  induction n with
  | zero => rfl
  | succ n ih => rw [List.replicate_succ, List.flatten_cons, ih, List.replicate_succ]; rfl
theorem toI_eD (φ : Plc) : (toI φ).map eD = φ.map optN := by
  unfold toI
  rw [List.map_map]
  exact List.map_congr_left fun o _ => (optN_eD o).symm
theorem toI_set (φ : Plc) (v : Nat) (e : Option Nat) : (toI φ).set v (e.map fun n : Nat => (n : Int)) = toI (φ.set v e) := by
  unfold toI
  rw [List.map_set]
theorem lifts_gos {ls : List Int} {os : List Bool} {ss : List (List Int)} {φ φ' : Plc} {o : List (Nat × Option Nat)} (t : LiftsTo ls os ss φ o φ') : gos (outI o) (toI φ) = toI φ' := by
  induction t with
  | nil _ => rfl
  | cons h t ih =>
    rename_i φ φ' v r o
    show gos (outI o) ((toI φ).set (v : Int).toNat _) = _
    rw [Int.toNat_natCast, toI_set]
    exact ih
theorem lifts_lt {ls : List Int} {os : List Bool} {ss : List (List Int)} {φ φ' : Plc} {o : List (Nat × Option Nat)} (t : LiftsTo ls os ss φ o φ') : ∀ q ∈ o, q.1 < os.length := by
  induction t with
  | nil _ => intro q hq; cases hq
  | cons h t ih =>
    intro q hq
    rcases List.mem_cons.mp hq with e | e
    · rw [e]; exact (wrong_lt (by rw [h]; exact List.mem_cons_self)).1
    · exact ih q e
def zeros (os : List Bool) : Plc := List.replicate os.length (some 0)
theorem zeros_ok {os : List Bool} {n : Nat} : PlcOk os.length n (zeros os) := ⟨List.length_replicate, fun s h => by
  have := (List.mem_replicate.mp h).2
  cases this
  exact Nat.zero_le _⟩
def fClimb (C1 C L : Addr) : Fs := fun as Ed Q => ∃ (h k : Int) (os : List Bool) (ss : List (List Int)) (ls : List Int) (φ' : Plc) (o : List (Nat × Option Nat)), as = [.d (gameD C h os ss), .d (ladD L k ls)] ∧ (0 ≤ h ∧ h ≤ 1000) ∧ (0 ≤ k ∧ k ≤ 1000) ∧ os.length ≤ 9 ∧ ls.length ≤ 1000 ∧ (∀ e ∈ ss, EdgeOk h os.length e) ∧ ss.length ≤ 63 ∧ LiftsTo ls os ss (zeros os) o φ' ∧ (h ≠ k → Ed ⟨C1, none⟩) ∧ (h = k → Q (.fr (.ls (φ'.map optN))))
theorem q_climb (T : Txt P K mg ζ) : CalX P w K mg base 9 "climb" (spF K (fClimb ζ.HeightMismatch ζ.Game ζ.Ladder)) := by
  have gc_lifts : GCal P w K mg base 7 "lifts" 3 [.non] (fLifts ζ.HeightMismatch ζ.BadPlacement ζ.Game ζ.Ladder) := g_lifts T
  refine T.d_climb.dl sc_climb (by rintro as Ed Q ⟨h, k, os, ss, ls, φ', o, rfl, _⟩; rfl) (by decide) fun fa cdv A outer s H E hr => ⟨_, qss_cons (qs_setN (i := 2) true sc_climb.nd rfl (Or.inl rfl) (qe_repF (qe_p (qp_lst (qps_cons (qp_int) (qps_nil)))) (qe_p (qp_fld (qp_var (pv 0)) rfl))))
 (qss_cons (qs_gforC (ik := 3) (iv := 4) (il := 2) gc_lifts (hr.mono (by first | decide | omega)) (by rfl) (fun _ => .d .non .nil) (takes_of rfl rfl rfl rfl) (qa_cons (qe_var (pv 0)) (qa_cons (qe_var (pv 1)) (qa_nil))) (passes_of rfl) sc_climb.nd rfl rfl rfl rfl rfl rfl)
 (qss_one (qs_retO (pv 2)))), ?_⟩
  rintro as Ed Qd ⟨h, k, os, ss, ls, φ', o, rfl, hb, kb, ol, ll, eo, sl, lt, qe, q⟩
  have e : (gos (outI o) (toI (zeros os))).map eD = φ'.map optN := by rw [lifts_gos lt, toI_eD]
  have e0 : (List.replicate (os.length : Int).toNat [D.int 0]).flatten = (toI (zeros os)).map eD := zeros_eD os.length
  have len : (toI (zeros os)).length = os.length := len_toI.trans List.length_replicate
  by_cases hk : h = k
  · subst hk
    refine ⟨_, rfl, _, p1_of rfl rfl, _, _, rfl, rfl, smI_nat (by omega), by show 1 * (os.length : Int).toNat ≤ _; omega, by show 3 < 5; decide, by show 4 < 5; decide, toI (zeros os), outI o, True, congrArg (fun l => Ev.own (.ls l)) e0,
      ⟨h, h, os, ss, ls, .non, toI (zeros os), rfl, .inl ⟨rfl, rfl⟩, hb, kb, len, ol, ll, eo, sl, ed_ok zeros_ok ⟨trivial, o, φ', lt, rfl⟩⟩, fun u hu => ?_, fun _ p => ?_⟩
    · obtain ⟨u', hu', rfl⟩ := List.mem_map.mp hu
      have := lifts_lt lt u' hu'
      rw [len]
      exact ⟨Int.natCast_nonneg _, by show (u'.1 : Int) < _; omega⟩
    · have q := q rfl
      rw [← e] at q
      exact q
  · refine ⟨_, rfl, _, p1_of rfl rfl, _, _, rfl, rfl, smI_nat (by omega), by show 1 * (os.length : Int).toNat ≤ _; omega, by show 3 < 5; decide, by show 4 < 5; decide, toI (zeros os), [], False, congrArg (fun l => Ev.own (.ls l)) e0,
      ⟨h, k, os, ss, ls, .non, toI (zeros os), rfl, .inl ⟨rfl, rfl⟩, hb, kb, len, ol, ll, eo, sl, fun _ => ⟨fun _ => qe hk, T.ns_HeightMismatch⟩, fun z => (hk z).elim, fun z => (hk z).elim⟩, fun u hu => (by cases hu), fun z => z.elim⟩
section
variable {ls : List Int} {os : List Bool} {ss : List (List Int)}
theorem lifts_exist : ∀ (m : Nat) (φ : Plc), PlcOk os.length ls.length φ → os.length * (ls.length + 1) ≤ wgt ls.length φ + m → ∃ o φ', LiftsTo ls os ss φ o φ'
  | m, φ, ok, hm => by
    cases ew : wrongs ls os ss φ with
    | nil => exact ⟨[], φ, .nil ew⟩
    | cons v r =>
      have w := (wrong_lt (show v ∈ wrongs ls os ss φ by rw [ew]; exact List.mem_cons_self)).2
      have up := lift_up w ok
      have ok2 : PlcOk os.length ls.length (liftP ls os ss φ v) := lift_ok ok
      have top := wgt_le ok2.le
      rw [ok2.len] at top
      match m with
      | 0 => omega
      | m + 1 =>
        obtain ⟨o, φ', t⟩ := lifts_exist m (liftP ls os ss φ v) ok2 (by omega)
        exact ⟨_, φ', .cons ew t⟩
theorem lifts_end {φ φ' : Plc} {o : List (Nat × Option Nat)} (t : LiftsTo ls os ss φ o φ') : PlcOk os.length ls.length φ → PlcOk os.length ls.length φ' ∧ wrongs ls os ss φ' = [] ∧ ∀ ψ, PlcOk os.length ls.length ψ → (∀ v, v < os.length → fitsB ls os ss ψ v = true) → PLe φ ψ → PLe φ' ψ := by
  induction t with
  | nil h => exact fun ok => ⟨ok, h, fun _ _ _ k => k⟩
  | cons h t ih =>
    rename_i φ φ' v r o
    intro ok
    obtain ⟨h1, h2, h3⟩ := ih (lift_ok ok)
    have vw := wrong_lt (show v ∈ wrongs ls os ss φ by rw [h]; exact List.mem_cons_self)
    exact ⟨h1, h2, fun ψ o f k => h3 ψ o f (k.set (lift_below k (f v vw.1) o ok))⟩
theorem none_wrong {φ : Plc} (h : wrongs ls os ss φ = []) : ∀ v, v < os.length → fitsB ls os ss φ v = true := fun v hv => by
  cases c : fitsB ls os ss φ v with
  | true => rfl
  | false =>
    have : v ∈ wrongs ls os ss φ := List.mem_filter.mpr ⟨List.mem_range.mpr hv, by rw [c]; rfl⟩
    rw [h] at this; cases this
theorem climb_least : ∃ o φ', LiftsTo ls os ss (zeros os) o φ' ∧ LeastFit ls os ss φ' := by
  obtain ⟨o, φ', t⟩ := lifts_exist (ls := ls) (os := os) (ss := ss) (os.length * (ls.length + 1)) (zeros os) zeros_ok (Nat.le_add_left _ _)
  obtain ⟨h1, h2, h3⟩ := lifts_end t zeros_ok
  exact ⟨o, φ', t, h1, none_wrong h2, fun ψ ok f => h3 ψ ok f (zeros_le ok.len)⟩
end
def fClimbL (C1 C L : Addr) : Fs := fun as Ed Q => ∃ (h k : Int) (os : List Bool) (ss : List (List Int)) (ls : List Int), as = [.d (gameD C h os ss), .d (ladD L k ls)] ∧ (0 ≤ h ∧ h ≤ 1000) ∧ (0 ≤ k ∧ k ≤ 1000) ∧ os.length ≤ 9 ∧ ls.length ≤ 1000 ∧ (∀ e ∈ ss, EdgeOk h os.length e) ∧ ss.length ≤ 63 ∧ (h ≠ k → Ed ⟨C1, none⟩) ∧ (h = k → ∀ φ, LeastFit ls os ss φ → Q (.fr (.ls (φ.map optN))))
theorem spF_imp {f f' : Fs} (h : ∀ as Ed Q, f' as Ed Q → f as Ed Q) : ∀ vs H Q E, spF K f' vs H Q E → spF K f vs H Q E := fun vs H Q E ⟨g, as, Ed, Qd, en, ia, hf, kv, kx⟩ => ⟨g, as, Ed, Qd, en, ia, h _ _ _ hf, kv, kx⟩
theorem q_climbL (T : Txt P K mg ζ) : CalX P w K mg base 9 "climb" (spF K (fClimbL ζ.HeightMismatch ζ.Game ζ.Ladder)) := (q_climb T).imp (spF_imp fun as Ed Q ⟨h, k, os, ss, ls, ea, hb, kb, ol, ll, eo, sl, qe, q⟩ => by
  obtain ⟨o, φ', t, l⟩ := climb_least (ls := ls) (os := os) (ss := ss)
  exact ⟨h, k, os, ss, ls, φ', o, ea, hb, kb, ol, ll, eo, sl, t, qe, fun z => q z φ' l⟩)
def toldL (φ : Plc) : List Nat := (List.range φ.length).filter fun v => (φ.getD v none).isSome
def fTold (C1 C L : Addr) : Fs := fun as Ed Q => ∃ (h k : Int) (os : List Bool) (ss : List (List Int)) (ls : List Int), as = [.d (gameD C h os ss), .d (ladD L k ls)] ∧ (0 ≤ h ∧ h ≤ 1000) ∧ (0 ≤ k ∧ k ≤ 1000) ∧ os.length ≤ 9 ∧ ls.length ≤ 1000 ∧ (∀ e ∈ ss, EdgeOk h os.length e) ∧ ss.length ≤ 63 ∧ (h ≠ k → Ed ⟨C1, none⟩) ∧ (h = k → ∀ φ, LeastFit ls os ss φ → Q (.fr (.ls ((toldL φ).map nat))))
theorem q_told (T : Txt P K mg ζ) : CalX P w K mg base 10 "told_nodes" (spF K (fTold ζ.HeightMismatch ζ.Game ζ.Ladder)) := by
  have cx_climb : CalX P w K mg base 9 "climb" (spF K (fClimbL ζ.HeightMismatch ζ.Game ζ.Ladder)) := q_climbL T
  refine T.d_told_nodes.dl sc_told_nodes (by rintro as Ed Q ⟨h, k, os, ss, ls, rfl, _⟩; rfl) (by decide) fun fa cdv A outer s H E hr => ⟨_, qss_one (qs_ret (qe_lc (own := [("node", 2), ("entry", 3)]) rfl sc_told_nodes.nd (qi_enum (by rfl) T.n_enumerate (qe_cT cx_climb hr (by first | decide | omega) (takes_of rfl rfl rfl rfl) (by rfl) (qa_cons (qe_var (pv 0)) (qa_cons (qe_var (pv 1)) (qa_nil))))) (blkOk_by (N := N_told_nodes) (sc := defScope s_told_nodes) (by decide +kernel)) (fun _ _ _ _ _ => qg_tup' rfl (qgs_cons' (qg_name (pg_name (i := 2) sc_told_nodes.nd rfl (Or.inl rfl))) (qgs_cons' (qg_name (pg_name (i := 3) sc_told_nodes.nd rfl (Or.inl rfl))) (qgs_nil)))) (fun _ _ _ _ _ => qts_one (qt_p (qpt_cmp op_notN o_notN (qp_var (pv 3)) (qp_non) (nomark _)))) (fun _ _ _ _ _ => qe_var (pv 2)))), ?_⟩
  rintro as Ed Qd ⟨h, k, os, ss, ls, rfl, hb, kb, ol, ll, eo, sl, qe, q⟩
  refine ⟨rfl, h, k, os, ss, ls, rfl, hb, kb, ol, ll, eo, sl, qe, fun hk φ L => ?_⟩
  refine ⟨fun i acc => acc = (((List.range i).filter fun v => (φ.getD v none).isSome)).map nat, rfl, ?_, ?_⟩
  · rintro i x acc ex rfl
    obtain ⟨y, ey, rfl⟩ := enm_at ex
    obtain ⟨o, eo', rfl⟩ := map_getD ey
    have eg : φ.getD i none = o := by rw [List.getD_eq_getElem?_getD, eo']; rfl
    have ef : List.filter (fun v => (φ.getD v none).isSome) [i] = if o.isSome = true then [i] else [] := by rw [List.filter_cons, eg]; cases o <;> rfl
    refine ⟨o.isSome, by cases o <;> rfl, fun c => ?_, fun c => ?_⟩
    · show _ = ((List.range (i + 1)).filter _).map nat
      rw [List.range_succ, List.filter_append, List.map_append, ef, if_pos c]; rfl
    · show _ = ((List.range (i + 1)).filter _).map nat
      rw [List.range_succ, List.filter_append, List.map_append, ef, if_neg (by rw [c]; exact Bool.false_ne_true), List.map_nil, List.append_nil]
  · rintro acc rfl
    have e : (enm (φ.map optN)).length = φ.length := by unfold enm; simp
    rw [e]
    exact q hk φ L
end
end LR
set_option Elab.async false
set_option maxRecDepth 100000
set_option linter.all false
set_option maxHeartbeats 4000000
namespace LR
open PySem PySem.Spec PyProof.Rows L2
section
variable {P : Program} {w : World} {K : PySem.W.Frag} {mg : Str → Option Value} {base : Heap} {ζ : Cs}
def fGapX : Fs := fun as _ Q => ∃ (tp : Bool) (ls : List Int) (i j : Nat), as = [.d (seqX tp ls), .d (nat i), .d (nat j)] ∧ (∀ l ∈ ls, 1 ≤ l) ∧ ls.length ≤ 1000 ∧ i ≤ ls.length ∧ j ≤ ls.length ∧ Q (.d (.int (gapI ls i j)))
theorem q_gapX (T : Txt P K mg ζ) : CalX P w K mg base 1 "_law_gap" (spF K fGapX) := by
  refine T.d_gap.dl sc_gap (by rintro as E Q ⟨tp, ls, i, j, rfl, _⟩; rfl) (by decide) fun fa cdv A outer s H E hr => ⟨_, qss_cons (qs_setN (i := 3) false sc_gap.nd rfl (Or.inl rfl) (qe_p (qp_int)))
 (qss_cons (qs_for (vs := [4]) [4] (passes_of rfl) rfl (qi_range2 (by rfl) T.n_range (qe_p (qp_callB o_min2 (call_min2 rfl) (by rfl) T.n_min b_min (qps_cons (qp_var (pv 1)) (qps_cons (qp_var (pv 2)) (qps_nil))))) (qe_p (qp_callB o_max2 (call_max2 rfl) (by rfl) T.n_max b_max (qps_cons (qp_var (pv 1)) (qps_cons (qp_var (pv 2)) (qps_nil)))))) (qg_name (pg_name (i := 4) sc_gap.nd rfl (Or.inl rfl)))
 (qss_one (qs_setN (i := 3) false sc_gap.nd rfl (Or.inl rfl) (qe_p (qp_callB o_max2 (call_max2 rfl) (by rfl) T.n_max b_max (qps_cons (qp_var (pv 3)) (qps_cons (qp_ix ix_A o_ix (qp_var (pv 0)) (qp_var (pv 4)) (fun _ _ => rfl)) (qps_nil))))))))
 (qss_one (qs_ret (qe_var (pv 3))))), ?_⟩
  rintro as Ed Qd ⟨tp, ls, i, j, rfl, hb, hl, hi, hj, q⟩
  have e1 : (if (j : Int) < i then (j : Int) else i) = (min i j : Nat) := by split <;> omega
  have e2 : (if (j : Int) > i then (j : Int) else i) = (max i j : Nat) := by split <;> omega
  refine ⟨_, rfl, .int (min i j : Nat), by show some (D.int (if (j : Int) < i then (j : Int) else i)) = _; rw [e1], .int (max i j : Nat), by show some (D.int (if (j : Int) > i then (j : Int) else i)) = _; rw [e2], ?_⟩
  refine ⟨⟨by omega, by omega, by omega, by omega, by omega⟩, fun k e => ∃ g, e = [.d (seqX tp ls), .d (nat i), .d (nat j), .d (.int g), .any] ∧ IsGap ls (min i j) (min i j + k) g, ⟨0, rfl, Int.le_refl _, fun m z a b => by omega, .inl rfl⟩, ?_, ?_⟩
  · rintro k x e ex ⟨g, rfl, g0, g1, g2⟩
    obtain ⟨y, ey, rfl⟩ := map_getD ex
    have hy := (List.getElem?_eq_some_iff.mp ey).1
    rw [List.length_range] at hy
    rw [List.getElem?_range hy] at ey
    cases ey
    have hlt : min i j + k < ls.length := by omega
    have hv := List.getElem?_eq_getElem hlt
    refine ⟨_, pN2 rfl (p2_of rfl rfl (seqX_at (k := min i j + k) hv)) rfl, _, rfl, ?_, fun m z a b e => ?_, ?_⟩
    · split <;> omega
    · by_cases c : m < min i j + k
      · have := g1 m z a c e; split <;> omega
      · have : m = min i j + k := by omega
        subst this
        rw [hv] at e; cases e
        split <;> omega
    · split
      · exact .inr ⟨_, by omega, by omega, hv⟩
      · rcases g2 with g2 | ⟨m, a, b, c⟩
        · exact .inl g2
        · exact .inr ⟨m, a, by omega, c⟩
  · rintro e ⟨g, rfl, hg⟩
    rw [rg_len, show min i j + ((max i j : Nat) - (min i j : Nat) : Int).toNat = max i j by omega] at hg
    have e3 : gapI ls i j = g := gapI_of hb (by omega) (by omega) hg
    rw [e3] at q
    exact q
def fAllowsX : Fs := fun as _ Q => ∃ (tp : Bool) (ls : List Int) (s t : Nat) (r : Int), as = [.d (seqX tp ls), .d (nat s), .d (.int r), .d (nat t)] ∧ (∀ l ∈ ls, 1 ≤ l) ∧ ls.length ≤ 1000 ∧ s ≤ ls.length ∧ t ≤ ls.length ∧ 0 ≤ r ∧ Q (.d (.bl (alw ls s r t)))
theorem q_allowsX (T : Txt P K mg ζ) : CalX P w K mg base 2 "_law_allows" (spF K fAllowsX) := by
  have cx_gap : CalX P w K mg base 1 "_law_gap" (spF K fGapX) := q_gapX T
  refine T.d_allows.dl sc_allows (by rintro as E Q ⟨tp, ls, s, t, r, rfl, _⟩; rfl) (by decide) fun fa cdv A outer s H E hr => ⟨_, qss_cons (qs_setN (i := 4) false sc_allows.nd rfl (Or.inl rfl) (qe_cT cx_gap hr (by first | decide | omega) (takes_of rfl rfl rfl rfl) (by rfl) (qa_cons (qe_var (pv 0)) (qa_cons (qe_var (pv 1)) (qa_cons (qe_var (pv 3)) (qa_nil))))))
 (qss_cons (qs_if (qt_p (qpt_cmp (op_eqD hr.units) o_eq (qp_op op_mod o_mod (qp_callTy o_int call_int1 (by rfl) T.n_int b_int (qps_cons (qp_var (pv 2)) (qps_nil))) (qp_int)) (qp_int) (nomark _)))
 (qss_one (qs_ret (qe_p (qp_or (qp_cmp op_ge o_cmp (qp_var (pv 1)) (qp_var (pv 3)) (nomark _)) (qp_one (qp_cmp op_le o_cmp (qp_op op_mulA o_mul (qp_int) (qp_var (pv 4))) (qp_var (pv 2)) (nomark _)))))))
 (qss_nil))
 (qss_one (qs_ret (qe_p (qp_and (qp_cmp op_gt o_cmp (qp_var (pv 1)) (qp_var (pv 3)) (nomark _)) (qp_one (qp_cmp op_gt o_cmp (qp_op op_mulA o_mul (qp_int) (qp_var (pv 4))) (qp_var (pv 2)) (nomark _)))))))), ?_⟩
  rintro as Ed Qd ⟨tp, ls, s, t, r, rfl, hb, hl, hs, ht, r0, q⟩
  have ag := alw_gap (ls := ls) (u := s) (p := r) (v := t) (g := gapI ls s t) (by omega) (by omega) r0 (isGap_gapI hb (by omega) (by omega))
  rw [ag] at q
  refine ⟨tp, ls, s, t, rfl, hb, hl, hs, ht, ?_⟩
  refine ⟨decide (r % 2 = 0), p2_of (p2_of (pN1 rfl rfl) rfl rfl) rfl rfl, fun z => ?_, fun z => ?_⟩
  · rw [if_pos (of_decide_eq_true z)] at q
    exact ⟨_, por_b rfl (p2_of (p2_of rfl rfl rfl) rfl rfl), q⟩
  · rw [if_neg (of_decide_eq_false z)] at q
    exact ⟨_, pand_b rfl (p2_of (p2_of rfl rfl rfl) rfl rfl), q⟩
end
end LR
set_option Elab.async false
set_option maxRecDepth 100000
set_option linter.all false
set_option maxHeartbeats 4000000
namespace LR
open PySem PySem.Spec PyProof.Rows L2
section
variable {P : Program} {w : World} {K : PySem.W.Frag} {mg : Str → Option Value} {base : Heap} {ζ : Cs}
def fFitsL : Fs := fun as _ Q => ∃ (h : Int) (os : List Bool) (es : List (List Int)) (tp : Bool) (ls : List Int) (φ : Plc) (v : Nat), as = [.d (.str (strO os)), .d (edL es), .d (seqX tp ls), .d (plcD φ), .d (nat v)] ∧ (∀ e ∈ es, EdgeOk h os.length e) ∧ (∀ l ∈ ls, 1 ≤ l) ∧ ls.length ≤ 1000 ∧ os.length ≤ 9 ∧ PlcOk os.length ls.length φ ∧ v < os.length ∧ Q (.d (.bl (fitsB ls os es φ v)))
theorem q_fitsL (T : Txt P K mg ζ) : CalX P w K mg base 3 "_law_fits" (spF K fFitsL) := by
  have cx_allows : CalX P w K mg base 2 "_law_allows" (spF K fAllowsX) := q_allowsX T
  refine T.d_fits.dl sc_fits (by rintro as E Q ⟨h, os, es, tp, ls, φ, v, rfl, _⟩; rfl) (by decide) fun fa cdv A outer s H E hr => ⟨_, qss_cons (qs_if (qt_p (qpt_cmp op_isN o_isN (qp_ix ix_A o_ix (qp_var (pv 3)) (qp_var (pv 4)) (fun _ _ => rfl)) (qp_non) (nomark _)))
 (qss_one (qs_ret (qe_p (qp_bl))))
 (qss_nil))
 (qss_cons (qs_setN (i := 5) false sc_fits.nd rfl (Or.inl rfl) (qe_p (qp_int)))
 (qss_cons (qs_setN (i := 6) false sc_fits.nd rfl (Or.inl rfl) (qe_p (qp_int)))
 (qss_cons (qs_for (vs := [7]) [7, 8] (passes_of rfl) rfl (qi_seq (qe_var (pv 1))) (qg_name (pg_name (i := 7) sc_fits.nd rfl (Or.inl rfl)))
 (qss_one (qs_if (qt_p (qpt_cmp (op_eqD hr.units) o_eq (qp_ix ix_A o_ix (qp_var (pv 7)) (qp_int) (fun _ _ => rfl)) (qp_var (pv 4)) (nomark _)))
 (qss_cons (qs_setN (i := 5) false sc_fits.nd rfl (Or.inl rfl) (qe_p (qp_op op_addA o_add (qp_var (pv 5)) (qp_int))))
 (qss_cons (qs_setN (i := 8) false sc_fits.nd rfl (Or.inl rfl) (qe_p (qp_ix ix_A o_ix (qp_var (pv 3)) (qp_ix ix_A o_ix (qp_var (pv 7)) (qp_int) (fun _ _ => rfl)) (fun _ _ => rfl))))
 (qss_one (qs_if (QW.qt (qw_and (qt_p (qpt_cmp op_notN o_notN (qp_var (pv 8)) (qp_non) (nomark _))) (qw_and1 (qt_truth (qe_cT cx_allows hr (by first | decide | omega) (takes_of rfl rfl rfl rfl) (by rfl) (qa_cons (qe_var (pv 2)) (qa_cons (qe_p (qp_ix ix_A o_ix (qp_var (pv 3)) (qp_var (pv 4)) (fun _ _ => rfl))) (qa_cons (qe_p (qp_ix ix_A o_ix (qp_var (pv 7)) (qp_int) (fun _ _ => rfl))) (qa_cons (qe_var (pv 8)) (qa_nil))))))))))
 (qss_one (qs_setN (i := 6) false sc_fits.nd rfl (Or.inl rfl) (qe_p (qp_op op_addA o_add (qp_var (pv 6)) (qp_int)))))
 (qss_nil)))))
 (qss_nil))))
 (qss_cons (qs_if (qt_p (qpt_cmp (op_eqD hr.units) o_eq (qp_ix ix_A o_ix (qp_var (pv 0)) (qp_var (pv 4)) (fun _ _ => rfl)) (qp_str) (nomark _)))
 (qss_one (qs_ret (qe_p (qp_cmp op_gt o_cmp (qp_var (pv 6)) (qp_int) (nomark _)))))
 (qss_nil))
 (qss_one (qs_ret (qe_p (qp_cmp (op_eqD hr.units) o_eq (qp_var (pv 6)) (qp_var (pv 5)) (nomark _))))))))), ?_⟩
  rintro as Ed Qd ⟨h, os, es, tp, ls, φ, v, rfl, hok, lb, l1, n9, P0, hv, q⟩
  have pl := P0.len
  refine ⟨_, p2_of (p2_of rfl rfl (plc_at (φ := φ) (v := v) (by omega))) rfl (show isND (optN (φ.getD v none)) .non = some (.bl (decide (φ.getD v none = none))) from by cases φ.getD v none <;> rfl), fun z => ?_, fun z => ?_⟩
  · have z := of_decide_eq_true z
    have : fitsB ls os es φ v = true := by unfold fitsB; rw [z]
    rw [this] at q
    exact ⟨_, rfl, q⟩
  have z := of_decide_eq_false z
  obtain ⟨u, c1⟩ := Option.ne_none_iff_exists'.mp z
  have hu := P0.at_le c1
  have e1 : fitsB ls os es φ v = goodAt ls os es φ v u := by unfold fitsB; rw [c1]
  rw [e1] at q
  refine ⟨_, rfl, _, rfl, ?_⟩
  refine ⟨fun i e => e = [.d (.str (strO os)), .d (edL es), .d (seqX tp ls), .d (plcD φ), .d (nat v), .d (nat (outs (es.take i) v).length), .d (nat ((outs (es.take i) v).filter (okAt ls φ u)).length), .any, .any], rfl, ?_, ?_⟩
  · rintro i x e ex rfl
    obtain ⟨ed, ee, rfl⟩ := map_getD ex
    have em := List.mem_of_getElem? ee
    have oe := hok ed em
    have et : outs (es.take (i + 1)) v = outs (es.take i) v ++ if es0 ed = (v : Int) then [ed] else [] := by
      unfold outs
      rw [List.take_succ, ee, List.filter_append]
      congr 1
      by_cases c : es0 ed = (v : Int) <;> simp [c]
    refine ⟨decide (es0 ed = (v : Int)), p2_of (p2_of rfl rfl (ed_at0 oe)) rfl rfl, fun c => ?_, fun c => ?_⟩
    · have c := of_decide_eq_true c
      rw [if_pos c] at et
      obtain ⟨s, r, t, rfl, hs, hr, ht⟩ := id oe
      obtain ⟨t, rfl⟩ : ∃ a : Nat, t = (a : Int) := ⟨t.toNat, by omega⟩
      have e2 : okAt ls φ u [s, r, (t : Int)] = match φ.getD t none with | none => false | some w => alw ls u r w := rfl
      refine ⟨_, p2_of rfl rfl rfl, _, p2_of rfl (p2_of rfl rfl (ed_at2 oe)) (plc_at (φ := φ) (v := t) (by omega)), ?_⟩
      have fin : ∀ b, okAt ls φ u [s, r, (t : Int)] = b → (nat ((outs (es.take (i + 1)) v).filter (okAt ls φ u)).length) = nat (((outs (es.take i) v).filter (okAt ls φ u)).length + if b = true then 1 else 0) := fun b hb => by
        rw [et, List.filter_append, List.length_append]
        cases b <;> simp [hb]
      have cnt : nat (outs (es.take (i + 1)) v).length = D.int (((outs (es.take i) v).length : Int) + 1) := by
        rw [et, List.length_append]; rfl
      cases c2 : φ.getD t none with
      | none =>
        rw [c2] at e2
        refine ⟨false, rfl, (fun z => by cases z), fun _ => ⟨(fun z => by cases z), fun _ => ?_⟩⟩
        show _ = [_, _, _, _, _, Ev.d (nat (outs (es.take (i + 1)) v).length), Ev.d (nat ((outs (es.take (i + 1)) v).filter (okAt ls φ u)).length), _, _]
        rw [fin false e2, cnt]; rfl
      | some w =>
        rw [c2] at e2
        have hw := P0.at_le c2
        refine ⟨true, rfl, fun _ => ?_, fun z => by cases z⟩
        refine ⟨nat u, p2_of rfl rfl (by rw [plc_at (by omega), c1]; rfl), _, p2_of rfl rfl (ed_at1 oe), tp, ls, u, w, r, rfl, lb, l1, hu.2, hw.2, hr.1, _, rfl, fun c3 => ?_, fun c3 => ?_⟩
        · refine ⟨_, p2_of rfl rfl rfl, ?_⟩
          show _ = [_, _, _, _, _, Ev.d (nat (outs (es.take (i + 1)) v).length), Ev.d (nat ((outs (es.take (i + 1)) v).filter (okAt ls φ u)).length), _, _]
          rw [fin true (e2.trans c3), cnt]; rfl
        · show _ = [_, _, _, _, _, Ev.d (nat (outs (es.take (i + 1)) v).length), Ev.d (nat ((outs (es.take (i + 1)) v).filter (okAt ls φ u)).length), _, _]
          rw [fin false (e2.trans c3), cnt]; rfl
    · have c := of_decide_eq_false c
      rw [if_neg c, List.append_nil] at et
      show _ = [_, _, _, _, _, Ev.d (nat (outs (es.take (i + 1)) v).length), Ev.d (nat ((outs (es.take (i + 1)) v).filter (okAt ls φ u)).length), _, _]
      rw [et]; rfl
  · rintro e rfl
    rw [List.length_map, List.take_length]
    obtain ⟨x, ex, eA⟩ := owner_A (os := os) (v := v) (by omega) hv
    refine ⟨_, p2_of (p2_of rfl rfl ex) rfl eA, fun b => ?_, fun b => ?_⟩
    · refine ⟨.bl (goodAt ls os es φ v u), p2_of rfl rfl ?_, q⟩
      unfold goodAt
      rw [if_pos b]
      show some (D.bl (decide ((0 : Int) < (((outs es v).filter (okAt ls φ u)).length : Nat)))) = _
      congr 2
      rw [Bool.eq_iff_iff, decide_eq_true_eq, List.any_eq_true]
      constructor
      · intro h
        obtain ⟨y, hy⟩ := List.exists_mem_of_length_pos (l := (outs es v).filter (okAt ls φ u)) (by omega)
        exact ⟨y, (List.mem_filter.mp hy).1, (List.mem_filter.mp hy).2⟩
      · rintro ⟨y, h1, h2⟩
        have := List.length_pos_of_mem (List.mem_filter.mpr ⟨h1, h2⟩)
        omega
    · refine ⟨.bl (goodAt ls os es φ v u), p2_of rfl rfl ?_, q⟩
      unfold goodAt
      rw [if_neg (by rw [b]; decide)]
      show some (D.bl (decide ((((outs es v).filter (okAt ls φ u)).length : Int) = ((outs es v).length : Int)))) = _
      congr 2
      rw [Bool.eq_iff_iff, decide_eq_true_eq, List.all_eq_true]
      constructor
      · intro h
        exact fun y hy => List.length_filter_eq_length_iff.mp (by omega) y hy
      · intro h
        have := List.length_filter_eq_length_iff.mpr h
        omega
end
end LR
set_option Elab.async false
set_option maxRecDepth 100000
set_option linter.all false
set_option maxHeartbeats 4000000
namespace LR
open PySem PySem.Spec PyProof.Rows L2
section
variable {P : Program} {w : World} {K : PySem.W.Frag} {mg : Str → Option Value} {base : Heap} {ζ : Cs}
theorem str_len {os : List Bool} (hl : os.length ≤ 1000) : lenD [.str (strO os)] = some (nat os.length) := by
  show (if (strO os).length ≤ 100000 then some (D.int ((strO os).length : Nat)) else none) = _
  rw [strO_len, if_pos (by omega)]
theorem seq_len {tp : Bool} {ls : List Int} : lenD [seqX tp ls] = some (nat ls.length) := by
  cases tp <;> exact some_nat (by rw [List.length_map])
theorem zeros_pc {os : List Bool} {i : Nat} {env : List Ev} {vs : List Nat} (hl : os.length ≤ 1000) (hs : pvar 0 env = some (.str (strO os))) (ho : ownFree env vs = true) : plc vs (ipStr (pvar 0)).p (bNm i) (pc (D.bl true)) (pc (D.int 0)) env = some (.lst ((zeros os).map optN)) := by
  have se : ltrs (strO os) = os.map fun b => D.str ⟨#[ltr b]⟩ := by
    unfold ltrs strO
    rw [List.toList_toArray, List.map_map]; rfl
  have sz : (strO os).cps.size ≤ 100000 := (show (strO os).length ≤ _ by rw [strO_len]; omega)
  have e2 : (ipStr (pvar 0)).p env = some (os.map fun b => D.str ⟨#[ltr b]⟩) := by
    show pstr (pvar 0) env = _
    unfold pstr
    rw [hs]
    show (if (strO os).cps.size ≤ 100000 then some (ltrs (strO os)) else none) = _
    rw [if_pos sz, se]
  refine (plc_of ho e2 (pcol_all (F := fun _ => D.int 0) fun b _ => pturn_of (c := true) rfl rfl fun _ => rfl)).trans ?_
  unfold zeros
  rw [List.map_replicate, List.map_const']
  rfl
/-- letters, edges, levels: the least placement that fits -/
def fLwClimb : Fs := fun as _ Q => ∃ (h : Int) (os : List Bool) (es : List (List Int)) (tp : Bool) (ls : List Int), as = [.d (.str (strO os)), .d (edL es), .d (seqX tp ls)] ∧ (∀ e ∈ es, EdgeOk h os.length e) ∧ (∀ l ∈ ls, 1 ≤ l) ∧ ls.length ≤ 1000 ∧ os.length ≤ 9 ∧ es.length ≤ 1000 ∧ ∀ φ, LeastFit ls os es φ → Q (.fr (.ls (φ.map optN)))
theorem q_lwclimb (T : Txt P K mg ζ) : CalX P w K mg base 4 "_law_climb" (spF K fLwClimb) := by
  have cx_fits : CalX P w K mg base 3 "_law_fits" (spF K fFitsL) := q_fitsL T
  refine T.d_lw_climb.dl sc_lw_climb (by rintro as Ed Q ⟨h, os, es, tp, ls, rfl, _⟩; rfl) (by decide) fun fa cdv A outer s H E hr => ⟨_, qss_cons (qs_setN (i := 3) true sc_lw_climb.nd rfl (by first | exact Or.inr rfl | exact Or.inl rfl) (qf_lc (own := [("node", 4)]) (it := ipStr _) rfl sc_lw_climb.nd (qi_str (qe_p (qp_var (pv 0)))) (blkOk_by (N := N_lw_climb) (sc := defScope s_lw_climb) (by decide +kernel)) (fun _ _ _ _ _ => qg_name (pg_name (i := 4) sc_lw_climb.nd rfl (Or.inl rfl))) (fun _ _ _ _ _ => qpts_nil) (fun _ _ _ _ _ => qp_int)))
 (qss_cons (qs_for (vs := [5]) [4, 5, 6] (passes_of rfl) rfl (qi_range1 (by rfl) T.n_range (qe_p (qp_op op_mulA o_mul (qp_callB o_len c_len (by rfl) T.n_len b_len (qps_cons (qp_var (pv 0)) (qps_nil))) (qp_op op_addA o_add (qp_callB o_len c_len (by rfl) T.n_len b_len (qps_cons (qp_var (pv 2)) (qps_nil))) (qp_int))))) (qg_name (pg_name (i := 5) sc_lw_climb.nd rfl (Or.inl rfl)))
 (qss_cons (qs_setLcL (own := [("node", 4)]) (i := 6) false rfl sc_lw_climb.nd rfl rfl (sw_true rfl rfl rfl (by decide +kernel)) (qi_range1 (by rfl) T.n_range (qe_p (qp_callB o_len c_len (by rfl) T.n_len b_len (qps_cons (qp_var (pv 0)) (qps_nil))))) (blkOk_by (N := N_lw_climb) (sc := defScope s_lw_climb) (by decide +kernel)) (fun _ _ _ _ _ => qg_name (pg_name (i := 4) sc_lw_climb.nd rfl (Or.inl rfl))) (fun _ _ _ _ _ => qts_one (qt_not (qt_truth (qe_cT cx_fits hr (by first | decide | omega) takes0 (by rfl) (qa_cons (qe_var (pv 0)) (qa_cons (qe_var (pv 1)) (qa_cons (qe_var (pv 2)) (qa_cons (qe_var (pv 3)) (qa_cons (qe_var (pv 4)) (qa_nil)))))))))) (fun _ _ _ _ _ => qe_var (pv 4)))
 (qss_cons (qs_if (qt_p (qpt_cmp (op_eqD hr.units) o_eq (qp_callB o_len c_len (by rfl) T.n_len b_len (qps_cons (qp_var (pv 6)) (qps_nil))) (qp_int) (nomark _)))
 (qss_one (qs_break))
 (qss_nil))
 (qss_one (qs_for (vs := [4]) [4] (passes_of rfl) rfl (qi_seq (qe_var (pv 6))) (qg_name (pg_name (i := 4) sc_lw_climb.nd rfl (Or.inl rfl)))
 (qss_one (qs_if (qt_loan (qpt_cmp op_lt o_cmp (qp_ix ix_A o_ix (qp_var (pv 3)) (qp_var (pv 4)) (fun _ _ => rfl)) (qp_callB o_len c_len (by rfl) T.n_len b_len (qps_cons (qp_var (pv 2)) (qps_nil))) (nomark _)))
 (qss_one (qs_put (ps_asg (qe_loan (qp_op op_addA o_add (qp_ix ix_A o_ix (qp_var (pv 3)) (qp_var (pv 4)) (fun _ _ => rfl)) (qp_int))) (pg_sub (pv 3) (qe_p (qp_var (pv 4))) set_list))))
 (qss_one (qs_put (ps_asg (qe_p (qp_non)) (pg_sub (pv 3) (qe_p (qp_var (pv 4))) set_list)))))))))))
 (qss_one (qs_retO (pv 3)))), ?_⟩
  rintro as Ed Qd ⟨h, os, es, tp, ls, rfl, eo, l1, ll, ol, el, q⟩
  have sl := str_len (os := os) (by omega)
  have lle : lenD [seqX tp ls] = some (nat ls.length) := seq_len
  refine ⟨_, zeros_pc (by omega) rfl rfl, ?_⟩
  obtain ⟨N, eN, eN2, hN⟩ : ∃ N : Nat, (os.length : Int) * ((ls.length : Int) + 2) = (N : Int) ∧ N = os.length * (ls.length + 2) ∧ N ≤ 9018 :=
    ⟨os.length * (ls.length + 2), by rw [Int.natCast_mul, Int.natCast_add]; rfl, rfl, Nat.le_trans (Nat.mul_le_mul ol (show ls.length + 2 ≤ 1002 by omega)) (by decide)⟩
  have em : mulD (nat os.length) (.int ((ls.length : Int) + 2)) = some (.int (N : Int)) := by
    show (if (smI (os.length : Int) || smI ((ls.length : Int) + 2)) = true then some (D.int ((os.length : Int) * ((ls.length : Int) + 2))) else none) = _
    rw [if_pos (by rw [show smI (os.length : Int) = true by unfold smI; rw [decide_eq_true (by omega), decide_eq_true (by omega)]; rfl]; rfl), eN]
  refine ⟨.int (N : Int), p2_of (pN1 rfl sl) (p2_of (pN1 rfl lle) rfl rfl) em, ⟨by omega, by omega⟩, fun i e => ∃ φ, PlcOk os.length ls.length φ ∧ (∀ ψ, PlcOk os.length ls.length ψ → (∀ v, v < os.length → fitsB ls os es ψ v = true) → PLe φ ψ) ∧ i ≤ wgt ls.length φ ∧ e = [.d (.str (strO os)), .d (edL es), .d (seqX tp ls), .own (.ls (φ.map optN)), .any, .any, .any], ⟨zeros os, zeros_ok, fun ψ o _ => zeros_le o.len, Nat.zero_le _, rfl⟩, ?_, ?_⟩
  · rintro i x e ex ⟨φ, P, Lo, hw, rfl⟩
    obtain ⟨hi, rfl⟩ := rg_get ex
    obtain ⟨W, eW⟩ : ∃ W, wrongs ls os es φ = W := ⟨_, rfl⟩
    have hW : ∀ j v, W[j]? = some v → v < os.length ∧ fitsB ls os es φ v = false ∧ ∃ s, φ.getD v none = some s := fun j v e => by
      obtain ⟨a, b⟩ := wrong_lt (by rw [eW]; exact List.mem_of_getElem? e)
      exact ⟨a, b, wrong_on b⟩
    have pw : W.Pairwise (· < ·) := by rw [← eW]; exact List.Pairwise.filter _ List.pairwise_lt_range
    refine ⟨rfl, _, pN1 rfl sl, ⟨by omega, by omega⟩, fun i acc => acc = ((List.range i).filter fun v => !fitsB ls os es φ v).map nat, rfl, ?_, ?_⟩
    · rintro i x acc ex rfl
      obtain ⟨hi, rfl⟩ := rg_get ex
      rw [Int.toNat_natCast] at hi
      refine ⟨h, os, es, tp, ls, φ, i, rfl, eo, l1, ll, ol, P, hi, _, rfl, fun c => ?_, fun c => ?_⟩
      · show _ = ((List.range (i + 1)).filter _).map nat
        rw [List.range_succ, List.filter_append, List.map_append]
        simp [c]
      · show _ = ((List.range (i + 1)).filter _).map nat
        rw [List.range_succ, List.filter_append, List.map_append]
        simp [c]
    rintro acc rfl
    rw [rg_len, Int.toNat_natCast, show List.filter (fun v => !fitsB ls os es φ v) (List.range os.length) = W from eW]
    refine ⟨_, rfl, by rw [show W.map nat = (W.map fun n : Nat => (n : Int)).map D.int by rw [List.map_map]; rfl]; exact imds_intsL _, ?_⟩
    refine ⟨decide (W = []), p2_of (pN1 rfl rfl) rfl ?_, fun z => q φ ⟨P, fun v hv => ?_, Lo⟩, fun z => ?_⟩
    · refine some_dec ?_
      rw [List.length_map, ← List.length_eq_zero_iff]
      exact Int.natCast_eq_zero
    · have z := of_decide_eq_true z
      cases c : fitsB ls os es φ v with
      | true => rfl
      | false =>
        have : v ∈ W := by rw [← eW]; exact List.mem_filter.mpr ⟨List.mem_range.mpr hv, by rw [c]; rfl⟩
        rw [z] at this; cases this
    have z := of_decide_eq_false z
    refine ⟨fun j e => ∃ φ', PlcOk os.length ls.length φ' ∧ (∀ ψ, PlcOk os.length ls.length ψ → (∀ v, v < os.length → fitsB ls os es ψ v = true) → PLe φ' ψ) ∧ wgt ls.length φ' = wgt ls.length φ + j ∧ (∀ k v, j ≤ k → W[k]? = some v → φ'.getD v none = φ.getD v none) ∧ e = [.d (.str (strO os)), .d (edL es), .d (seqX tp ls), .own (.ls (φ'.map optN)), .any, .d (nat i), .d (.lst (W.map nat))], ⟨φ, P, Lo, rfl, fun _ _ _ _ => rfl, rfl⟩, ?_, ?_⟩
    · rintro j x e ex ⟨φ', P', Lo', hw', hk, rfl⟩
      obtain ⟨v, ev, rfl⟩ := map_getD ex
      obtain ⟨hv, wr, s, hs⟩ := hW j v ev
      have es' : φ'.getD v none = some s := by rw [hk j v (Nat.le_refl _) ev, hs]
      have vl : v < φ'.length := by rw [P'.len]; exact hv
      have ea := plc_at (φ := φ') vl
      rw [es'] at ea
      have sle := (P'.at_le es').2
      have keep : ∀ o k u, j + 1 ≤ k → W[k]? = some u → (φ'.set v o).getD u none = φ.getD u none := fun o k u jk eu => by
        have ne : u ≠ v := fun e => by
          have h1 := (List.getElem?_eq_some_iff.mp eu)
          have h2 := (List.getElem?_eq_some_iff.mp ev)
          have := List.pairwise_iff_getElem.mp pw j k h2.1 h1.1 (by omega)
          rw [h1.2, h2.2] at this
          omega
        rw [getD_set_ne ne]
        exact hk k u (by omega) eu
      have more : ∀ o, stepV ls.length φ v = o → hgt ls.length o = s + 1 → (∀ t, o = some t → t ≤ ls.length) → ∃ φ2, PlcOk os.length ls.length φ2 ∧ (∀ ψ, PlcOk os.length ls.length ψ → (∀ v, v < os.length → fitsB ls os es ψ v = true) → PLe φ2 ψ) ∧ wgt ls.length φ2 = wgt ls.length φ + (j + 1) ∧ (∀ k v, j + 1 ≤ k → W[k]? = some v → φ2.getD v none = φ.getD v none) ∧
          [Ev.d (.str (strO os)), .d (edL es), .d (seqX tp ls), .own (.ls ((φ'.map optN).set v (optN o))), .any, .d (nat i), .d (.lst (W.map nat))] = [.d (.str (strO os)), .d (edL es), .d (seqX tp ls), .own (.ls (φ2.map optN)), .any, .d (nat i), .d (.lst (W.map nat))] := fun o e1 e2 e3 => by
        refine ⟨φ'.set v o, P'.set e3, fun ψ ok f => (Lo' ψ ok f).set (by rw [← e1]; exact step_below (Lo ψ ok f) wr (f v hv) ok), ?_, keep o, by rw [List.map_set]⟩
        have := wgt_set (top := ls.length) (φ := φ') (v := v) (o := o) vl
        rw [es', e2] at this
        have this : wgt ls.length (φ'.set v o) + s = wgt ls.length φ' + (s + 1) := this
        omega
      have est : stepV ls.length φ v = if s < ls.length then some (s + 1) else none := by unfold stepV; rw [hs]
      refine ⟨decide (s < ls.length), p2_of (p2_of rfl rfl ea) (pN1 rfl lle) (some_dec (by omega)), fun z => ?_, fun z => ?_⟩
      · have z := of_decide_eq_true z
        refine ⟨_, p2_of (p2_of rfl rfl ea) rfl rfl, rfl, _, _, v, rfl, rfl, ixN_of (by rw [List.length_map]; exact vl), ?_⟩
        exact more (some (s + 1)) (by rw [est, if_pos z]) rfl fun t e => by cases e; exact z
      · have z := of_decide_eq_false z
        refine ⟨_, rfl, _, _, v, rfl, rfl, ixN_of (by rw [List.length_map]; exact vl), ?_⟩
        exact more none (by rw [est, if_neg z]) (show ls.length + 1 = s + 1 by omega) fun t e => by cases e
    · rintro e ⟨φ', P', Lo', hw', _, rfl⟩
      have : 0 < W.length := List.length_pos_iff.mpr z
      exact ⟨φ', P', Lo', by rw [List.length_map] at hw'; omega, rfl⟩
  · rintro e ⟨φ, P, Lo, hw, rfl⟩
    refine q φ ⟨P, fun v hv => ?_, Lo⟩
    have := wgt_le P.le
    rw [P.len] at this
    rw [rg_len, Int.toNat_natCast, eN2] at hw
    have : os.length * (ls.length + 2) = os.length * (ls.length + 1) + os.length := by rw [← Nat.mul_succ]
    omega
end
end LR
set_option Elab.async false
set_option maxRecDepth 100000
set_option linter.all false
set_option maxHeartbeats 4000000
namespace LR
open PySem PySem.Spec PyProof.Rows L2
section
variable {P : Program} {w : World} {K : PySem.W.Frag} {mg : Str → Option Value} {base : Heap} {ζ : Cs}
/-- a row that is in order -/
def fRow : Fs := fun as _ Q => ∃ (h : Int) (tp : Bool) (ls : List Int) (m : Int), as = [.d (.int h), .d (intX tp ls), .d (.int m)] ∧ (ls.length : Int) ≤ m ∧ ls.length ≤ 1000 ∧ (∀ l ∈ ls, 1 ≤ l ∧ l ≤ h) ∧ Q (.d .non)
theorem q_row (T : Txt P K mg ζ) : CalX P w K mg base 1 "check_row" (spF K fRow) := by
  refine T.d_check_row.dl sc_check_row (by rintro as E Q ⟨h, tp, ls, m, rfl, _⟩; rfl) (by decide) fun fa cdv A outer s H E hr => ⟨_, qss_cons (qs_if (qt_p (qpt_cmp op_gt o_cmp (qp_callB o_len c_len (by rfl) T.n_len b_len (qps_cons (qp_var (pv 1)) (qps_nil))) (qp_var (pv 2)) (nomark _)))
 (qss_one (qs_raiseP rfl (takes_of rfl rfl rfl rfl) PySem.F.excBase_ValueError T.r_TooLarge.xP T.r_TooLarge.gC T.r_TooLarge.kP (raises_own T.r_TooLarge.bP T.r_TooLarge.tP) (by rfl) (qe_msg (.txt qp_str (.val (qp_callB o_len c_len (by rfl) T.n_len b_len (qps_cons (qp_var (pv 1)) (qps_nil))) (.txt qp_str (.val (qp_var (pv 2)) (.nil))))))))
 (qss_nil))
 (qss_one (qs_for (vs := [3, 4]) [3, 4] (passes_of rfl) rfl (qi_enum (by rfl) T.n_enumerate (qe_var (pv 1))) (qg_tup' rfl (qgs_cons' (qg_name (pg_name (i := 3) sc_check_row.nd rfl (Or.inl rfl))) (qgs_cons' (qg_name (pg_name (i := 4) sc_check_row.nd rfl (Or.inl rfl))) (qgs_nil))))
 (qss_one (qs_if (qt_p (qpt_not (qpt_chain op_le op_le o_cmp o_cmp (qp_int) (qp_var (pv 4)) (qp_var (pv 0)))))
 (qss_one (qs_never))
 (qss_nil))))), ?_⟩
  rintro as Ed Qd ⟨h, tp, ls, m, rfl, hl, hz, hb, q⟩
  have e1 : lenD [intX tp ls] = some (.int ls.length) := by cases tp <;> simp [intX, lenD]
  refine ⟨_, p2_of (pN1 rfl e1) rfl rfl, fun c => ?_, fun _ => ?_⟩
  · have := of_decide_eq_true c; omega
  refine seq_intX ?_
  refine ⟨fun i e => e = [.d (.int h), .d (intX tp ls), .d (.int m), .any, .any], rfl, ?_, ?_⟩
  · rintro i x e ex rfl
    obtain ⟨y, ey, rfl⟩ := enm_at ex
    obtain ⟨v, ev, rfl⟩ := int_get ey
    obtain ⟨b1, b2⟩ := hb v (List.mem_of_getElem? ev)
    refine ⟨false, ?_, (fun c => nomatch c), fun _ => rfl⟩
    show some (D.bl (!(decide (1 ≤ v) && decide (v ≤ h)))) = _
    rw [decide_eq_true b1, decide_eq_true b2]; rfl
  · rintro e rfl; exact q
end
end LR
set_option Elab.async false
set_option maxRecDepth 100000
set_option linter.all false
set_option maxHeartbeats 4000000
namespace LR
open PySem PySem.Spec PyProof.Rows L2
section
variable {P : Program} {w : World} {K : PySem.W.Frag} {mg : Str → Option Value} {base : Heap} {ζ : Cs}
theorem any_pos {l : List Nat} {p : Nat → Bool} : decide (0 < (((l.filter p).map nat).length : Int)) = l.any p := by
  rw [Bool.eq_iff_iff, decide_eq_true_eq, List.any_eq_true, List.length_map]
  constructor
  · intro h
    cases e : l.filter p with
    | nil => rw [e] at h; simp at h
    | cons x r =>
      have : x ∈ l.filter p := by rw [e]; exact List.mem_cons_self
      obtain ⟨a, b⟩ := List.mem_filter.mp this
      exact ⟨x, a, b⟩
  · rintro ⟨x, a, b⟩
    have : x ∈ l.filter p := List.mem_filter.mpr ⟨a, b⟩
    have := List.length_pos_of_mem this
    omega
theorem filter_snoc {p : Nat → Bool} {k : Nat} : (List.range (k + 1)).filter p = (List.range k).filter p ++ (if p k = true then [k] else []) := by
  rw [List.range_succ, List.filter_append]
  congr 1
  by_cases c : p k = true
  · rw [if_pos c, List.filter_cons_of_pos c]; rfl
  · rw [if_neg c, List.filter_cons_of_neg c]; rfl
end
end LR
set_option Elab.async false
set_option maxRecDepth 100000
set_option linter.all false
set_option maxHeartbeats 4000000
namespace LR
open PySem PySem.Spec PyProof.Rows L2
section
variable {P : Program} {w : World} {K : PySem.W.Frag} {mg : Str → Option Value} {base : Heap} {ζ : Cs}
def fNext : Fs := fun as _ Q => ∃ (ls : List Int) (m : List Nat) (r : Int), as = [.d (intT ls), .d (natL m), .d (.int r)] ∧ (∀ l ∈ ls, 1 ≤ l) ∧ ls.length ≤ 1000 ∧ 1 ≤ r ∧ Q (.d (natL (nx ls m r)))
theorem q_next (T : Txt P K mg ζ) : CalX P w K mg base 1 "next_marks" (spF K fNext) := by
  refine T.d_next_marks.dl sc_next_marks (by rintro as E Q ⟨ls, m, r, rfl, _⟩; rfl) (by decide) fun fa cdv A outer s H E hr => ⟨_, qss_cons (qs_setN (i := 3) true sc_next_marks.nd rfl (Or.inl rfl) (qe_lst (qa_nil)))
 (qss_cons (qs_setN (i := 4) false sc_next_marks.nd rfl (Or.inl rfl) (qe_p (qp_bl)))
 (qss_cons (qs_setN (i := 5) false sc_next_marks.nd rfl (Or.inl rfl) (qe_p (qp_bl)))
 (qss_cons (qs_for (vs := [6, 7]) [6, 7] (passes_of rfl) rfl (qi_enum (by rfl) T.n_enumerate (qe_var (pv 0))) (qg_tup' rfl (qgs_cons' (qg_name (pg_name (i := 6) sc_next_marks.nd rfl (Or.inl rfl))) (qgs_cons' (qg_name (pg_name (i := 7) sc_next_marks.nd rfl (Or.inl rfl))) (qgs_nil))))
 (qss_cut (qs_if (qt_p (qpt_cmp (op_inA (Room.u65 hr)) o_in (qp_var (pv 6)) (qp_var (pv 1)) rfl))
 (qss_one (qs_setN (i := 4) false sc_next_marks.nd rfl (Or.inl rfl) (qe_p (qp_bl))))
 (qss_nil))
 (qss_cut (qs_if (qt_p (qpt_cmp op_gt o_cmp (qp_var (pv 7)) (qp_var (pv 2)) (nomark _)))
 (qss_cons (qs_setN (i := 4) false sc_next_marks.nd rfl (Or.inl rfl) (qe_p (qp_bl)))
 (qss_one (qs_setN (i := 5) false sc_next_marks.nd rfl (Or.inl rfl) (qe_p (qp_bl)))))
 (qss_one (qs_if (qt_p (qpt_cmp (op_eqD hr.units) o_eq (qp_var (pv 7)) (qp_var (pv 2)) (nomark _)))
 (qss_one (qs_setN (i := 5) false sc_next_marks.nd rfl (Or.inl rfl) (qe_var (pv 4))))
 (qss_nil))))
 (qss_one (qs_if (qt_p (qpt_truth (qp_var (pv 5))))
 (qss_one (qs_own m_append (ps_expr (pe_bm PySem.F.plainAttrs_list PySem.F.slot_list_append PySem.F.type_list_append mt_append (pv 3) (qa_cons (qe_p (qp_op op_addA o_add (qp_var (pv 6)) (qp_int))) (qa_nil))))))
 (qss_nil))))))
 (qss_fz [3] (qss_one (qs_ret (qe_var (pv 3)))))))), ?_⟩
  rintro as Ed Qd ⟨ls, m, r, rfl, hb, hl, hr1, q⟩
  let fnd : Nat → List D := fun i => ((List.range i).filter fun k => m.any fun s => rel ls s (k + 1) r).map fun k => nat (k + 1)
  refine ⟨_, rfl, Nat.zero_le _, _, rfl, _, rfl, ?_⟩
  refine ⟨fun i e => ∃ w c : Bool, e = [.d (intT ls), .d (natL m), .d (.int r), .own (.ls (fnd i)), .d (.bl w), .d (.bl c), .any, .any] ∧ (w = true ↔ ∃ s ∈ m, s < i ∧ gp ls s i ≤ r) ∧ (c = true ↔ ∃ s ∈ m, s < i ∧ gp ls s i = r),
    ⟨false, false, rfl, ⟨fun z => (by cases z), fun ⟨s, _, z, _⟩ => by omega⟩, ⟨fun z => (by cases z), fun ⟨s, _, z, _⟩ => by omega⟩⟩, ?_, ?_⟩
  · rintro i x e ex ⟨w, c, rfl, hw, hc⟩
    obtain ⟨y, ey, rfl⟩ := enm_at ex
    obtain ⟨b, eb, rfl⟩ := int_get ey
    have hi := (List.getElem?_eq_some_iff.mp eb).1
    have gb := gp_one hb eb
    have hb1 := hb b (List.mem_of_getElem? eb)
    refine ⟨fun e => ∃ w : Bool, e = [.d (intT ls), .d (natL m), .d (.int r), .own (.ls (fnd i)), .d (.bl w), .d (.bl c), .d (nat i), .d (.int b)] ∧ (w = true ↔ ∃ s ∈ m, s ≤ i ∧ gp ls s i ≤ r), ?_, ?_⟩
    · refine ⟨decide (i ∈ m), p2_of rfl rfl (inL_nats i m), fun z => ?_, fun z => ?_⟩
      · exact ⟨_, rfl, true, rfl, fun _ => ⟨i, of_decide_eq_true z, Nat.le_refl _, by rw [gp_nil hb]; omega⟩, fun _ => rfl⟩
      · have z := of_decide_eq_false z
        refine ⟨w, rfl, hw.trans ⟨fun ⟨s, a, b, c⟩ => ⟨s, a, Nat.le_of_lt b, c⟩, fun ⟨s, a, b, c⟩ => ⟨s, a, ?_, c⟩⟩⟩
        rcases Nat.lt_or_eq_of_le b with b | b
        · exact b
        · subst b; exact absurd a z
    · rintro e ⟨w1, rfl, hw1⟩
      have sp : ∀ s, s ≤ i → gp ls s (i + 1) = max (gp ls s i) b := fun s hs => by rw [gp_split hb hs (by omega : i ≤ i + 1), gb]
      refine ⟨fun e => ∃ w c : Bool, e = [.d (intT ls), .d (natL m), .d (.int r), .own (.ls (fnd i)), .d (.bl w), .d (.bl c), .d (nat i), .d (.int b)] ∧ (w = true ↔ ∃ s ∈ m, s < i + 1 ∧ gp ls s (i + 1) ≤ r) ∧ (c = true ↔ ∃ s ∈ m, s < i + 1 ∧ gp ls s (i + 1) = r), ?_, ?_⟩
      · refine ⟨_, rfl, fun z => ?_, fun z => ?_⟩
        · have z := of_decide_eq_true z
          refine ⟨_, rfl, _, rfl, false, false, rfl, ⟨fun z => (by cases z), fun ⟨s, _, a, d⟩ => ?_⟩, ⟨fun z => (by cases z), fun ⟨s, _, a, d⟩ => ?_⟩⟩
          · rw [sp s (by omega)] at d; omega
          · rw [sp s (by omega)] at d; omega
        · have z := of_decide_eq_false z
          refine ⟨_, rfl, fun z2 => ?_, fun z2 => ?_⟩
          · have z2 := of_decide_eq_true z2
            refine ⟨w1, w1, rfl, hw1.trans ?_, hw1.trans ?_⟩
            · exact ⟨fun ⟨s, a, d, f⟩ => ⟨s, a, by omega, by rw [sp s d]; omega⟩, fun ⟨s, a, d, f⟩ => ⟨s, a, by omega, by rw [sp s (by omega)] at f; omega⟩⟩
            · exact ⟨fun ⟨s, a, d, f⟩ => ⟨s, a, by omega, by rw [sp s d]; omega⟩, fun ⟨s, a, d, f⟩ => ⟨s, a, by omega, by rw [sp s (by omega)] at f; omega⟩⟩
          · have z2 := of_decide_eq_false z2
            refine ⟨w1, c, rfl, hw1.trans ?_, hc.trans ?_⟩
            · exact ⟨fun ⟨s, a, d, f⟩ => ⟨s, a, by omega, by rw [sp s d]; omega⟩, fun ⟨s, a, d, f⟩ => ⟨s, a, by omega, by rw [sp s (by omega)] at f; omega⟩⟩
            · refine ⟨fun ⟨s, a, d, f⟩ => ⟨s, a, by omega, by rw [sp s (by omega)]; omega⟩, fun ⟨s, a, d, f⟩ => ?_⟩
              rw [sp s (by omega)] at f
              by_cases e : s = i
              · subst e
                rw [gp_nil hb, Int.max_eq_right (Int.le_trans (by decide) hb1)] at f
                exact absurd f z2
              · exact ⟨s, a, by omega, by omega⟩
      · rintro e ⟨w2, c2, rfl, hw2, hc2⟩
        have ec : c2 = m.any fun s => rel ls s (i + 1) r := by
          rw [Bool.eq_iff_iff, hc2, List.any_eq_true]
          exact ⟨fun ⟨s, a, d, f⟩ => ⟨s, a, rel_iff.mpr ⟨d, f⟩⟩, fun ⟨s, a, d⟩ => ⟨s, a, rel_iff.mp d⟩⟩
        refine ⟨c2, rfl, fun z => ?_, fun z => ?_⟩
        · refine ⟨_, rfl, _, rfl, _, _, rfl, rfl, ?_, w2, c2, ?_, hw2, hc2⟩
          · rw [List.length_append, List.length_map]
            have := List.length_filter_le (fun k => m.any fun s => rel ls s (k + 1) r) (List.range i)
            rw [List.length_range] at this
            show _ + 1 ≤ 100000; omega
          · refine congrArg (fun z => [Ev.d (intT ls), .d (natL m), .d (.int r), .own (.ls z), .d (.bl w2), .d (.bl c2), .any, .any]) ?_
            show _ = ((List.range (i + 1)).filter _).map _
            rw [filter_snoc, if_pos (by rw [← ec]; exact z), List.map_append]; rfl
        · refine ⟨w2, c2, ?_, hw2, hc2⟩
          refine congrArg (fun z => [Ev.d (intT ls), .d (natL m), .d (.int r), .own (.ls z), .d (.bl w2), .d (.bl c2), .any, .any]) ?_
          show _ = ((List.range (i + 1)).filter _).map _
          rw [filter_snoc, if_neg (by rw [← ec, z]; decide), List.append_nil]
  · rintro e ⟨w, c, rfl, _⟩
    rw [enm_len, List.length_map]
    have : fnd ls.length = (nx ls m r).map nat := by
      show ((List.range ls.length).filter _).map _ = _
      unfold nx stps
      rw [List.range_succ_eq_map, List.filter_cons_of_neg (by
        rw [List.any_eq_true]; rintro ⟨s, _, h⟩
        have := (rel_iff.mp h).1; omega), List.filter_map, List.map_map]
      rfl
    show Qd (.d (.lst (fnd ls.length)))
    rw [this]; exact q
end
end LR
set_option Elab.async false
set_option maxRecDepth 100000
set_option linter.all false
set_option maxHeartbeats 4000000
namespace LR
open PySem PySem.Spec PyProof.Rows L2
section
variable {P : Program} {w : World} {K : PySem.W.Frag} {mg : Str → Option Value} {base : Heap} {ζ : Cs}
def fLast : Fs := fun as _ Q => ∃ (ls : List Int) (tp : Bool) (row : List Int), as = [.d (intT ls), .d (intX tp row)] ∧ (∀ l ∈ ls, 1 ≤ l) ∧ ls.length ≤ 1000 ∧ (∀ l ∈ row, 1 ≤ l) ∧ Q (.d (natL (fw ls row)))
theorem q_last (T : Txt P K mg ζ) : CalX P w K mg base 2 "last_marks" (spF K fLast) := by
  have cx_next_marks : CalX P w K mg base 1 "next_marks" (spF K fNext) := q_next T
  refine T.d_last_marks.dl sc_last_marks (by rintro as E Q ⟨ls, tp, row, rfl, _⟩; rfl) (by decide) fun fa cdv A outer s H E hr => ⟨_, qss_cons (qs_setN (i := 2) false sc_last_marks.nd rfl (Or.inl rfl) (qe_p (qp_listRg rfl (by rfl) T.n_list (by rfl) T.n_range (qp_op op_addA o_add (qp_callB o_len c_len (by rfl) T.n_len b_len (qps_cons (qp_var (pv 0)) (qps_nil))) (qp_int)))))
 (qss_cons (qs_for (vs := [3]) [3] (passes_of rfl) rfl (qi_seq (qe_var (pv 1))) (qg_name (pg_name (i := 3) sc_last_marks.nd rfl (Or.inl rfl)))
 (qss_one (qs_setN (i := 2) false sc_last_marks.nd rfl (Or.inl rfl) (qe_cT cx_next_marks hr (by first | decide | omega) (takes_of rfl rfl rfl rfl) (by rfl) (qa_cons (qe_var (pv 0)) (qa_cons (qe_var (pv 2)) (qa_cons (qe_var (pv 3)) (qa_nil))))))))
 (qss_one (qs_ret (qe_var (pv 2))))), ?_⟩
  rintro as Ed Qd ⟨ls, tp, row, rfl, hb, hl, hr1, q⟩
  have e0 : ((ls.map D.int).length : Int) + 1 = (ls.length + 1 : Nat) := by rw [List.length_map]; omega
  have e1 : D.lst (rgD 0 ((ls.length + 1 : Nat) : Int).toNat) = natL (fw ls (row.take 0)) := by
    rw [rgD_nat]; rfl
  refine ⟨natL (fw ls (row.take 0)), ?_, seq_intX ⟨fun i e => e = [.d (intT ls), .d (intX tp row), .d (natL (fw ls (row.take i))), .any], rfl, ?_, ?_⟩⟩
  · show (if 0 ≤ ((ls.map D.int).length : Int) + 1 ∧ ((ls.map D.int).length : Int) + 1 ≤ 100000 then some (D.lst (rgD 0 (((ls.map D.int).length : Int) + 1).toNat)) else none) = _
    rw [e0, if_pos (by omega), e1]
  · rintro i x e ex rfl
    obtain ⟨r, er, rfl⟩ := int_get ex
    refine ⟨ls, _, r, rfl, hb, hl, hr1 r (List.mem_of_getElem? er), ?_⟩
    refine congrArg (fun z => [Ev.d (intT ls), .d (intX tp row), .d (natL z), .any]) ?_
    rw [List.take_succ, er]
    exact fw_snoc.symm
  · rintro e rfl
    rw [List.length_map, List.take_length]
    exact q
def fHolds : Fs := fun as _ Q => ∃ (ls : List Int) (tp : Bool) (row : List Int), as = [.d (intT ls), .d (intX tp row)] ∧ (∀ l ∈ ls, 1 ≤ l) ∧ ls.length ≤ 1000 ∧ (∀ l ∈ row, 1 ≤ l) ∧ ∀ b : Bool, (b = true ↔ least ls row ≠ []) → Q (.d (.bl b))
theorem q_holds (T : Txt P K mg ζ) : CalX P w K mg base 3 "holds" (spF K fHolds) := by
  have cx_last_marks : CalX P w K mg base 2 "last_marks" (spF K fLast) := q_last T
  refine T.d_holds.dl sc_holds (by rintro as E Q ⟨ls, tp, row, rfl, _⟩; rfl) (by decide) fun fa cdv A outer s H E hr => ⟨_, qss_one (qs_ret (qe_cmp op_gt o_cmp (qe_callB o_len c_len (by rfl) T.n_len b_len (qa_cons (qe_cT cx_last_marks hr (by first | decide | omega) (takes_of rfl rfl rfl rfl) (by rfl) (qa_cons (qe_var (pv 0)) (qa_cons (qe_var (pv 1)) (qa_nil)))) (qa_nil))) (qe_p (qp_int)) (nomark _))), ?_⟩
  rintro as Ed Qd ⟨ls, tp, row, rfl, hb, hl, hr1, q⟩
  refine ⟨ls, tp, row, rfl, hb, hl, hr1, _, _, rfl, rfl, _, rfl, _, rfl, q _ ?_⟩
  rw [← fw_ne, decide_eq_true_eq, List.length_map]
  cases fw ls row <;> simp
def fIn (C : Addr) : Fs := fun as _ Q => ∃ (h : Int) (ls : List Int) (tp : Bool) (row : List Int), as = [.d (ladD C h ls), .d (intX tp row)] ∧ (∀ l ∈ ls, 1 ≤ l) ∧ ls.length ≤ 1000 ∧ row.length ≤ 24 ∧ (∀ l ∈ row, 1 ≤ l ∧ l ≤ h) ∧ ∀ b : Bool, (b = true ↔ least ls row ≠ []) → Q (.d (.bl b))
theorem q_in (T : Txt P K mg ζ) : MetX P w K mg base 4 ζ.Ladder "__contains__" (spF K (fIn ζ.Ladder)) := by
  have cx_holds : CalX P w K mg base 3 "holds" (spF K fHolds) := q_holds T
  have cx_check_row : CalX P w K mg base 1 "check_row" (spF K fRow) := q_row T
  refine T.mt_L_contains.dl T.cl_Ladder sc_L_contains (by rintro as E Q ⟨h, ls, tp, row, rfl, _⟩; rfl) (by decide) fun fa cdv A outer s H E hr => ⟨_, qss_cons (qs_expr (qe_cT cx_check_row hr (by first | decide | omega) (takes_of rfl rfl rfl rfl) (by rfl) (qa_cons (qe_p (qp_fld (qp_var (pv 0)) rfl)) (qa_cons (qe_var (pv 1)) (qa_cons (qe_p (qp_cval T.cv_Ladder_MOST_LEVELS (pe_glob (v := .ref ζ.Ladder) (by rfl) T.mg_Ladder rfl))) (qa_nil))))))
 (qss_one (qs_ret (qe_cT cx_holds hr (by first | decide | omega) (takes_of rfl rfl rfl rfl) (by rfl) (qa_cons (qe_p (qp_fld (qp_var (pv 0)) rfl)) (qa_cons (qe_var (pv 1)) (qa_nil)))))), ?_⟩
  rintro as Ed Qd ⟨h, ls, tp, row, rfl, hb, hl, hz, hr1, q⟩
  refine ⟨_, rfl, _, rfl, h, tp, row, 24, rfl, by omega, by omega, hr1, ?_⟩
  exact ⟨_, rfl, ls, tp, row, rfl, hb, hl, fun l hl => (hr1 l hl).1, q⟩
end
end LR
set_option Elab.async false
set_option maxRecDepth 100000
set_option linter.all false
set_option maxHeartbeats 4000000
namespace LR
open PySem PySem.Spec PyProof.Rows L2
section
variable {P : Program} {w : World} {K : PySem.W.Frag} {mg : Str → Option Value} {base : Heap} {ζ : Cs}
def oNat : Option Nat → D
  | some t => nat t
  | none => .non
def fNx (C : Addr) : Fs := fun as _ Q => ∃ (h : Int) (ls : List Int) (s : Nat) (r : Int) (m : List Nat), as = [.d (ladD C h ls), .d (nat s), .d (.int r), .d (natL m)] ∧ ls.length ≤ 1000 ∧ s ≤ ls.length ∧ (∀ t ∈ m, t ≤ ls.length) ∧ Q (.d (oNat (m.find? fun t => rel ls s t r)))
theorem find_take {m : List Nat} {p : Nat → Bool} {i x : Nat} (e : m[i]? = some x) (h : ∀ j t, j < i → m[j]? = some t → p t = false) (hx : p x = true) : m.find? p = some x := by
  induction m generalizing i with
  | nil => simp at e
  | cons y r ih =>
    cases i with
    | zero => simp at e; subst e; exact List.find?_cons_of_pos hx
    | succ i =>
      rw [List.find?_cons_of_neg (by rw [h 0 y (Nat.succ_pos _) rfl]; decide)]
      exact ih (by simpa using e) fun j t hj e => h (j + 1) t (by omega) (by simpa using e)
theorem q_nxs (T : Txt P K mg ζ) : CalX P w K mg base 3 "_next_step" (spF K (fNx ζ.Ladder)) := by
  have cx_L_gap : MetX P w K mg base 2 ζ.Ladder "gap" (spF K (fGapM ζ.Ladder)) := q_gapM T
  refine T.d__next_step.dl sc__next_step (by rintro as E Q ⟨h, ls, s, r, m, rfl, _⟩; rfl) (by decide) fun fa cdv A outer s H E hr => ⟨_, qss_cons (qs_for (vs := [4]) [4] (passes_of rfl) rfl (qi_seq (qe_var (pv 3))) (qg_name (pg_name (i := 4) sc__next_step.nd rfl (Or.inl rfl)))
 (qss_one (qs_if (QW.qt (qw_and (qt_p (qpt_cmp op_gt o_cmp (qp_var (pv 4)) (qp_var (pv 1)) (nomark _))) (qw_and1 (qt_cmp (op_eqD hr.units) o_eq (qe_mtT cx_L_gap hr (by first | decide | omega) (takes_of rfl rfl rfl rfl) (qe_var (pv 0)) (qa_cons (qe_var (pv 1)) (qa_cons (qe_var (pv 4)) (qa_nil)))) (qe_var (pv 2)) (nomark _)))))
 (qss_one (qs_ret (qe_var (pv 4))))
 (qss_nil))))
 (qss_one (qs_ret (qe_p (qp_non)))), ?_⟩
  rintro as Ed Qd ⟨h, ls, s, r, m, rfl, hl, hs, hm, q⟩
  refine ⟨fun i e => e = [.d (ladD ζ.Ladder h ls), .d (nat s), .d (.int r), .d (natL m), .any] ∧ ∀ j t, j < i → m[j]? = some t → rel ls s t r = false, ⟨rfl, fun j t z => by omega⟩, ?_, ?_⟩
  · rintro i x e ex ⟨rfl, hp⟩
    obtain ⟨t, et, rfl⟩ := nat_get ex
    have ht := hm t (List.mem_of_getElem? et)
    have back : rel ls s t r = false → ∀ j u, j < i + 1 → m[j]? = some u → rel ls s u r = false := fun c j u hj e => by
      by_cases z : j < i
      · exact hp j u z e
      · have : j = i := by omega
        subst this
        rw [et] at e; cases e; exact c
    refine ⟨_, rfl, fun z => ?_, fun z => ?_⟩
    · have z := of_decide_eq_true z
      refine ⟨_, _, rfl, rfl, h, ls, s, t, rfl, hl, hs, ht, _, rfl, _, rfl, fun z2 => ?_, fun z2 => ?_⟩
      · have z2 := of_decide_eq_true z2
        show Qd (.d (nat t))
        rw [find_take et hp (rel_iff.mpr ⟨by omega, z2⟩)] at q
        exact q
      · have z2 := of_decide_eq_false z2
        exact ⟨rfl, back (by
          cases c : rel ls s t r with
          | false => rfl
          | true => exact absurd (rel_iff.mp c).2 z2)⟩
    · have z : decide ((s : Int) < t) = false := z
      have z := of_decide_eq_false z
      refine ⟨(fun c => by cases c), fun _ => ⟨rfl, back (by
          cases c : rel ls s t r with
          | false => rfl
          | true => have := (rel_iff.mp c).1; omega)⟩⟩
  · rintro e ⟨rfl, hp⟩
    rw [List.length_map] at hp
    refine ⟨_, rfl, ?_⟩
    have : (m.find? fun t => rel ls s t r) = none := List.find?_eq_none.mpr fun t ht => by
      obtain ⟨k, hk, e⟩ := List.mem_iff_getElem.mp ht
      rw [hp k t hk (by rw [List.getElem?_eq_getElem hk, e])]; decide
    rw [this] at q
    exact q
end
end LR
set_option Elab.async false
set_option maxRecDepth 100000
set_option linter.all false
set_option maxHeartbeats 4000000
namespace LR
open PySem PySem.Spec PyProof.Rows L2
section
variable {P : Program} {w : World} {K : PySem.W.Frag} {mg : Str → Option Value} {base : Heap} {ζ : Cs}
theorem seq_intXr {k : List D → Prop} {tp ls} (h : k (ls.map .int)) : asD (seqI fun l => k l) (.d (intX tp ls)) := by cases tp <;> exact h
def marksD (ls row : List Int) : D := .lst ((List.range (row.length + 1)).map fun k => natL (bk ls (row.drop k)))
def fMarks (C : Addr) : Fs := fun as _ Q => ∃ (h : Int) (ls : List Int) (tp : Bool) (row : List Int), as = [.d (ladD C h ls), .d (intX tp row)] ∧ ls.length ≤ 1000 ∧ row.length ≤ 1000 ∧ Q (.d (marksD ls row))
theorem oNat_not {o : Option Nat} : notND (oNat o) .non = some (.bl o.isSome) := by cases o <;> rfl
theorem find_any {l : List Nat} {p : Nat → Bool} : (l.find? p).isSome = l.any p := by
  induction l with
  | nil => rfl
  | cons x r ih =>
    rw [List.find?_cons, List.any_cons]
    cases c : p x with
    | true => rfl
    | false => rw [Bool.false_or]; exact ih
theorem q_marks (T : Txt P K mg ζ) : CalX P w K mg base 4 "_marks_from_the_back" (spF K (fMarks ζ.Ladder)) := by
  have cx__next_step : CalX P w K mg base 3 "_next_step" (spF K (fNx ζ.Ladder)) := q_nxs T
  refine T.d__marks_from_the_back.dl sc__marks_from_the_back (by rintro as E Q ⟨h, ls, tp, row, rfl, _⟩; rfl) (by decide) fun fa cdv A outer s H E hr => ⟨_, qss_cons (qs_setN (i := 2) false sc__marks_from_the_back.nd rfl (Or.inl rfl) (qe_p (qp_listRg rfl (by rfl) T.n_list (by rfl) T.n_range (qp_op op_addA o_add (qp_fld (qp_var (pv 0)) rfl) (qp_int)))))
 (qss_cons (qs_setN (i := 3) true sc__marks_from_the_back.nd rfl (Or.inl rfl) (qe_lst (qa_cons (qe_var (pv 2)) (qa_nil))))
 (qss_cons (qs_for (vs := [4]) [4, 5] (passes_of rfl) rfl (qi_revA (by rfl) T.n_reversed (qe_var (pv 1))) (qg_name (pg_name (i := 4) sc__marks_from_the_back.nd rfl (by first | exact Or.inr rfl | exact Or.inl rfl)))
 (qss_cons (qs_setN (i := 5) false sc__marks_from_the_back.nd rfl (by first | exact Or.inr rfl | exact Or.inl rfl) (qe_ixO (pv 3) (qp_neg (qp_int)) (fun _ _ => rfl)))
 (qss_one (qs_own m_append (ps_expr (pe_bm PySem.F.plainAttrs_list PySem.F.slot_list_append PySem.F.type_list_append mt_append (pv 3) (qa_cons (qe_lc (own := [("step", 6)]) rfl sc__marks_from_the_back.nd (qi_seq (qe_var (pv 2))) (blkOk_by (N := N__marks_from_the_back) (sc := defScope s__marks_from_the_back) (by decide +kernel)) (fun _ _ _ _ _ => qg_name (pg_name (i := 6) sc__marks_from_the_back.nd rfl (Or.inl rfl))) (fun _ _ _ _ _ => qts_one (qt_cmp op_notN o_notN (qe_cT cx__next_step hr (by first | decide | omega) takes0 (by rfl) (qa_cons (qe_var (pv 0)) (qa_cons (qe_var (pv 6)) (qa_cons (qe_var (pv 4)) (qa_cons (qe_var (pv 5)) (qa_nil)))))) (qe_p (qp_non)) (nomark _))) (fun _ _ _ _ _ => qe_var (pv 6))) (qa_nil))))))))
 (qss_fz [3] (qss_one (qs_ret (qe_p (qp_revL (qp_var (pv 3))))))))), ?_⟩
  rintro as Ed Qd ⟨h, ls, tp, row, rfl, hl, hz, q⟩
  let F : Nat → D := fun i => natL (bk ls (row.drop (row.length - i)))
  have F0 : F 0 = natL (stps ls) := by show natL (bk ls (row.drop (row.length - 0))) = _; rw [Nat.sub_zero, List.drop_length]; rfl
  refine ⟨natL (stps ls), ?_, _, rfl, (by show 1 ≤ 1000; decide), ?_⟩
  · show (if 0 ≤ (ls.length : Int) + 1 ∧ (ls.length : Int) + 1 ≤ 100000 then some (D.lst (rgD 0 ((ls.length : Int) + 1).toNat)) else none) = _
    rw [if_pos (by omega), show (ls.length : Int) + 1 = (ls.length + 1 : Nat) by omega, rgD_nat]; rfl
  refine seq_intXr (k := fun l => _) ⟨fun i e => e = [.d (ladD ζ.Ladder h ls), .d (intX tp row), .d (natL (stps ls)), .own (.ls ((List.range (i + 1)).map F)), .any, .any, .any], ?_, ?_, ?_⟩
  · exact congrArg (fun z => [Ev.d (ladD ζ.Ladder h ls), .d (intX tp row), .d (natL (stps ls)), .own (.ls [z]), .any, .any, .any]) F0.symm
  · rintro i x e ex rfl
    have hi : i < row.length := by
      have := (List.getElem?_eq_some_iff.mp ex).1
      rwa [List.length_reverse, List.length_map] at this
    rw [List.getElem?_reverse (by rw [List.length_map]; exact hi), List.length_map] at ex
    obtain ⟨r, er, rfl⟩ := int_get ex
    have ed : row.drop (row.length - (i + 1)) = r :: row.drop (row.length - i) := by
      rw [List.drop_eq_getElem_cons (by omega)]
      have e1 : row.length - (i + 1) = row.length - 1 - i := by omega
      have e2 : row.length - (i + 1) + 1 = row.length - i := by omega
      rw [e2]
      congr 1
      have := (List.getElem?_eq_some_iff.mp er).2
      rw [← this]; congr 1
    refine ⟨_, _, F i, rfl, rfl, ?_, ?_⟩
    · show atI _ _ = _
      rw [List.range_succ, List.map_append]
      exact atI_end
    refine ⟨_, rfl, rfl, fun j acc => acc = (((stps ls).take j).filter fun s => (bk ls (row.drop (row.length - i))).any fun t => rel ls s t r).map nat, rfl, ?_, ?_⟩
    · rintro j x acc ex rfl
      obtain ⟨s, es, rfl⟩ := nat_get ex
      have hs := mem_stps.mp (List.mem_of_getElem? es)
      have et : ∀ p : Nat → Bool, ((stps ls).take (j + 1)).filter p = ((stps ls).take j).filter p ++ (if p s = true then [s] else []) := fun p => by
        rw [List.take_succ, es, List.filter_append]
        congr 1
        by_cases c : p s = true
        · rw [if_pos c]; exact List.filter_cons_of_pos c
        · rw [if_neg c]; exact List.filter_cons_of_neg c
      refine ⟨h, ls, s, r, _, rfl, hl, hs, fun t ht => bk_le ht, _, rfl, _, oNat_not, _, rfl, fun c => ?_, fun c => ?_⟩
      · rw [find_any] at c
        show _ ++ [nat s] = _
        rw [et, if_pos c, List.map_append]; rfl
      · rw [find_any] at c
        show _ = (((stps ls).take (j + 1)).filter _).map nat
        rw [et, if_neg (by rw [c]; decide), List.append_nil]
    · rintro acc rfl
      rw [List.length_map, List.take_length]
      have eb : D.lst (((stps ls).filter fun s => (bk ls (row.drop (row.length - i))).any fun t => rel ls s t r).map nat) = F (i + 1) := by
        show _ = natL (bk ls (row.drop (row.length - (i + 1))))
        rw [ed]; rfl
      refine ⟨_, _, rfl, rfl, ?_, ?_⟩
      · rw [List.length_append, List.length_map, List.length_range]; show i + 1 + 1 ≤ 100000; omega
      · exact congrArg (fun z => [Ev.d (ladD ζ.Ladder h ls), .d (intX tp row), .d (natL (stps ls)), .own (.ls z), .any, .any, .any]) (rg_snoc (f := F) eb)
  · rintro e rfl
    rw [List.length_reverse, List.length_map]
    have er : ((List.range (row.length + 1)).map F).reverse = (List.range (row.length + 1)).map fun k => natL (bk ls (row.drop k)) := by
      refine List.ext_getElem? fun k => ?_
      by_cases hk : k < row.length + 1
      · rw [List.getElem?_reverse (by rw [List.length_map, List.length_range]; exact hk), List.length_map, List.length_range, List.getElem?_map, List.getElem?_map, List.getElem?_range (by omega), List.getElem?_range hk]
        show some (natL (bk ls (row.drop (row.length - (row.length + 1 - 1 - k))))) = _
        rw [show row.length - (row.length + 1 - 1 - k) = k by omega]; rfl
      · rw [List.getElem?_eq_none (by rw [List.length_reverse, List.length_map, List.length_range]; omega), List.getElem?_eq_none (by rw [List.length_map, List.length_range]; omega)]
    refine ⟨marksD ls row, ?_, q⟩
    show some (D.lst ((List.range (row.length + 1)).map F).reverse) = _
    rw [er]; rfl
/-- hold: the least choice, or None -/
def fHold (C : Addr) : Fs := fun as _ Q => ∃ (h : Int) (ls : List Int) (tp : Bool) (row : List Int), as = [.d (ladD C h ls), .d (intX tp row)] ∧ (∀ l ∈ ls, 1 ≤ l) ∧ ls.length ≤ 1000 ∧ row.length ≤ 24 ∧ (∀ l ∈ row, 1 ≤ l ∧ l ≤ h) ∧ (least ls row = [] → Q (.d .non)) ∧ (least ls row ≠ [] → Q (.fr (.ls ((least ls row).map nat))))
theorem q_hold (T : Txt P K mg ζ) : CalX P w K mg base 5 "hold" (spF K (fHold ζ.Ladder)) := by
  have cx__next_step : CalX P w K mg base 3 "_next_step" (spF K (fNx ζ.Ladder)) := q_nxs T
  have cx__marks_from_the_back : CalX P w K mg base 4 "_marks_from_the_back" (spF K (fMarks ζ.Ladder)) := q_marks T
  have cx_check_row : CalX P w K mg base 1 "check_row" (spF K fRow) := q_row T
  refine T.d_hold.dl sc_hold (by rintro as E Q ⟨h, ls, tp, row, rfl, _⟩; rfl) (by decide) fun fa cdv A outer s H E hr => ⟨_, qss_cons (qs_expr (qe_cT cx_check_row hr (by first | decide | omega) (takes_of rfl rfl rfl rfl) (by rfl) (qa_cons (qe_p (qp_fld (qp_var (pv 0)) rfl)) (qa_cons (qe_var (pv 1)) (qa_cons (qe_p (qp_cval T.cv_Ladder_MOST_LEVELS (pe_glob (v := .ref ζ.Ladder) (by rfl) T.mg_Ladder rfl))) (qa_nil))))))
 (qss_cons (qs_setN (i := 2) false sc_hold.nd rfl (Or.inl rfl) (qe_cT cx__marks_from_the_back hr (by first | decide | omega) (takes_of rfl rfl rfl rfl) (by rfl) (qa_cons (qe_var (pv 0)) (qa_cons (qe_var (pv 1)) (qa_nil)))))
 (qss_cons (qs_if (qt_p (qpt_not (qpt_truth (qp_ix ix_A o_ix (qp_var (pv 2)) (qp_int) (fun _ _ => rfl)))))
 (qss_one (qs_ret (qe_p (qp_non))))
 (qss_nil))
 (qss_cons (qs_setN (i := 3) true sc_hold.nd rfl (Or.inl rfl) (qe_lst (qa_cons (qe_p (qp_ix ix_A o_ix (qp_ix ix_A o_ix (qp_var (pv 2)) (qp_int) (fun _ _ => rfl)) (qp_int) (fun _ _ => rfl))) (qa_nil))))
 (qss_cons (qs_for (vs := [4, 5]) [4, 5] (passes_of rfl) rfl (qi_zipTL (by rfl) T.n_zip (qp_var (pv 1)) (qp_slice (qp_var (pv 2)) (qpo_some (qp_int)) qpo_none)) (qg_tup' rfl (qgs_cons' (qg_name (pg_name (i := 4) sc_hold.nd rfl (Or.inl rfl))) (qgs_cons' (qg_name (pg_name (i := 5) sc_hold.nd rfl (Or.inl rfl))) (qgs_nil))))
 (qss_one (qs_own m_append (ps_expr (pe_bm PySem.F.plainAttrs_list PySem.F.slot_list_append PySem.F.type_list_append mt_append (pv 3) (qa_cons (qe_loanE (qe_cT cx__next_step hr (by first | decide | omega) (takes_of rfl rfl rfl rfl) (by rfl) (qa_cons (qe_var (pv 0)) (qa_cons (qe_p (qp_ix ix_A o_ix (qp_var (pv 3)) (qp_neg (qp_int)) (fun _ _ => rfl))) (qa_cons (qe_var (pv 4)) (qa_cons (qe_var (pv 5)) (qa_nil))))))) (qa_nil)))))))
 (qss_one (qs_retO (pv 3))))))), ?_⟩
  rintro as Ed Qd ⟨h, ls, tp, row, rfl, hb, hl, hz, hr1, q1, q2⟩
  refine ⟨_, rfl, _, rfl, h, tp, row, 24, rfl, by omega, by omega, hr1, ?_⟩
  refine ⟨h, ls, tp, row, rfl, hl, by omega, ?_⟩
  have m0 : ixD (marksD ls row) (.int 0) = some (natL (bk ls row)) := by
    show atI _ _ = _
    exact atI_of (k := 0) (by rw [List.getElem?_map, List.getElem?_range (by omega)]; rfl)
  refine ⟨(bk ls row).isEmpty, p1_of (p1_of (p2_of rfl rfl m0) rfl) ?_, fun z => ?_, fun z => ?_⟩
  · show some (D.bl (!!((bk ls row).map nat).isEmpty)) = _
    rw [Bool.not_not]; cases bk ls row <;> rfl
  · exact ⟨_, rfl, q1 (least_nil.mpr (List.isEmpty_iff.mp z))⟩
  · have hne : least ls row ≠ [] := fun c => by rw [least_nil.mp c] at z; cases z
    have hc := least_ch hne
    have hlen := hc.len
    obtain ⟨s0, m, eb⟩ : ∃ s m, bk ls row = s :: m := by
      cases e : bk ls row with
      | nil => rw [e] at z; cases z
      | cons s m => exact ⟨s, m, rfl⟩
    have e0 : (least ls row)[0]? = some s0 := by rw [least_head, eb]; rfl
    have t1 : ((least ls row).take 1).map nat = [nat s0] := by
      cases h : least ls row with
      | nil => exact absurd h hne
      | cons x r => rw [h] at e0; cases e0; rfl
    have g0 : p2 ixD (p2 ixD (pvar 2) (pc (.int 0))) (pc (.int 0)) [.d (ladD ζ.Ladder h ls), .d (intX tp row), .d (marksD ls row), .any, .any, .any] = some (nat s0) := p2_of (p2_of rfl rfl m0) rfl (by
      show atI _ _ = _
      exact atI_of (k := 0) (by rw [List.getElem?_map, eb]; rfl))
    have md : sliD (marksD ls row) (some 1) none = some (.lst (((List.range (row.length + 1)).map fun k => natL (bk ls (row.drop k))).drop 1)) := by
      show some (D.lst (cutD _ (some ((1 : Nat) : Int)) none)) = _
      rw [cut_drop]
    refine ⟨_, g0, _, rfl, (by show 1 ≤ 1000; decide), ?_⟩
    refine ⟨row.map .int, ((List.range (row.length + 1)).map fun k => natL (bk ls (row.drop k))).drop 1, ?_, ?_, ?_⟩
    · cases tp with
      | true => exact .inl rfl
      | false => exact .inr rfl
    · exact md
    · refine ⟨fun i e => e = [.d (ladD ζ.Ladder h ls), .d (intX tp row), .d (marksD ls row), .own (.ls (((least ls row).take (i + 1)).map nat)), .any, .any], ?_, ?_, ?_⟩
      · exact congrArg (fun z => [Ev.d (ladD ζ.Ladder h ls), .d (intX tp row), .d (marksD ls row), .own (.ls z), .any, .any]) t1.symm
      · rintro i x e ex rfl
        unfold zipD at ex
        rw [List.getElem?_zipWith] at ex
        have hi : i < row.length := by
          cases h : (row.map D.int)[i]? with
          | none => rw [h] at ex; cases ex
          | some y => have := (List.getElem?_eq_some_iff.mp h).1; rwa [List.length_map] at this
        have er := List.getElem?_eq_getElem hi
        rw [List.getElem?_map, er, List.getElem?_drop, List.getElem?_map, List.getElem?_range (by omega)] at ex
        cases ex
        obtain ⟨a, ea, ha⟩ := hc.at (Nat.le_of_lt hi)
        obtain ⟨t, et, ft⟩ := least_next hne ea er
        have ft2 : (bk ls (row.drop (1 + i))).find? (fun t => rel ls a t row[i]) = some t := by rw [Nat.add_comm]; exact ft
        have et1 : (least ls row).take (i + 1) = (least ls row).take i ++ [a] := by rw [List.take_succ, ea]; rfl
        have et2 : (least ls row).take (i + 1 + 1) = (least ls row).take (i + 1) ++ [t] := by rw [List.take_succ, et]; rfl
        have gl : p2 ixD (pvar 3) (p1 negD (pc (.int 1))) [.d (ladD ζ.Ladder h ls), .d (intX tp row), .d (marksD ls row), .d (natL ((least ls row).take (i + 1))), .d (.int row[i]), .d (natL (bk ls (row.drop (1 + i))))] = some (nat a) := p2_of rfl rfl (by
          show atI _ _ = _
          rw [et1, List.map_append]
          exact atI_end)
        refine ⟨_, rfl, _, gl, h, ls, a, row[i], bk ls (row.drop (1 + i)), rfl, hl, ha, fun t ht => bk_le ht, ?_⟩
        rw [ft2]
        refine ⟨_, rfl, rfl, _, _, rfl, rfl, ?_, ?_⟩
        · rw [List.length_append, List.length_map, List.length_take]; show _ + 1 ≤ 100000; omega
        · refine congrArg (fun z => [Ev.d (ladD ζ.Ladder h ls), .d (intX tp row), .d (marksD ls row), .own (.ls z), .any, .any]) ?_
          rw [et2, List.map_append]; rfl
      · rintro e rfl
        have ez : (zipD (row.map .int) (((List.range (row.length + 1)).map fun k => natL (bk ls (row.drop k))).drop 1)).length = row.length := by
          unfold zipD
          rw [List.length_zipWith, List.length_drop, List.length_map, List.length_map, List.length_range]; omega
        show Qd (.fr (.ls (((least ls row).take ((zipD (row.map .int) (((List.range (row.length + 1)).map fun k => natL (bk ls (row.drop k))).drop 1)).length + 1)).map nat)))
        rw [ez, ← hlen, List.take_length]
        exact q2 hne
end
end LR
set_option Elab.async false
set_option maxRecDepth 100000
set_option linter.all false
set_option maxHeartbeats 4000000
namespace LR
open PySem PySem.Spec PyProof.Rows L2
section
variable {P : Program} {w : World} {K : PySem.W.Frag} {mg : Str → Option Value} {base : Heap} {ζ : Cs}
def fLastS : Fs := fun as _ Q => ∃ (ls : List Int) (tp : Bool) (row : List Int), as = [.d (intL ls), .d (intX tp row)] ∧ (∀ l ∈ ls, 1 ≤ l) ∧ ls.length ≤ 1000 ∧ Q (.d (natL (fw ls row)))
theorem q_lastS (T : Txt P K mg ζ) : CalX P w K mg base 2 "_law_last_steps" (spF K fLastS) := by
  have cx_gap : CalX P w K mg base 1 "_law_gap" (spF K fGapL) := q_gap T
  refine T.d_last_steps.dl sc_last_steps (by rintro as E Q ⟨ls, tp, row, rfl, _⟩; rfl) (by decide) fun fa cdv A outer s H E hr => ⟨_, qss_cons (qs_setN (i := 2) false sc_last_steps.nd rfl (Or.inl rfl) (qe_p (qp_listRg rfl (by rfl) T.n_list (by rfl) T.n_range (qp_op op_addA o_add (qp_callB o_len c_len (by rfl) T.n_len b_len (qps_cons (qp_var (pv 0)) (qps_nil))) (qp_int)))))
 (qss_cons (qs_for (vs := [3]) [3, 4, 5, 6] (passes_of rfl) rfl (qi_seq (qe_var (pv 1))) (qg_name (pg_name (i := 3) sc_last_steps.nd rfl (by first | exact Or.inr rfl | exact Or.inl rfl)))
 (qss_cons (qs_setN (i := 4) true sc_last_steps.nd rfl (Or.inl rfl) (qe_lst (qa_nil)))
 (qss_cons (qs_for (vs := [5]) [5, 6] (passes_of rfl) rfl (qi_range2 (by rfl) T.n_range (qe_p (qp_int)) (qe_p (qp_op op_addA o_add (qp_callB o_len c_len (by rfl) T.n_len b_len (qps_cons (qp_var (pv 0)) (qps_nil))) (qp_int)))) (qg_name (pg_name (i := 5) sc_last_steps.nd rfl (by first | exact Or.inr rfl | exact Or.inl rfl)))
 (qss_cons (qs_setLc (own := [("before", 7)]) (i := 6) false rfl sc_last_steps.nd rfl rfl (sw_true rfl rfl rfl (by decide +kernel)) (qi_seq (qe_var (pv 2))) (blkOk_by (N := N_last_steps) (sc := defScope s_last_steps) (by decide +kernel)) (fun _ _ _ _ _ => qg_name (pg_name (i := 7) sc_last_steps.nd rfl (Or.inl rfl))) (fun _ _ _ _ _ => qts_one (QW.qt (qw_and (qt_p (qpt_cmp op_lt o_cmp (qp_var (pv 7)) (qp_var (pv 5)) (nomark _))) (qw_and1 (qt_cmp (op_eqD hr.units) o_eq (qe_cT cx_gap hr (by first | decide | omega) takes0 (by rfl) (qa_cons (qe_var (pv 0)) (qa_cons (qe_var (pv 7)) (qa_cons (qe_var (pv 5)) (qa_nil))))) (qe_var (pv 3)) (nomark _)))))) (fun _ _ _ _ _ => qe_var (pv 7)))
 (qss_one (qs_if (qt_p (qpt_cmp op_gt o_cmp (qp_callB o_len c_len (by rfl) T.n_len b_len (qps_cons (qp_var (pv 6)) (qps_nil))) (qp_int) (nomark _)))
 (qss_one (qs_own m_append (ps_expr (pe_bm PySem.F.plainAttrs_list PySem.F.slot_list_append PySem.F.type_list_append mt_append (pv 4) (qa_cons (qe_var (pv 5)) (qa_nil))))))
 (qss_nil)))))
 (qss_fz [4] (qss_one (qs_setN (i := 2) false sc_last_steps.nd rfl (Or.inl rfl) (qe_var (pv 4))))))))
 (qss_one (qs_ret (qe_var (pv 2))))), ?_⟩
  rintro as Ed Qd ⟨ls, tp, row, rfl, hb, hl, q⟩
  have e0 : ((ls.map D.int).length : Int) + 1 = (ls.length + 1 : Nat) := by rw [List.length_map]; omega
  let F : Nat → D := fun k => natL (fw ls (row.take k))
  refine ⟨F 0, ?_, seq_intX ⟨fun i e => e = [.d (intL ls), .d (intX tp row), .d (F i), .any, .any, .any, .any, .any], rfl, ?_, ?_⟩⟩
  · show (if 0 ≤ ((ls.map D.int).length : Int) + 1 ∧ ((ls.map D.int).length : Int) + 1 ≤ 100000 then some (D.lst (rgD 0 (((ls.map D.int).length : Int) + 1).toNat)) else none) = _
    rw [e0, if_pos (by omega), rgD_nat]; rfl
  · rintro i x e ex rfl
    obtain ⟨r, er, rfl⟩ := int_get ex
    have ef : fw ls (row.take (i + 1)) = nx ls (fw ls (row.take i)) r := by rw [List.take_succ, er]; exact fw_snoc
    let m := fw ls (row.take i)
    let fnd : Nat → List D := fun j => ((List.range j).filter fun k => m.any fun s => rel ls s (k + 1) r).map fun k => nat (k + 1)
    refine ⟨_, rfl, Nat.zero_le _, _, rfl, _, rfl, ⟨by omega, by omega, by omega, by omega, by omega⟩, fun j e => e = [.d (intL ls), .d (intX tp row), .d (F i), .d (.int r), .own (.ls (fnd j)), .any, .any, .any], rfl, ?_, ?_⟩
    · rintro j x e ex rfl
      obtain ⟨jj, ej, rfl⟩ := map_getD ex
      have hj := (List.getElem?_eq_some_iff.mp ej).1
      rw [List.length_range] at hj
      rw [List.getElem?_range hj] at ej
      cases ej
      have hjl : j + 1 ≤ ls.length := by omega
      refine ⟨rfl, fun k acc => acc = ((m.take k).filter fun s => rel ls s (j + 1) r).map nat, rfl, ?_, ?_⟩
      · rintro k x acc ek rfl
        obtain ⟨s, es, rfl⟩ := nat_get ek
        have hs : s ≤ ls.length := by
          obtain ⟨c, hc⟩ := mem_fw.mp (List.mem_of_getElem? es)
          exact hc.le s (by simp)
        have et : m.take (k + 1) = m.take k ++ [s] := by rw [List.take_succ, es]; rfl
        have key : ∀ b : Bool, b = rel ls s (j + 1) r → ((b = true → (m.take k |>.filter fun s => rel ls s (j + 1) r).map nat ++ [nat s] = ((m.take (k + 1)).filter fun s => rel ls s (j + 1) r).map nat) ∧ (b = false → (m.take k |>.filter fun s => rel ls s (j + 1) r).map nat = ((m.take (k + 1)).filter fun s => rel ls s (j + 1) r).map nat)) := fun b e => by
          rw [et, List.filter_append, List.map_append]
          subst e
          refine ⟨fun z => ?_, fun z => ?_⟩
          · rw [show [s].filter (fun s => rel ls s (j + 1) r) = [s] by simp [z]]; rfl
          · rw [show [s].filter (fun s => rel ls s (j + 1) r) = [] by simp [z]]; exact (List.append_nil _).symm
        refine ⟨decide ((s : Int) < 1 + (j : Nat)), rfl, fun z => ?_, fun z => ?_⟩
        · have lt : s < j + 1 := by have := of_decide_eq_true z; omega
          refine ⟨ls, s, j + 1, ?_, hb, hl, hs, hjl, _, rfl, ?_⟩
          · show _ = [Ar.d (intL ls), .d (nat s), .d (.int ((j + 1 : Nat) : Int))]
            rw [show ((j + 1 : Nat) : Int) = 1 + (j : Int) by omega]; first | done | rfl
          · refine ⟨_, rfl, key _ ?_⟩
            show decide (gp ls s (j + 1) = r) = (decide (s < j + 1) && decide (gp ls s (j + 1) = r))
            rw [decide_eq_true lt, Bool.true_and]
        · have lt : ¬ s < j + 1 := by have := of_decide_eq_false z; omega
          refine key _ ?_
          show false = (decide (s < j + 1) && decide (gp ls s (j + 1) = r))
          rw [decide_eq_false lt, Bool.false_and]
      · rintro acc rfl
        rw [List.length_map, List.take_length]
        have fs : ∀ z : Bool, (m.any fun s => rel ls s (j + 1) r) = z → ((List.range (j + 1)).filter fun k => m.any fun s => rel ls s (k + 1) r) = ((List.range j).filter fun k => m.any fun s => rel ls s (k + 1) r) ++ (if z = true then [j] else []) := fun z e => by
          rw [filter_snoc, e]
        refine ⟨_, rfl, fun z => ?_, fun z => ?_⟩
        · have z : decide (0 < (((m.filter fun s => rel ls s (j + 1) r).map nat).length : Int)) = true := z
          rw [any_pos] at z
          refine ⟨_, rfl, _, _, rfl, rfl, ?_, ?_⟩
          · rw [List.length_append, show (fnd j).length = _ from List.length_map _]
            have := List.length_filter_le (fun k => m.any fun s => rel ls s (k + 1) r) (List.range j)
            rw [List.length_range] at this
            show _ + 1 ≤ 100000; omega
          · refine congrArg (fun z => [Ev.d (intL ls), Ev.d (intX tp row), Ev.d (F i), Ev.d (D.int r), Ev.own (Ow.ls z), Ev.any, Ev.any, Ev.any]) ?_
            show (List.map _ _) ++ [D.int (1 + (j : Nat))] = ((List.range (j + 1)).filter _).map _
            rw [fs _ z, List.map_append, show (1 : Int) + (j : Nat) = ((j + 1 : Nat) : Int) by omega]; first | done | rfl
        · have z : decide (0 < (((m.filter fun s => rel ls s (j + 1) r).map nat).length : Int)) = false := z
          rw [any_pos] at z
          refine congrArg (fun z => [Ev.d (intL ls), Ev.d (intX tp row), Ev.d (F i), Ev.d (D.int r), Ev.own (Ow.ls z), Ev.any, Ev.any, Ev.any]) ?_
          show _ = ((List.range (j + 1)).filter _).map _
          rw [fs _ z]; exact congrArg _ (List.append_nil _).symm
    · rintro e rfl
      rw [rg_len]
      have e5 : (((ls.map D.int).length : Int) + 1 - 1).toNat = ls.length := by rw [List.length_map]; omega
      have e6 : fnd ls.length = (nx ls m r).map nat := by
        show ((List.range ls.length).filter _).map _ = _
        unfold nx stps
        rw [List.range_succ_eq_map, List.filter_cons_of_neg (by
          rw [List.any_eq_true]; rintro ⟨s, _, h⟩
          have := (rel_iff.mp h).1; omega), List.filter_map, List.map_map]
        rfl
      refine congrArg (fun z => [Ev.d (intL ls), Ev.d (intX tp row), Ev.d z, Ev.any, Ev.any, Ev.any, Ev.any, Ev.any]) ?_
      show D.lst (fnd _) = natL (fw ls (row.take (i + 1)))
      rw [e5, e6, ef]; first | done | rfl
  · rintro e rfl
    have : F (row.map D.int).length = natL (fw ls row) := by show natL _ = _; rw [List.length_map, List.take_length]
    show Qd (.d (F (row.map D.int).length))
    rw [this]; exact q
end
end LR
set_option Elab.async false
set_option maxRecDepth 100000
set_option linter.all false
set_option maxHeartbeats 4000000
namespace LR
open PySem PySem.Spec PyProof.Rows L2
section
variable {P : Program} {w : World} {K : PySem.W.Frag} {mg : Str → Option Value} {base : Heap} {ζ : Cs}
theorem mk_Game_of (T : Txt P K mg ζ) : ∀ {vs H Q E}, spF K (fGame ζ.Game) vs H Q E → ∀ y dx, H y = none → H dx = none → dx ≠ y → spGame ζ.Game (.ref y :: vs) (upd (upd H dx (.own y)) y (.ins ζ.Game dx [])) (fun v H2 => v = .non ∧ Q (.ref y) H2) E := mk_Game T
theorem strO_allB (n : Nat) : repS (Str.ofString "B") n = strO (allB n) := by
  have e : (Str.ofString "B").cps.toList = [66] := by decide +kernel
  have h := repS_list (Str.ofString "B") n
  rw [e] at h
  have k : (List.replicate n [66]).flatten = List.replicate n 66 := by
    induction n with
    | zero => rfl
    | succ n ih =>
      have := ih (repS_list (Str.ofString "B") n |>.trans (by rw [e]))
      rw [List.replicate_succ, List.flatten_cons, this, List.replicate_succ]; rfl
  rw [k] at h
  unfold strO allB
  rw [List.map_replicate]
  cases c : repS (Str.ofString "B") n with
  | mk x =>
    rw [c] at h
    have h : x.toList = _ := h
    congr 1
    apply Array.toList_inj.mp
    rw [h, List.toList_toArray]; rfl
theorem mulS {a : Str} {n : Nat} (hz : a.length * n ≤ 100000) (hn : n ≤ 1000) : mulD (.str a) (nat n) = some (.str (repS a n)) := by
  show (if smI (n : Int) = true ∧ a.length * (n : Int).toNat ≤ 100000 then some (D.str (repS a (n : Int).toNat)) else none) = _
  rw [Int.toNat_natCast, if_pos ⟨by unfold smI; rw [decide_eq_true (by omega), decide_eq_true (by omega)]; rfl, hz⟩]
theorem strB_len : (Str.ofString "B").length = 1 := by decide +kernel
theorem mulB {n : Nat} (hn : n ≤ 1000) : mulD (.str (Str.ofString "B")) (nat n) = some (.str (strO (allB n))) := by
  rw [mulS (by rw [strB_len]; omega) hn, strO_allB]
theorem nin_AB (b : Bool) : ninD (.str (strO [b])) (.tup [.str (Str.ofString "A"), .str (Str.ofString "B")]) = some (.bl false) := by
  have h1 : okn 30 (.str (strO [b])) = true := by cases b <;> decide +kernel
  have h2 : [D.str (Str.ofString "A"), .str (Str.ofString "B")].all (okn 29) = true := by decide +kernel
  have h3 : ([D.str (Str.ofString "A"), .str (Str.ofString "B")].any fun z => deq z (.str (strO [b]))) = true := by cases b <;> decide +kernel
  show notO (if okn 30 _ = true ∧ _ then some (D.bl _) else none) = _
  rw [if_pos ⟨h1, h2⟩, h3]; rfl
theorem rowE_head {h : Int} {row : List Int} (h1 : 1 ≤ h) (hb : ∀ l ∈ row, 1 ≤ l ∧ l ≤ h) : ∀ v : Nat, v < row.length + 1 → ∃ e ∈ rowE row, e.head? = some (v : Int) := fun v hv => by
  obtain ⟨e, m, k⟩ := rowE_out row v hv
  refine ⟨e, m, ?_⟩
  obtain ⟨a, b, c, rfl, _⟩ := (rowE_eds h1 hb).ok e m
  exact congrArg some k
def fRowG (G L : Addr) : Fs := fun as _ Q => ∃ (h : Int) (row : List Int), as = [.d (ladD L h row)] ∧ (1 ≤ h ∧ h ≤ 3) ∧ row.length ≤ 8 ∧ (∀ l ∈ row, 1 ≤ l ∧ l ≤ h) ∧ Q (.d (gameD G h (allB (row.length + 1)) (sortE (rowE row))))
theorem q_rowG (T : Txt P K mg ζ) : CalX P w K mg base 5 "row_game" (spF K (fRowG ζ.Game ζ.Ladder)) := by
  have cx_Game : MakX P w K mg base 3 "Game" ζ.Game (spGame ζ.Game) := (ok_game T).toX
  refine T.d_row_game.dl sc_row_game (by rintro as E Q ⟨h, row, rfl, _⟩; rfl) (by decide) fun fa cdv A outer s H E hr => ⟨_, qss_cons (qs_if (qt_p (qpt_cmp op_gt o_cmp (qp_fld (qp_var (pv 0)) rfl) (qp_gint (by rfl) T.gi__MOST_LEVELS) (nomark _)))
 (qss_one (qs_never))
 (qss_nil))
 (qss_cons (qs_if (qt_p (qpt_cmp (op_eqD hr.units) o_eq (qp_fld (qp_var (pv 0)) rfl) (qp_int) (nomark _)))
 (qss_one (qs_ret (qe_mkT cx_Game hr (by first | decide | omega) (takes_of rfl rfl rfl rfl) (by rfl) (qa_cons (qe_p (qp_fld (qp_var (pv 0)) rfl)) (qa_cons (qe_p (qp_str)) (qa_cons (qe_p (qp_lst (qps_cons (qp_tup (qps_cons (qp_int) (qps_cons (qp_int) (qps_cons (qp_int) (qps_nil))))) (qps_nil)))) (qa_nil)))) (mk_Game_of T))))
 (qss_nil))
 (qss_cons (qs_setN (i := 1) true sc_row_game.nd rfl (Or.inl rfl) (qe_lst (qa_nil)))
 (qss_cons (qs_for (vs := [2, 3]) [2, 3] (passes_of rfl) rfl (qi_enum (by rfl) T.n_enumerate (qe_p (qp_fld (qp_var (pv 0)) rfl))) (qg_tup' rfl (qgs_cons' (qg_name (pg_name (i := 2) sc_row_game.nd rfl (Or.inl rfl))) (qgs_cons' (qg_name (pg_name (i := 3) sc_row_game.nd rfl (Or.inl rfl))) (qgs_nil))))
 (qss_cons (qs_own m_append (ps_expr (pe_bm PySem.F.plainAttrs_list PySem.F.slot_list_append PySem.F.type_list_append mt_append (pv 1) (qa_cons (qe_p (qp_tup (qps_cons (qp_var (pv 2)) (qps_cons (qp_op op_mulA o_mul (qp_int) (qp_var (pv 3))) (qps_cons (qp_op op_addA o_add (qp_var (pv 2)) (qp_int)) (qps_nil)))))) (qa_nil)))))
 (qss_one (qs_own m_append (ps_expr (pe_bm PySem.F.plainAttrs_list PySem.F.slot_list_append PySem.F.type_list_append mt_append (pv 1) (qa_cons (qe_p (qp_tup (qps_cons (qp_op op_addA o_add (qp_var (pv 2)) (qp_int)) (qps_cons (qp_op op_sub o_sub (qp_op op_mulA o_mul (qp_int) (qp_var (pv 3))) (qp_int)) (qps_cons (qp_var (pv 2)) (qps_nil)))))) (qa_nil))))))))
 (qss_fz [1] (qss_one (qs_ret (qe_mkT cx_Game hr (by first | decide | omega) (takes_of rfl rfl rfl rfl) (by rfl) (qa_cons (qe_p (qp_fld (qp_var (pv 0)) rfl)) (qa_cons (qe_p (qp_op op_mulA o_mul (qp_str) (qp_op op_addA o_add (qp_fld (qp_var (pv 0)) rfl) (qp_int)))) (qa_cons (qe_var (pv 1)) (qa_nil)))) (mk_Game_of T)))))))), ?_⟩
  rintro as Ed Qd ⟨h, row, rfl, hh, hl, hb, q⟩
  have RO := rowE_eds hh.1 hb
  have RL := rowE_len row
  have al : (allB (row.length + 1)).length = row.length + 1 := allB_len
  have fin : ∀ (ss : List (List Int)), ss.Perm (rowE row) → ss.Pairwise elt → ss = sortE (rowE row) := fun ss sp pw => kept_sorted RO.ok hh.2 (by omega) (by omega) sp pw
  refine ⟨_, p2_of rfl rfl rfl, fun z => ?_, fun _ => ?_⟩
  · have z := of_decide_eq_true z; omega
  refine ⟨_, p2_of rfl rfl rfl, fun z => ?_, fun z => ?_⟩
  · have z : decide (((row.length : Int)) = 0) = true := z
    have z := of_decide_eq_true z
    have r0 : row = [] := List.length_eq_zero_iff.mp (by omega)
    subst r0
    refine ⟨_, rfl, .str (strO (allB 1)), congrArg (fun z => some (D.str z)) (show Str.ofString "B" = strO (allB 1) by decide +kernel), _, rfl, h, allB 1, false, rowE [], rfl, by omega, by decide, by decide, RO.ok, RO.nd, rowE_head hh.1 hb, fun ss sp pw => ?_⟩
    rw [fin ss sp pw]; exact q
  have z : decide (((row.length : Int)) = 0) = false := z
  have z := of_decide_eq_false z
  refine ⟨_, rfl, Nat.zero_le _, _, rfl, fun i e => e = [.d (ladD ζ.Ladder h row), .own (.ls ((rowP row i).map intT)), .any, .any], rfl, ?_, ?_⟩
  · rintro i x e ex rfl
    obtain ⟨y, ey, rfl⟩ := enm_at ex
    obtain ⟨v, ev, rfl⟩ := int_get ey
    have hi := (List.getElem?_eq_some_iff.mp ev).1
    have gv : row.getD i 0 = v := by rw [List.getD_eq_getElem?_getD, ev]; rfl
    refine ⟨_, rfl, intT [(i : Int), 2 * v, (i : Int) + 1], ptup3 rfl (p2_of rfl rfl rfl) (p2_of rfl rfl rfl), _, _, rfl, rfl, ?_, ?_⟩
    · rw [List.length_append, List.length_map, rowP_len]; show _ + 1 ≤ 100000; omega
    refine ⟨_, rfl, intT [(i : Int) + 1, 2 * v - 1, (i : Int)], ptup3 (p2_of rfl rfl rfl) (p2_of (p2_of rfl rfl rfl) rfl rfl) rfl, _, _, rfl, rfl, ?_, ?_⟩
    · rw [List.length_append, List.length_append, List.length_map, rowP_len]; show _ + 1 + 1 ≤ 100000; omega
    · show _ = [Ev.d (ladD ζ.Ladder h row), .own (.ls ((rowP row (i + 1)).map intT)), .any, .any]
      rw [rowP_succ, gv, List.map_append, List.map_append]; rfl
  · rintro e rfl
    have el : (enm (row.map D.int)).length = row.length := by rw [enm_len, List.length_map]
    rw [el]
    have er : rowE row = rowP row row.length := by unfold rowE; rw [if_neg (by omega)]
    rw [← er]
    refine ⟨_, rfl, .str (strO (allB (row.length + 1))), p2_of rfl (p2_of rfl rfl (some_nat (by omega))) (mulB (by omega)), h, allB (row.length + 1), false, rowE row, rfl, by omega, by omega, by omega, by rw [al]; exact RO.ok, RO.nd, by rw [al]; exact rowE_head hh.1 hb, fun ss sp pw => ?_⟩
    rw [fin ss sp pw]; exact q
theorem cutS_lo {os : List Bool} {n : Nat} : cutS (strO os) none (some (n : Int)) = strO (os.take n) := by
  unfold cutS strO
  congr 2
  have e := strO_len os
  unfold strO at e
  rw [HT.sIx_none, HT.sIx_nat, List.drop_zero, Nat.sub_zero, e, List.toList_toArray, List.map_take]
  rw [List.take_eq_take_iff, List.length_map]; omega
theorem cutS_hi {os : List Bool} {n : Nat} : cutS (strO os) (some (n : Int)) none = strO (os.drop n) := by
  unfold cutS strO
  congr 2
  have e := strO_len os
  unfold strO at e
  rw [HT.sIx_none, HT.sIx_nat, e, List.toList_toArray, List.map_drop]
  by_cases h : n ≤ os.length
  · rw [Nat.min_eq_left h, List.take_of_length_le (by rw [List.length_drop, List.length_map]; exact Nat.le_refl _)]
  · rw [Nat.min_eq_right (by omega), List.drop_eq_nil_of_le (by rw [List.length_map]; omega), List.drop_eq_nil_of_le (by rw [List.length_map]; omega)]; simp
theorem strO_app (a b : List Bool) : strO a ++ strO b = strO (a ++ b) := by
  show (⟨(a.map ltr).toArray ++ (b.map ltr).toArray⟩ : Str) = ⟨((a ++ b).map ltr).toArray⟩
  rw [List.map_append]; simp
def fWithO (G : Addr) : Fs := fun as _ Q => ∃ (h : Int) (os : List Bool) (ss : List (List Int)) (es : List (List Int)) (v : Nat) (b : Bool), as = [.d (gameD G h os ss), .d (nat v), .d (.str (strO [b]))] ∧ ss.Perm es ∧ (1 ≤ h ∧ h ≤ 3) ∧ v < os.length ∧ os.length ≤ 9 ∧ ss.length ≤ 63 ∧ (∀ e ∈ ss, EdgeOk h os.length e) ∧ ss.Nodup ∧ (∀ v : Nat, v < os.length → ∃ e ∈ ss, e.head? = some (v : Int)) ∧ Q (.d (gameD G h (os.take v ++ [b] ++ os.drop (v + 1)) (sortE es)))
theorem q_withO (T : Txt P K mg ζ) : MetX P w K mg base 5 ζ.Game "with_owner" (spF K (fWithO ζ.Game)) := by
  have cx_Game : MakX P w K mg base 3 "Game" ζ.Game (spGame ζ.Game) := (ok_game T).toX
  have cx_check_node : CalX P w K mg base 3 "check_node" (spF K fun as Ed Q => ∃ (n : Nat) (v : Int), as = [.d (nat n), .d (.int v)] ∧ v.natAbs < 2 ^ 1900 ∧ (¬ (0 ≤ v ∧ v < n) → Ed ⟨ζ.NoSuchNode, some [("node", .int v)]⟩) ∧ ((0 ≤ v ∧ v < n) → Q (.d .non))) := q_nodeX T
  refine T.mt_G_with_owner.dl T.cl_Game sc_G_with_owner (by rintro as E Q ⟨h, os, ss, es, v, b, rfl, _⟩; rfl) (by decide) fun fa cdv A outer s H E hr => ⟨_, qss_cons (qs_expr (qe_cT cx_check_node hr (by first | decide | omega) (takes_of rfl rfl rfl rfl) (by rfl) (qa_cons (qe_p (qp_fld (qp_var (pv 0)) rfl)) (qa_cons (qe_var (pv 1)) (qa_nil)))))
 (qss_cons (qs_if (qt_p (qpt_cmp (op_notInA (Room.u65 hr)) o_nin (qp_var (pv 2)) (qp_tup (qps_cons (qp_str) (qps_cons (qp_str) (qps_nil)))) rfl))
 (qss_one (qs_never))
 (qss_nil))
 (qss_cons (qs_setN (i := 3) false sc_G_with_owner.nd rfl (Or.inl rfl) (qe_p (qp_op op_addA o_add (qp_op op_addA o_add (qp_slice (qp_fld (qp_var (pv 0)) rfl) qpo_none (qpo_some (qp_var (pv 1)))) (qp_var (pv 2))) (qp_slice (qp_fld (qp_var (pv 0)) rfl) (qpo_some (qp_op op_addA o_add (qp_var (pv 1)) (qp_int))) qpo_none))))
 (qss_one (qs_ret (qe_mkT cx_Game hr (by first | decide | omega) (takes_of rfl rfl rfl rfl) (by rfl) (qa_cons (qe_p (qp_fld (qp_var (pv 0)) rfl)) (qa_cons (qe_var (pv 3)) (qa_cons (qe_p (qp_fld (qp_var (pv 0)) rfl)) (qa_nil)))) (mk_Game_of T)))))), ?_⟩
  rintro as Ed Qd ⟨h, os, ss, es, v, b, rfl, spe, hh, hv, n9, s63, so, nd, de, q⟩
  refine ⟨_, rfl, os.length, v, rfl, ?_, fun z => ?_, fun _ => ?_⟩
  · exact Nat.lt_of_le_of_lt (show (v : Int).natAbs ≤ 1000 by omega) (by decide)
  · exact absurd ⟨by omega, by omega⟩ z
  refine ⟨false, p2_of rfl rfl (nin_AB b), (fun z => by cases z), fun _ => ?_⟩
  have l0 := strO_len os
  have nl : (os.take v ++ [b] ++ os.drop (v + 1)).length = os.length := by
    rw [List.length_append, List.length_append, List.length_take, List.length_drop, List.length_singleton]; omega
  have c1 : sliD (.str (strO os)) none (some (v : Int)) = some (.str (strO (os.take v))) := by
    show (if (strO os).length ≤ 100000 then some (D.str (cutS _ _ _)) else none) = _
    rw [if_pos (by omega), cutS_lo]
  have c2 : sliD (.str (strO os)) (some ((v : Int) + 1)) none = some (.str (strO (os.drop (v + 1)))) := by
    show (if (strO os).length ≤ 100000 then some (D.str (cutS _ _ _)) else none) = _
    rw [if_pos (by omega), show (v : Int) + 1 = ((v + 1 : Nat) : Int) by omega, cutS_hi]
  have a1 : addD (.str (strO (os.take v))) (.str (strO [b])) = some (.str (strO (os.take v ++ [b]))) := by
    show (if (strO (os.take v)).length + (strO [b]).length ≤ 100000 then some (D.str (strO (os.take v) ++ strO [b])) else none) = _
    rw [strO_app, if_pos (by rw [strO_len, strO_len, List.length_take, List.length_singleton]; omega)]
  have a2 : addD (.str (strO (os.take v ++ [b]))) (.str (strO (os.drop (v + 1)))) = some (.str (strO (os.take v ++ [b] ++ os.drop (v + 1)))) := by
    show (if (strO (os.take v ++ [b])).length + (strO (os.drop (v + 1))).length ≤ 100000 then some (D.str (strO (os.take v ++ [b]) ++ strO (os.drop (v + 1)))) else none) = _
    rw [strO_app, if_pos (by rw [strO_len, strO_len, List.length_append, List.length_take, List.length_singleton, List.length_drop]; omega)]
  generalize hos : os.take v ++ [b] ++ os.drop (v + 1) = os' at nl a2 q
  have os0 : 1 ≤ os'.length := by omega
  refine ⟨_, p2_of (p2_of c1 rfl a1) c2 a2, _, rfl, _, rfl, h, os', true, ss, rfl, by omega, ⟨os0, by omega⟩, s63, by rw [nl]; exact so, nd, by rw [nl]; exact de, fun tt sp pw => ?_⟩
  rw [kept_sorted (fun e m => so e (spe.mem_iff.mpr m)) hh.2 (by omega) (by rw [← spe.length_eq]; exact s63) (sp.trans spe) pw]; exact q
def fEnds (C : Addr) : Fs := fun as _ Q => ∃ (h : Int) (ls : List Int) (tp : Bool) (row : List Int), as = [.d (ladD C h ls), .d (intX tp row)] ∧ (∀ l ∈ ls, 1 ≤ l) ∧ ls.length ≤ 1000 ∧ row.length ≤ 24 ∧ (∀ l ∈ row, 1 ≤ l ∧ l ≤ h) ∧ Q (.d (natL (fw ls row)))
theorem q_ends (T : Txt P K mg ζ) : CalX P w K mg base 3 "ends" (spF K (fEnds ζ.Ladder)) := by
  have cx_last_marks : CalX P w K mg base 2 "last_marks" (spF K fLast) := q_last T
  have cx_check_row : CalX P w K mg base 1 "check_row" (spF K fRow) := q_row T
  refine T.d_ends.dl sc_ends (by rintro as E Q ⟨h, ls, tp, row, rfl, _⟩; rfl) (by decide) fun fa cdv A outer s H E hr => ⟨_, qss_cons (qs_expr (qe_cT cx_check_row hr (by first | decide | omega) (takes_of rfl rfl rfl rfl) (by rfl) (qa_cons (qe_p (qp_fld (qp_var (pv 0)) rfl)) (qa_cons (qe_var (pv 1)) (qa_cons (qe_p (qp_cval T.cv_Ladder_MOST_LEVELS (pe_glob (v := .ref ζ.Ladder) (by rfl) T.mg_Ladder rfl))) (qa_nil))))))
 (qss_one (qs_ret (qe_cT cx_last_marks hr (by first | decide | omega) (takes_of rfl rfl rfl rfl) (by rfl) (qa_cons (qe_p (qp_fld (qp_var (pv 0)) rfl)) (qa_cons (qe_var (pv 1)) (qa_nil)))))), ?_⟩
  rintro as Ed Qd ⟨h, ls, tp, row, rfl, hb, hl, hz, hr1, q⟩
  exact ⟨_, rfl, _, rfl, h, tp, row, 24, rfl, by omega, by omega, hr1, _, rfl, ls, tp, row, rfl, hb, hl, fun l hl => (hr1 l hl).1, q⟩
end
end LR
set_option Elab.async false
set_option maxRecDepth 100000
set_option linter.all false
set_option maxHeartbeats 4000000
namespace LR
open PySem PySem.Spec PyProof.Rows L2
section
variable {P : Program} {w : World} {K : PySem.W.Frag} {mg : Str → Option Value} {base : Heap} {ζ : Cs}
def fGapsO : Fs := fun as _ Q => ∃ (ls : List Int) (c : List Nat), as = [.d (intL ls), .d (natL c)] ∧ (∀ l ∈ ls, 1 ≤ l) ∧ ls.length ≤ 1000 ∧ (∀ s ∈ c, s ≤ ls.length) ∧ c.length ≤ 1000 ∧ Q (.fr (.ls ((gapsOf ls c).map .int)))
theorem q_gapsO (T : Txt P K mg ζ) : CalX P w K mg base 2 "_law_gaps" (spF K fGapsO) := by
  have cx_gap : CalX P w K mg base 1 "_law_gap" (spF K fGapX) := q_gapX T
  refine T.d_gaps.dl sc_gaps (by rintro as E Q ⟨ls, c, rfl, _⟩; rfl) (by decide) fun fa cdv A outer s H E hr => ⟨_, qss_one (qs_ret (qe_lc (own := [("k", 2)]) rfl sc_gaps.nd (qi_range1 (by rfl) T.n_range (qe_p (qp_op op_sub o_sub (qp_callB o_len c_len (by rfl) T.n_len b_len (qps_cons (qp_var (pv 1)) (qps_nil))) (qp_int)))) (blkOk_by (N := N_gaps) (sc := defScope s_gaps) (by decide +kernel)) (fun _ _ _ _ _ => qg_name (pg_name (i := 2) sc_gaps.nd rfl (Or.inl rfl))) (fun _ _ _ _ _ => qts_nil) (fun _ _ _ _ _ => qe_cT cx_gap hr (by first | decide | omega) takes0 (by rfl) (qa_cons (qe_var (pv 0)) (qa_cons (qe_p (qp_ix ix_A o_ix (qp_var (pv 1)) (qp_var (pv 2)) (fun _ _ => rfl))) (qa_cons (qe_p (qp_ix ix_A o_ix (qp_var (pv 1)) (qp_op op_addA o_add (qp_var (pv 2)) (qp_int)) (fun _ _ => rfl))) (qa_nil))))))), ?_⟩
  rintro as Ed Qd ⟨ls, c, rfl, hb, hl, hc, hcl, q⟩
  have le : ((c.map nat).length : Int) = c.length := by rw [List.length_map]
  refine ⟨rfl, _, p2_of (pN1 rfl rfl) rfl rfl, ⟨by omega, by omega⟩, fun i acc => acc = ((List.range i).map fun k => gp ls (c.getD k 0) (c.getD (k + 1) 0)).map D.int, rfl, ?_, ?_⟩
  · rintro i x acc ex rfl
    obtain ⟨hi, rfl⟩ := rg_get ex
    rw [le] at hi
    have h1 : i < c.length := by omega
    have h2 : i + 1 < c.length := by omega
    refine ⟨fun _ => ⟨_, p2_of rfl rfl (natL_at (k := i) rfl h1), _, p2_of rfl (p2_of rfl rfl rfl) (natL_at (k := i + 1) (by omega) h2), false, ls, _, _, rfl, hb, hl, hc _ ?_, hc _ ?_, ?_⟩, fun z => by cases z⟩
    · rw [getD_get h1]; exact List.getElem_mem _
    · rw [getD_get h2]; exact List.getElem_mem _
    · show _ = ((List.range (i + 1)).map _).map D.int
      rw [List.range_succ, List.map_append, List.map_append]; rfl
  · rintro acc rfl
    rw [rg_len, le, show ((c.length : Int) - 1).toNat = c.length - 1 by omega]
    exact q
theorem gapsO_lev {ls : List Int} {c : List Nat} {h : Int} (hb : ∀ l ∈ ls, 1 ≤ l ∧ l ≤ h) (h0 : 0 ≤ h) (pw : c.Pairwise (· < ·)) (hc : ∀ s ∈ c, s ≤ ls.length) : ∀ l ∈ gapsOf ls c, 1 ≤ l ∧ l ≤ h := by
  by_cases e : c = []
  · subst e; intro l m; cases m
  · exact (gapsOf_ch e pw hc).levels (fun l m => (hb l m).1) h0 (fun l m => (hb l m).2)
theorem gapsOf_len {ls : List Int} {c : List Nat} : (gapsOf ls c).length = c.length - 1 := by unfold gapsOf; rw [List.length_map, List.length_range]
def fAnyRow : Fs := fun as _ Q => ∃ (h : Int) (ls : List Int), as = [.pool, .d (.int h), .d (intL ls)] ∧ (1 ≤ h ∧ h ≤ 3) ∧ (∀ l ∈ ls, 1 ≤ l ∧ l ≤ h) ∧ ls.length ≤ 24 ∧ ∀ row : List Int, row.length ≤ 8 → (∀ l ∈ row, 1 ≤ l ∧ l ≤ h) → Q (.d (intL row)) ∧ Q (.fr (.ls (row.map .int)))
theorem q_anyRow (T : Txt P K mg ζ) : CalX P w K mg base 3 "_law_any_row" (spF K fAnyRow) := by
  have cx_draw : CalX P w K mg base 1 "_law_draw" (spF K fDraw) := q_draw T
  have cx_levels : CalX P w K mg base 2 "_law_levels" (spF K fLevels) := q_levels T
  have cx_gaps : CalX P w K mg base 2 "_law_gaps" (spF K fGapsO) := q_gapsO T
  refine T.d_any_row.dl sc_any_row (by rintro as E Q ⟨h, ls, rfl, _⟩; rfl) (by decide) fun fa cdv A outer s H E hr => ⟨_, qss_cons (qs_setN (i := 3) false sc_any_row.nd rfl (Or.inl rfl) (qe_cT cx_draw hr (by first | decide | omega) (takes_of rfl rfl rfl rfl) (by rfl) (qa_cons (qe_var (pv 0)) (qa_cons (qe_p (qp_int)) (qa_nil)))))
 (qss_cons (qs_if (qt_p (qpt_cmp (op_eqD hr.units) o_eq (qp_var (pv 3)) (qp_int) (nomark _)))
 (qss_cons (qs_setN (i := 4) false sc_any_row.nd rfl (Or.inl rfl) (qe_p (qp_int)))
 (qss_cons (qs_if (qt_cmp (op_eqD hr.units) o_eq (qe_cT cx_draw hr (by first | decide | omega) (takes_of rfl rfl rfl rfl) (by rfl) (qa_cons (qe_var (pv 0)) (qa_cons (qe_p (qp_int)) (qa_nil)))) (qe_p (qp_int)) (nomark _))
 (qss_one (qs_setN (i := 4) false sc_any_row.nd rfl (Or.inl rfl) (qe_p (qp_int))))
 (qss_nil))
 (qss_one (qs_ret (qe_cT cx_levels hr (by first | decide | omega) (takes_of rfl rfl rfl rfl) (by rfl) (qa_cons (qe_var (pv 0)) (qa_cons (qe_var (pv 1)) (qa_cons (qe_var (pv 4)) (qa_nil)))))))))
 (qss_nil))
 (qss_cons (qs_setLc (own := [("step", 6)]) (i := 5) false rfl sc_any_row.nd rfl rfl (sw_true rfl rfl rfl (by decide +kernel)) (qi_range1 (by rfl) T.n_range (qe_p (qp_op op_addA o_add (qp_callB o_len c_len (by rfl) T.n_len b_len (qps_cons (qp_var (pv 2)) (qps_nil))) (qp_int)))) (blkOk_by (N := N_any_row) (sc := defScope s_any_row) (by decide +kernel)) (fun _ _ _ _ _ => qg_name (pg_name (i := 6) sc_any_row.nd rfl (Or.inl rfl))) (fun _ _ _ _ _ => qts_one (qt_cmp (op_eqD hr.units) o_eq (qe_cT cx_draw hr (by first | decide | omega) takes0 (by rfl) (qa_cons (qe_var (pv 0)) (qa_cons (qe_p (qp_int)) (qa_nil)))) (qe_p (qp_int)) (nomark _))) (fun _ _ _ _ _ => qe_var (pv 6)))
 (qss_cons (qs_setN (i := 7) true sc_any_row.nd rfl (Or.inl rfl) (qe_cT cx_gaps hr (by first | decide | omega) (takes_of rfl rfl rfl rfl) (by rfl) (qa_cons (qe_var (pv 2)) (qa_cons (qe_p (qp_slice (qp_var (pv 5)) qpo_none (qpo_some (qp_int)))) (qa_nil)))))
 (qss_cons (qs_if (qt_loan (QPW.qpt (qpw_and (qpt_cmp (op_eqD hr.units) o_eq (qp_var (pv 3)) (qp_int) (nomark _)) (qpw_and1 (qpt_cmp op_gt o_cmp (qp_callB o_len c_len (by rfl) T.n_len b_len (qps_cons (qp_var (pv 7)) (qps_nil))) (qp_int) (nomark _))))))
 (qss_cons (qs_setN (i := 8) false sc_any_row.nd rfl (Or.inl rfl) (qe_loanE (qe_cT cx_draw hr (by first | decide | omega) (takes_of rfl rfl rfl rfl) (by rfl) (qa_cons (qe_var (pv 0)) (qa_cons (qe_p (qp_callB o_len c_len (by rfl) T.n_len b_len (qps_cons (qp_var (pv 7)) (qps_nil)))) (qa_nil))))))
 (qss_one (qs_put (ps_asg (qe_op op_addA o_add (qe_p (qp_int)) (qe_cT cx_draw hr (by first | decide | omega) (takes_of rfl rfl rfl rfl) (by rfl) (qa_cons (qe_var (pv 0)) (qa_cons (qe_var (pv 1)) (qa_nil))))) (pg_sub (pv 7) (qe_p (qp_var (pv 8))) set_list)))))
 (qss_nil))
 (qss_fz [7] (qss_one (qs_ret (qe_var (pv 7))))))))), ?_⟩
  rintro as Ed Qd ⟨h, ls, rfl, hh, hb, hl, q⟩
  have lle : lenD [intL ls] = some (nat ls.length) := some_nat (by rw [List.length_map])
  refine ⟨_, rfl, 4, rfl, by decide, by decide, fun kd k0 k1 => ?_⟩
  refine ⟨_, rfl, fun z => ?_, fun z => ?_⟩
  · refine ⟨_, rfl, _, rfl, 8, rfl, by decide, by decide, fun v v0 v1 => ⟨_, rfl, _, rfl, _, rfl, fun z => ?_, fun z => ?_⟩⟩
    · exact ⟨_, rfl, h, 8, rfl, by omega, by decide, fun ls a b => (q ls (by omega) b).2⟩
    · exact ⟨h, 4, rfl, by omega, by decide, fun ls a b => (q ls (by omega) b).2⟩
  refine ⟨rfl, _, p2_of (pN1 rfl lle) rfl rfl, ⟨by omega, by omega⟩, fun i acc => ∃ c : List Nat, c.Pairwise (· < ·) ∧ (∀ s ∈ c, s < i) ∧ acc = c.map nat, ⟨[], .nil, fun s h => (by cases h), rfl⟩, ?_, ?_⟩
  · rintro i x acc ex ⟨c, pw, hc, rfl⟩
    obtain ⟨hi, rfl⟩ := rg_get ex
    refine ⟨_, rfl, 2, rfl, by decide, by decide, fun v v0 v1 => ⟨_, rfl, _, rfl, _, rfl, fun z => ?_, fun z => ⟨c, pw, fun s m => by have := hc s m; omega, rfl⟩⟩⟩
    refine ⟨c ++ [i], List.pairwise_append.mpr ⟨pw, List.pairwise_singleton _ _, fun a ha b hb => ?_⟩, fun s m => ?_, ?_⟩
    · rw [List.mem_singleton.mp hb]; exact hc a ha
    · rcases List.mem_append.mp m with m | m
      · have := hc s m; omega
      · rw [List.mem_singleton.mp m]; omega
    · rw [List.map_append]; rfl
  rintro acc ⟨c, pw, hc, rfl⟩
  rw [rg_len, show ((ls.length : Int) + 1).toNat = ls.length + 1 by omega] at hc
  have c9 : sliD (natL c) none (some 9) = some (natL (c.take 9)) := by
    show some (D.lst (cutD _ none (some ((9 : Nat) : Int)))) = _
    rw [cut_take, ← List.map_take]
  have tl : (c.take 9).length ≤ 9 := by rw [List.length_take]; omega
  have tm : ∀ s ∈ c.take 9, s ≤ ls.length := fun s m => by have := hc s (List.mem_of_mem_take m); omega
  have tp : (c.take 9).Pairwise (· < ·) := pw.sublist (List.take_sublist _ _)
  have gl := gapsO_lev hb (by omega) tp tm
  have gn : (gapsOf ls (c.take 9)).length ≤ 8 := by rw [gapsOf_len]; omega
  refine ⟨_, c9, ls, _, rfl, fun l m => (hb l m).1, by omega, tm, by omega, ?_⟩
  generalize gapsOf ls (c.take 9) = row at gl gn
  have le : ((row.map D.int).length : Int) = row.length := by rw [List.length_map]
  have ep : ∃ b : Bool, pand (p2 eqD (pvar 3) (pc (D.int 2))) (p2 (cmpD fun i j => decide (j < i)) (pN lenD [pvar 7]) (pc (D.int 0))) [.pool, .d (.int h), .d (intL ls), .d (.int kd), .any, .d (natL c), .any, .d (intL row), .any] = some (.bl b) ∧ (b = true → 0 < row.length) := by
    by_cases z2 : kd = 2
    · exact ⟨decide ((0 : Int) < (row.map D.int).length), pand_of (a := true) (by rw [z2]; rfl) (fun _ => rfl) (fun z => by cases z), fun z => by have := of_decide_eq_true z; omega⟩
    · refine ⟨false, pand_of (a := false) ?_ (fun z => by cases z) (fun _ => rfl), fun z => by cases z⟩
      show some (D.bl (decide (kd = 2))) = _
      rw [decide_eq_false z2]
  obtain ⟨bb, eb, hbb⟩ := ep
  refine ⟨bb, eb, fun z => ?_, fun z => (q row gn gl).1⟩
  have z2 := hbb z
  refine ⟨_, pN1 rfl rfl, _, rfl, by omega, by omega, fun p p0 p1 => ?_⟩
  obtain ⟨k, rfl⟩ : ∃ k : Nat, p = (k : Int) := ⟨p.toNat, by omega⟩
  refine ⟨_, rfl, rfl, _, rfl, h, rfl, by omega, by omega, fun v v0 v1 => ⟨_, rfl, _, _, k, rfl, rfl, ixN_of (by rw [List.length_map]; omega), ?_⟩⟩
  have er : (row.map D.int).set k (.int (1 + v)) = (row.set k (1 + v)).map D.int := by rw [List.map_set]
  show Qd (.d (.lst ((row.map D.int).set k (.int (1 + v)))))
  rw [er]
  refine (q _ (by rw [List.length_set]; exact gn) fun l m => ?_).1
  rcases List.mem_or_eq_of_mem_set m with m | m
  · exact gl l m
  · omega
theorem okp_edT (es : List (List Int)) : okp 2 (edT es) = true := by
  show (es.map intT).all (okp 1) = true
  rw [List.all_map, List.all_eq_true]
  intro e _
  show (e.map D.int).all (okp 0) = true
  rw [List.all_map, List.all_eq_true]
  intro i _
  rfl
theorem isi_game {C : Addr} {h os ss} {p q : PF} {env : List Ev} (e1 : p env = some (gameD C h os ss)) (e2 : q env = some (.cls C)) : pN (isiOD C) [p, q] env = some (.bl true) := by
  exact pN2 e1 e2 (by show (if C = C ∧ C = C then some (D.bl true) else none) = _; rw [if_pos ⟨rfl, rfl⟩])
def fDueG (G : Addr) : Fs := fun as _ Q => ∃ (h : Int) (os : List Bool) (row : List Int), as = [.d (gameD G h os (sortE (rowE row))), .d (.int h), .d (.str (strO os)), .d (intL row)] ∧ (1 ≤ h ∧ h ≤ 3) ∧ os.length ≤ 9 ∧ row.length ≤ 8 ∧ (∀ l ∈ row, 1 ≤ l ∧ l ≤ h) ∧ Q (.d (.bl true))
theorem q_dueG (T : Txt P K mg ζ) : CalX P w K mg base 6 "_law_due_game" (spF K (fDueG ζ.Game)) := by
  have cx_same : CalX P w K mg base 5 "_law_same" (spF K (fSame 2)) := q_same T 2
  have cx_row_edges : CalX P w K mg base 1 "_law_row_edges" (spF K fRowX2) := q_rowX2 T
  refine T.d_due_game.dl sc_due_game (by rintro as E Q ⟨h, os, row, rfl, _⟩; rfl) (by decide) fun fa cdv A outer s H E hr => ⟨_, qss_cons (qs_if (QW.qt (qw_or (qt_p (qpt_not (qpt_truth (qp_callB (o_isiO (C := ζ.Game) T.cl_Game T.ai_Game T.objc T.mo_Game T.kit_Game_Game) call_isi (by rfl) T.n_isinstance b_isinstance (qps_cons (qp_var (pv 0)) (qps_cons (qp_cls (pe_glob (v := .ref ζ.Game) (by rfl) T.mg_Game rfl)) (qps_nil))))))) (qw_or (qt_not (qt_truth (qe_cT cx_same hr (by first | decide | omega) (takes_of rfl rfl rfl rfl) (by rfl) (qa_cons (qe_p (qp_fld (qp_var (pv 0)) rfl)) (qa_cons (qe_var (pv 1)) (qa_nil)))))) (qw_or1 (qt_not (qt_truth (qe_cT cx_same hr (by first | decide | omega) (takes_of rfl rfl rfl rfl) (by rfl) (qa_cons (qe_p (qp_fld (qp_var (pv 0)) rfl)) (qa_cons (qe_var (pv 2)) (qa_nil))))))))))
 (qss_one (qs_ret (qe_p (qp_bl))))
 (qss_nil))
 (qss_one (qs_ret (qe_cT cx_same hr (by first | decide | omega) (takes_of rfl rfl rfl rfl) (by rfl) (qa_cons (qe_p (qp_fld (qp_var (pv 0)) rfl)) (qa_cons (qe_callTy o_tuple call_tuple_of (by rfl) T.n_tuple b_tuple (qa_cons (qe_callB o_sortE (cr_sortQ (d := 3) (B := 64) (by decide)) (by rfl) T.n_sorted b_sorted (qa_cons (qe_cT cx_row_edges hr (by first | decide | omega) (takes_of rfl rfl rfl rfl) (by rfl) (qa_cons (qe_var (pv 3)) (qa_nil))) (qa_nil))) (qa_nil))) (qa_nil)))))), ?_⟩
  rintro as Ed Qd ⟨h, os, row, rfl, hh, n9, hl, hb0, q⟩
  refine ⟨false, ?_, (fun z => by cases z), fun _ => ?_⟩
  · exact p1_of (p1_of (isi_game rfl rfl) rfl) rfl
  have okT : okp 2 (edT (sortE (rowE row))) = true := okp_edT _
  refine ⟨_, p1_of rfl rfl, .int h, .int h, rfl, rfl, rfl, fun b hb => ?_⟩
  obtain rfl : b = true := hb.mpr rfl
  refine ⟨true, rfl, (fun z => by cases z), fun _ => ?_⟩
  refine ⟨_, p1_of rfl rfl, .str (strO os), .str (strO os), rfl, rfl, rfl, fun b hb => ?_⟩
  obtain rfl : b = true := hb.mpr rfl
  refine ⟨true, rfl, (fun z => by cases z), fun _ => ?_⟩
  have RL := rowE_len row
  refine ⟨edT (sortE (rowE row)), p1_of rfl rfl, row, rfl, by omega, _, edL (sortE (rowE row)), rfl, sortED_ed (okE_ed (rowE_eds hh.1 hb0).ok hh.2 (show ((row.length : Int) + 1) ≤ 9 by omega) (by omega)), _, edT (sortE (rowE row)), rfl, rfl, _, _, rfl, okT, okT, fun b hb => ?_⟩
  obtain rfl : b = true := hb.mpr rfl
  exact q
theorem okp_plc (φ : Plc) : okp 2 (plcD φ) = true := by
  unfold plcD
  rw [okp, List.all_map, List.all_eq_true]
  intro o _
  cases o <;> rfl
def fToldAt (G L : Addr) : Fs := fun as _ Q => ∃ (h : Int) (os : List Bool) (ss : List (List Int)) (ls : List Int) (φ : Plc), as = [.d (gameD G h os ss), .d (ladD L h ls), .d (plcD φ)] ∧ (1 ≤ h ∧ h ≤ 3) ∧ os.length ≤ 9 ∧ ls.length ≤ 1000 ∧ (∀ e ∈ ss, EdgeOk h os.length e) ∧ ss.length ≤ 63 ∧ LeastFit ls os ss φ ∧ Q (.d (.bl true))
theorem q_toldAt (T : Txt P K mg ζ) : CalX P w K mg base 11 "_law_told_at" (spF K (fToldAt ζ.Game ζ.Ladder)) := by
  have cx_climb : CalX P w K mg base 9 "climb" (spF K (fClimbL ζ.HeightMismatch ζ.Game ζ.Ladder)) := q_climbL T
  have cx_told_nodes : CalX P w K mg base 10 "told_nodes" (spF K (fTold ζ.HeightMismatch ζ.Game ζ.Ladder)) := q_told T
  have cx_same : CalX P w K mg base 5 "_law_same" (spF K (fSame 2)) := q_same T 2
  refine T.d_told_at.dl sc_told_at (by rintro as E Q ⟨h, os, ss, ls, φ, rfl, _⟩; rfl) (by decide) fun fa cdv A outer s H E hr => ⟨_, qss_cons (qs_setN (i := 3) true sc_told_at.nd rfl (Or.inl rfl) (qe_cT cx_climb hr (by first | decide | omega) (takes_of rfl rfl rfl rfl) (by rfl) (qa_cons (qe_var (pv 0)) (qa_cons (qe_var (pv 1)) (qa_nil)))))
 (qss_cons (qs_if (qt_loanE (qt_not (qt_truth (qe_cT cx_same hr (by first | decide | omega) (takes_of rfl rfl rfl rfl) (by rfl) (qa_cons (qe_var (pv 3)) (qa_cons (qe_var (pv 2)) (qa_nil)))))))
 (qss_one (qs_ret (qe_p (qp_bl))))
 (qss_nil))
 (qss_cons (qs_own m_append (ps_expr (pe_bm PySem.F.plainAttrs_list PySem.F.slot_list_append PySem.F.type_list_append mt_append (pv 3) (qa_cons (qe_p (qp_int)) (qa_nil)))))
 (qss_fz [3] (qss_cons (qs_setLcP (own := [("node", 5)]) (it := ipRng1 _) (i := 4) false rfl sc_told_at.nd rfl rfl (sw_true rfl rfl rfl (by decide +kernel)) (qi_range1 (by rfl) T.n_range (qe_p (qp_callB o_len c_len (by rfl) T.n_len b_len (qps_cons (qp_var (pv 2)) (qps_nil))))) (blkOk_by (N := N_told_at) (sc := defScope s_told_at) (by decide +kernel)) (fun _ _ _ _ _ => qg_name (pg_name (i := 5) sc_told_at.nd rfl (Or.inl rfl))) (fun _ _ _ _ _ => qpts_one (qpt_cmp op_notN o_notN (qp_ix ix_A o_ix (qp_var (pv 2)) (qp_var (pv 5)) (fun _ _ => rfl)) (qp_non) (nomark _))) (fun _ _ _ _ _ => qp_var (pv 5)))
 (qss_one (qs_ret (qe_and (qe_cT cx_same hr (by first | decide | omega) (takes_of rfl rfl rfl rfl) (by rfl) (qa_cons (qe_cT cx_told_nodes hr (by first | decide | omega) (takes_of rfl rfl rfl rfl) (by rfl) (qa_cons (qe_var (pv 0)) (qa_cons (qe_var (pv 1)) (qa_nil)))) (qa_cons (qe_var (pv 4)) (qa_nil)))) (qe_one (qe_cT cx_same hr (by first | decide | omega) (takes_of rfl rfl rfl rfl) (by rfl) (qa_cons (qe_cT cx_climb hr (by first | decide | omega) (takes_of rfl rfl rfl rfl) (by rfl) (qa_cons (qe_var (pv 0)) (qa_cons (qe_var (pv 1)) (qa_nil)))) (qa_cons (qe_var (pv 2)) (qa_nil)))))))))))), ?_⟩
  rintro as Ed Qd ⟨h, os, ss, ls, φ, rfl, hh, n9, ll, so, s63, Lf, q⟩
  have gl : φ.length = os.length := Lf.ok.len
  refine ⟨h, h, os, ss, ls, rfl, ⟨by omega, by omega⟩, ⟨by omega, by omega⟩, by omega, by omega, so, s63, fun z => (z rfl).elim, fun _ g2 Lg2 => ?_⟩
  obtain rfl := Lg2.uniq Lf
  refine ⟨_, _, rfl, okp_plc g2, okp_plc g2, fun b hb => ?_⟩
  obtain rfl : b = true := hb.mpr rfl
  refine ⟨true, rfl, (fun z => by cases z), fun _ => ?_⟩
  refine ⟨_, rfl, _, rfl, _, _, rfl, rfl, ?_, ?_⟩
  · rw [List.length_append, List.length_map, gl, List.length_singleton]; omega
  refine ⟨_, plc_of rfl (prng1_nat (pN1 rfl (some_nat (by rw [List.length_map]))) (by omega)) (pcol_map (enc := nat) (P := fun v : Nat => (g2.getD v none).isSome) (F := nat) fun v hv => ?_), ?_⟩
  · have vl : v < g2.length := List.mem_range.mp hv
    have a1 := plc_at (φ := g2) vl
    cases c : g2.getD v none with
    | none =>
      rw [c] at a1
      exact pturn_of (c := false) rfl (p2_of (p2_of rfl rfl a1) rfl rfl) fun z => by cases z
    | some s =>
      rw [c] at a1
      exact pturn_of (c := true) rfl (p2_of (p2_of rfl rfl a1) rfl rfl) fun _ => rfl
  have et : (List.range g2.length).filter (fun v => (g2.getD v none).isSome) = toldL g2 := rfl
  rw [et]
  refine ⟨h, h, os, ss, ls, rfl, ⟨by omega, by omega⟩, ⟨by omega, by omega⟩, by omega, by omega, so, s63, fun z => (z rfl).elim, fun _ g3 L3 => ?_⟩
  obtain rfl := L3.uniq Lf
  have okn : okp 2 (.lst ((toldL g3).map nat)) = true := by
    rw [okp, List.all_map, List.all_eq_true]; intro x _; rfl
  refine ⟨_, _, rfl, okn, okn, fun b hb => ?_⟩
  obtain rfl : b = true := hb.mpr rfl
  refine ⟨true, rfl, fun _ => ?_, fun z => by cases z⟩
  refine ⟨h, h, os, ss, ls, rfl, ⟨by omega, by omega⟩, ⟨by omega, by omega⟩, by omega, by omega, so, s63, fun z => (z rfl).elim, fun _ g4 L4 => ?_⟩
  obtain rfl := L4.uniq Lf
  refine ⟨_, _, rfl, okp_plc g4, okp_plc g4, fun b hb => ?_⟩
  obtain rfl : b = true := hb.mpr rfl
  exact q
end
end LR
set_option Elab.async false
set_option maxRecDepth 100000
set_option linter.all false
set_option maxHeartbeats 4000000
namespace LR
open PySem PySem.Spec PyProof.Rows L2
section
variable {P : Program} {w : World} {K : PySem.W.Frag} {mg : Str → Option Value} {base : Heap} {ζ : Cs}
theorem natL_len (c : List Nat) : lenD [natL c] = some (nat c.length) := some_nat (by rw [List.length_map])
theorem onP_plcD (c : List Nat) : plcD (onP c) = natL c := by
  show D.lst ((c.map some).map optN) = D.lst (c.map nat)
  rw [List.map_map]; rfl
theorem eqD_row (row : List Int) : eqD (intL row) (intL row) = some (.bl true) := by
  rw [eqD_nb (c := true) 1 (okn_ints 29 row) (okn_ints 29 row) (nbn_ints 0 row) (nbn_ints 0 row) ⟨fun _ => rfl, fun _ => rfl⟩]
theorem neD_self (row : List Int) : neD (intL row) (intL row) = some (.bl false) := by
  unfold neD
  rw [eqD_row]; rfl
def fHeldAt (L : Addr) : Fs := fun as _ Q => ∃ (h : Int) (ls row : List Int), as = [.d (ladD L h ls), .d (intL ls), .d (intL row), .d (plcD (rowPl ls row)), .d (natL (fw ls row))] ∧ (∀ l ∈ ls, 1 ≤ l) ∧ ls.length ≤ 24 ∧ row.length ≤ 8 ∧ (∀ l ∈ row, 1 ≤ l ∧ l ≤ h) ∧ Q (.d (.bl true))
theorem q_heldAt (T : Txt P K mg ζ) : CalX P w K mg base 6 "_law_held_at" (spF K (fHeldAt ζ.Ladder)) := by
  have cx_hold : CalX P w K mg base 5 "hold" (spF K (fHold ζ.Ladder)) := q_hold T
  have cx_L_contains : MetX P w K mg base 4 ζ.Ladder "__contains__" (spF K (fIn ζ.Ladder)) := q_in T
  have cx_same : CalX P w K mg base 5 "_law_same" (spF K (fSame 2)) := q_same T 2
  have cx_ends : CalX P w K mg base 3 "ends" (spF K (fEnds ζ.Ladder)) := q_ends T
  have cx_gap : CalX P w K mg base 1 "_law_gap" (spF K fGapX) := q_gapX T
  refine T.d_held_at.dl sc_held_at (by rintro as E Q ⟨h, ls, row, rfl, _⟩; rfl) (by decide) fun fa cdv A outer s H E hr => ⟨_, qss_cons (qs_setN (i := 5) false sc_held_at.nd rfl (Or.inl rfl) (qe_p (qp_callTy o_list call_list_of (by rfl) T.n_list b_list (qps_cons (qp_var (pv 2)) (qps_nil)))))
 (qss_cons (qs_if (qt_p (qpt_cmp (op_eqD hr.units) o_eq (qp_callB o_len c_len (by rfl) T.n_len b_len (qps_cons (qp_var (pv 4)) (qps_nil))) (qp_int) (nomark _)))
 (qss_cons (qs_if (QW.qt (qw_or (qt_cmp op_notN o_notN (qe_cT cx_hold hr (by first | decide | omega) (takes_of rfl rfl rfl rfl) (by rfl) (qa_cons (qe_var (pv 0)) (qa_cons (qe_var (pv 5)) (qa_nil)))) (qe_p (qp_non)) (nomark _)) (qw_or (qt_inO rfl cx_L_contains hr (by first | decide | omega) (takes_of rfl rfl rfl rfl) (qe_var (pv 5)) (qe_var (pv 0))) (qw_or1 (qt_p (qpt_cmp (op_neD hr.units) o_ne (qp_var (pv 5)) (qp_var (pv 2)) (nomark _)))))))
 (qss_one (qs_ret (qe_p (qp_bl))))
 (qss_nil))
 (qss_one (qs_ret (qe_and (qe_p (qp_cmp (op_eqD hr.units) o_eq (qp_callB o_len c_len (by rfl) T.n_len b_len (qps_cons (qp_lc (own := [("place", 6)]) (it := ipSeq _) rfl sc_held_at.nd (fun W => qi_seq (qe_p (qp_var (pv 3)))) (blkOk_by (N := N_held_at) (sc := defScope s_held_at) (by decide +kernel)) (fun _ _ _ _ _ => qg_name (pg_name (i := 6) sc_held_at.nd rfl (Or.inl rfl))) (fun _ _ _ _ _ => qpts_one (qpt_cmp op_notN o_notN (qp_var (pv 6)) (qp_non) (nomark _))) (fun _ _ _ _ _ => qp_var (pv 6))) (qps_nil))) (qp_int) (nomark _))) (qe_one (qe_cT cx_same hr (by first | decide | omega) (takes_of rfl rfl rfl rfl) (by rfl) (qa_cons (qe_cT cx_ends hr (by first | decide | omega) (takes_of rfl rfl rfl rfl) (by rfl) (qa_cons (qe_var (pv 0)) (qa_cons (qe_var (pv 5)) (qa_nil)))) (qa_cons (qe_p (qp_lst (qps_nil))) (qa_nil)))))))))
 (qss_nil))
 (qss_cons (qs_if (QW.qt (qw_or (qt_not (qt_truth (qe_cT cx_same hr (by first | decide | omega) (takes_of rfl rfl rfl rfl) (by rfl) (qa_cons (qe_cT cx_hold hr (by first | decide | omega) (takes_of rfl rfl rfl rfl) (by rfl) (qa_cons (qe_var (pv 0)) (qa_cons (qe_var (pv 5)) (qa_nil)))) (qa_cons (qe_var (pv 3)) (qa_nil)))))) (qw_or (qt_ninO rfl cx_L_contains hr (by first | decide | omega) (takes_of rfl rfl rfl rfl) (qe_var (pv 5)) (qe_var (pv 0))) (qw_or1 (qt_not (qt_truth (qe_cT cx_same hr (by first | decide | omega) (takes_of rfl rfl rfl rfl) (by rfl) (qa_cons (qe_cT cx_ends hr (by first | decide | omega) (takes_of rfl rfl rfl rfl) (by rfl) (qa_cons (qe_var (pv 0)) (qa_cons (qe_var (pv 5)) (qa_nil)))) (qa_cons (qe_var (pv 4)) (qa_nil))))))))))
 (qss_one (qs_ret (qe_p (qp_bl))))
 (qss_nil))
 (qss_cons (qs_for (vs := [7]) [7] (passes_of rfl) rfl (qi_range1 (by rfl) T.n_range (qe_p (qp_callB o_len c_len (by rfl) T.n_len b_len (qps_cons (qp_var (pv 2)) (qps_nil))))) (qg_name (pg_name (i := 7) sc_held_at.nd rfl (Or.inl rfl)))
 (qss_one (qs_if (QW.qt (qw_or (qt_p (qpt_cmp op_ge o_cmp (qp_ix ix_A o_ix (qp_var (pv 3)) (qp_var (pv 7)) (fun _ _ => rfl)) (qp_ix ix_A o_ix (qp_var (pv 3)) (qp_op op_addA o_add (qp_var (pv 7)) (qp_int)) (fun _ _ => rfl)) (nomark _))) (qw_or1 (qt_cmp (op_neD hr.units) o_ne (qe_cT cx_gap hr (by first | decide | omega) (takes_of rfl rfl rfl rfl) (by rfl) (qa_cons (qe_var (pv 1)) (qa_cons (qe_p (qp_ix ix_A o_ix (qp_var (pv 3)) (qp_var (pv 7)) (fun _ _ => rfl))) (qa_cons (qe_p (qp_ix ix_A o_ix (qp_var (pv 3)) (qp_op op_addA o_add (qp_var (pv 7)) (qp_int)) (fun _ _ => rfl))) (qa_nil))))) (qe_p (qp_ix ix_A o_ix (qp_var (pv 2)) (qp_var (pv 7)) (fun _ _ => rfl))) (nomark _)))))
 (qss_one (qs_ret (qe_p (qp_bl))))
 (qss_nil))))
 (qss_one (qs_ret (qe_and (qe_p (qp_cmp (op_eqD hr.units) o_eq (qp_ix ix_A o_ix (qp_var (pv 3)) (qp_callB o_len c_len (by rfl) T.n_len b_len (qps_cons (qp_var (pv 2)) (qps_nil))) (fun _ _ => rfl)) (qp_ix ix_A o_ix (qp_var (pv 4)) (qp_int) (fun _ _ => rfl)) (nomark _))) (qe_and (qe_cT cx_same hr (by first | decide | omega) (takes_of rfl rfl rfl rfl) (by rfl) (qa_cons (qe_cT cx_hold hr (by first | decide | omega) (takes_of rfl rfl rfl rfl) (by rfl) (qa_cons (qe_var (pv 0)) (qa_cons (qe_p (qp_callTy o_tuple call_tuple_of (by rfl) T.n_tuple b_tuple (qps_cons (qp_var (pv 2)) (qps_nil)))) (qa_nil)))) (qa_cons (qe_var (pv 3)) (qa_nil)))) (qe_one (qe_p (qp_cmp (op_eqD hr.units) o_eq (qp_var (pv 5)) (qp_var (pv 2)) (nomark _))))))))))), ?_⟩
  rintro as Ed Qd ⟨h, ls, row, rfl, hb, hl, hz, hr1, q⟩
  have okn : ∀ c : List Nat, okp 2 (natL c) = true := fun c => by
    rw [natL, okp, List.all_map, List.all_eq_true]; intro x _; rfl
  refine ⟨_, pN1 rfl rfl, ?_⟩
  refine ⟨_, p2_of (pN1 rfl (natL_len _)) rfl rfl, fun z => ?_, fun z => ?_⟩
  · have z := of_decide_eq_true z
    have f0 : fw ls row = [] := List.length_eq_zero_iff.mp (by omega)
    have l0 : least ls row = [] := Classical.byContradiction fun c => fw_ne.mpr c f0
    refine ⟨h, ls, false, row, rfl, hb, by omega, by omega, hr1, fun _ => ?_, fun c => absurd l0 c⟩
    refine ⟨_, rfl, .bl false, rfl, false, rfl, (fun z => by cases z), fun _ => ?_⟩
    refine ⟨_, _, rfl, h, ls, false, row, rfl, hb, by omega, by omega, hr1, fun b hbb => ?_⟩
    obtain rfl : b = false := by
      cases b with
      | false => rfl
      | true => exact absurd l0 (hbb.mp rfl)
    refine ⟨false, rfl, false, rfl, (fun z => by cases z), fun _ => ?_⟩
    refine ⟨false, p2_of rfl rfl (neD_self row), (fun z => by cases z), fun _ => ?_⟩
    have er : rowPl ls row = offP (row.length + 1) := by unfold rowPl; rw [if_pos l0]
    rw [er]
    have e0 : ((offP (row.length + 1)).filter fun _ => false).map optN = [] := by rw [List.filter_eq_nil_iff.mpr fun _ _ => Bool.false_ne_true]; rfl
    refine ⟨.bl true, p2_of (pN1 (plc_of rfl rfl (pcol_map (l := offP (row.length + 1)) (enc := optN) (P := fun _ => false) (F := optN) fun o ho => ?_)) (by rw [e0]; rfl)) rfl rfl, true, rfl, fun _ => ?_, fun z => by cases z⟩
    · obtain rfl : o = none := (List.mem_replicate.mp ho).2
      exact pturn_of (c := false) rfl (p2_of rfl rfl rfl) fun z => by cases z
    refine ⟨h, ls, false, row, rfl, hb, by omega, by omega, hr1, ?_⟩
    rw [f0]
    refine ⟨_, rfl, natL [], natL [], rfl, rfl, rfl, fun b hb2 => ?_⟩
    rw [hb2.mpr rfl]; exact q
  · have z := of_decide_eq_false z
    have f0 : fw ls row ≠ [] := fun c => z (by rw [c]; rfl)
    have l0 : least ls row ≠ [] := fw_ne.mp f0
    have C := least_ch l0
    have er : rowPl ls row = onP (least ls row) := by unfold rowPl; rw [if_neg l0]
    rw [er, onP_plcD]
    refine ⟨h, ls, false, row, rfl, hb, by omega, by omega, hr1, fun c => absurd c l0, fun _ => ?_⟩
    have Cl := C.len
    refine ⟨_, _, rfl, okn _, okn _, fun b hb2 => ?_⟩
    obtain rfl : b = true := hb2.mpr rfl
    refine ⟨true, rfl, (fun z => by cases z), fun _ => ?_⟩
    refine ⟨_, _, rfl, h, ls, false, row, rfl, hb, by omega, by omega, hr1, fun b hbb => ?_⟩
    obtain rfl : b = true := hbb.mpr l0
    refine ⟨true, rfl, false, rfl, (fun z => by cases z), fun _ => ?_⟩
    refine ⟨h, ls, false, row, rfl, hb, by omega, by omega, hr1, ?_⟩
    refine ⟨_, _, rfl, okn _, okn _, fun b hb2 => ?_⟩
    obtain rfl : b = true := hb2.mpr rfl
    refine ⟨true, rfl, (fun z => by cases z), fun _ => ?_⟩
    have le : ((row.map D.int).length : Int) = row.length := by rw [List.length_map]
    have L := least_ch l0
    have gc : ∀ k, k ≤ row.length → ∃ s, (least ls row)[k]? = some s ∧ ixD (natL (least ls row)) (.int (k : Int)) = some (nat s) ∧ s ≤ ls.length := fun k hk => by
      obtain ⟨s, e, b⟩ := C.at hk
      refine ⟨s, e, ?_, b⟩
      rw [natL_at (k := k) rfl (by omega), List.getD_eq_getElem?_getD, e]; rfl
    refine ⟨_, pN1 rfl rfl, ⟨by omega, by omega⟩, fun i e => e = [.d (ladD ζ.Ladder h ls), .d (intL ls), .d (intL row), .d (natL (least ls row)), .d (natL (fw ls row)), .d (intL row), .any, .any], rfl, ?_, ?_⟩
    · rintro i x e ex rfl
      obtain ⟨hi, rfl⟩ := rg_get ex
      rw [le, Int.toNat_natCast] at hi
      obtain ⟨s, e1, g1, s1⟩ := gc i (by omega)
      obtain ⟨t, e2, g2, t1⟩ := gc (i + 1) (by omega)
      have e3 := List.getElem?_eq_getElem hi
      have R := rel_iff.mp (C.rel e1 e2 e3)
      have g2' : ixD (natL (least ls row)) (.int ((i : Int) + 1)) = some (nat t) := by rw [show (i : Int) + 1 = ((i + 1 : Nat) : Int) by omega]; exact g2
      refine ⟨false, p2_of (p2_of rfl rfl g1) (p2_of rfl (p2_of rfl rfl rfl) g2') ?_, (fun z => by cases z), fun _ => ?_⟩
      · show some (D.bl (decide ((t : Int) ≤ s))) = _
        rw [decide_eq_false (by omega)]
      refine ⟨_, p2_of rfl rfl g1, _, p2_of rfl (p2_of rfl rfl rfl) g2', false, ls, s, t, rfl, hb, by omega, s1, t1, ?_⟩
      refine ⟨_, p2_of rfl rfl (intL_at (k := i) rfl e3), .bl false, ?_, false, rfl, (fun z => by cases z), fun _ => rfl⟩
      show notO (some (D.bl (decide (gapI ls s t = row[i])))) = _
      rw [decide_eq_true (show gapI ls s t = row[i] from R.2)]; rfl
    · rintro e rfl
      obtain ⟨s, e1, g1, s1⟩ := gc row.length (Nat.le_refl _)
      obtain ⟨m, em⟩ := rst_head hb (Nat.le_refl _) l0
      rw [rst_last, List.getD_eq_getElem?_getD, e1] at em
      have em : fw ls row = s :: m := em
      refine ⟨.bl true, p2_of (p2_of rfl (pN1 rfl rfl) (by rw [le]; exact g1)) (p2_of rfl rfl (by rw [em]; exact atI_of (k := 0) rfl)) ?_, true, rfl, fun _ => ?_, fun z => by cases z⟩
      · show some (D.bl (decide ((s : Int) = s))) = _
        rw [decide_eq_true rfl]
      refine ⟨_, pN1 rfl rfl, h, ls, true, row, rfl, hb, by omega, by omega, hr1, fun c => absurd c l0, fun _ => ?_⟩
      refine ⟨_, _, rfl, okn _, okn _, fun b hb2 => ?_⟩
      obtain rfl : b = true := hb2.mpr rfl
      refine ⟨true, rfl, fun _ => ?_, fun z => by cases z⟩
      exact ⟨_, p2_of rfl rfl (eqD_row row), q⟩
end
end LR
set_option Elab.async false
set_option maxRecDepth 100000
set_option linter.all false
set_option maxHeartbeats 4000000
namespace LR
open PySem PySem.Spec PyProof.Rows L2
section
variable {P : Program} {w : World} {K : PySem.W.Frag} {mg : Str → Option Value} {base : Heap} {ζ : Cs}
theorem oneA : Str.ofString "A" = strO [true] := by decide +kernel
def fIfHeld : Fs := fun as _ Q => ∃ (h : Int) (ls row : List Int), as = [.d (.int h), .d (intL ls), .d (intL row), .d (natL (fw ls row))] ∧ (1 ≤ h ∧ h ≤ 3) ∧ (∀ l ∈ ls, 1 ≤ l ∧ l ≤ h) ∧ ls.length ≤ 24 ∧ row.length ≤ 8 ∧ (∀ l ∈ row, 1 ≤ l ∧ l ≤ h) ∧ Q (.d (.bl true))
theorem rowE_okl {h : Int} {row : List Int} (h1 : 1 ≤ h) (hb : ∀ l ∈ row, 1 ≤ l ∧ l ≤ h) {n : Nat} (hn : n = row.length + 1) : ∀ e ∈ rowE row, EdgeOk h n e := by
  subst hn
  exact (rowE_eds h1 hb).ok
theorem rowE_okS {h : Int} {row : List Int} (h1 : 1 ≤ h) (hb : ∀ l ∈ row, 1 ≤ l ∧ l ≤ h) {n : Nat} (hn : n = row.length + 1) : ∀ e ∈ sortE (rowE row), EdgeOk h n e := fun e m => rowE_okl h1 hb hn e ((sortE_perm _).mem_iff.mp m)
theorem q_ifHeld (T : Txt P K mg ζ) : CalX P w K mg base 12 "_law_told_if_held" (spF K fIfHeld) := by
  have cx_Ladder : MakX P w K mg base 2 "Ladder" ζ.Ladder (spInitS ζ.Ladder) := (ok_initS T).toX
  have cx_row_game : CalX P w K mg base 5 "row_game" (spF K (fRowG ζ.Game ζ.Ladder)) := q_rowG T
  have cx_row_edges : CalX P w K mg base 1 "_law_row_edges" (spF K fRowX2) := q_rowX2 T
  have cx_lw_climb : CalX P w K mg base 4 "_law_climb" (spF K fLwClimb) := q_lwclimb T
  have cx_due_game : CalX P w K mg base 6 "_law_due_game" (spF K (fDueG ζ.Game)) := q_dueG T
  have cx_told_at : CalX P w K mg base 11 "_law_told_at" (spF K (fToldAt ζ.Game ζ.Ladder)) := q_toldAt T
  have cx_held_at : CalX P w K mg base 6 "_law_held_at" (spF K (fHeldAt ζ.Ladder)) := q_heldAt T
  refine T.d_told_if_held.dl sc_told_if_held (by rintro as E Q ⟨h, ls, row, rfl, _⟩; rfl) (by decide) fun fa cdv A outer s H E hr => ⟨_, qss_cons (qs_setN (i := 4) false sc_told_if_held.nd rfl (Or.inl rfl) (qe_mkT cx_Ladder hr (by first | decide | omega) (takes_of rfl rfl rfl rfl) (by rfl) (qa_cons (qe_var (pv 0)) (qa_cons (qe_p (qp_callTy o_list call_list_of (by rfl) T.n_list b_list (qps_cons (qp_var (pv 1)) (qps_nil)))) (qa_nil))) (mk_Ladder_of T)))
 (qss_cons (qs_setN (i := 5) false sc_told_if_held.nd rfl (Or.inl rfl) (qe_p (qp_op op_addA o_add (qp_callB o_len c_len (by rfl) T.n_len b_len (qps_cons (qp_var (pv 2)) (qps_nil))) (qp_int))))
 (qss_cons (qs_setN (i := 6) false sc_told_if_held.nd rfl (Or.inl rfl) (qe_cT cx_row_game hr (by first | decide | omega) (takes_of rfl rfl rfl rfl) (by rfl) (qa_cons (qe_mkT cx_Ladder hr (by first | decide | omega) (takes_of rfl rfl rfl rfl) (by rfl) (qa_cons (qe_var (pv 0)) (qa_cons (qe_p (qp_callTy o_list call_list_of (by rfl) T.n_list b_list (qps_cons (qp_var (pv 2)) (qps_nil)))) (qa_nil))) (mk_Ladder_of T)) (qa_nil))))
 (qss_cons (qs_setN (i := 7) false sc_told_if_held.nd rfl (Or.inl rfl) (qe_cT cx_lw_climb hr (by first | decide | omega) (takes_of rfl rfl rfl rfl) (by rfl) (qa_cons (qe_p (qp_op op_mulA o_mul (qp_str) (qp_var (pv 5)))) (qa_cons (qe_cT cx_row_edges hr (by first | decide | omega) (takes_of rfl rfl rfl rfl) (by rfl) (qa_cons (qe_var (pv 2)) (qa_nil))) (qa_cons (qe_var (pv 1)) (qa_nil))))))
 (qss_cons (qs_if (qt_not (qt_truth (qe_cT cx_due_game hr (by first | decide | omega) (takes_of rfl rfl rfl rfl) (by rfl) (qa_cons (qe_var (pv 6)) (qa_cons (qe_var (pv 0)) (qa_cons (qe_p (qp_op op_mulA o_mul (qp_str) (qp_var (pv 5)))) (qa_cons (qe_var (pv 2)) (qa_nil))))))))
 (qss_one (qs_ret (qe_p (qp_bl))))
 (qss_nil))
 (qss_one (qs_ret (qe_and (qe_cT cx_told_at hr (by first | decide | omega) (takes_of rfl rfl rfl rfl) (by rfl) (qa_cons (qe_var (pv 6)) (qa_cons (qe_var (pv 4)) (qa_cons (qe_var (pv 7)) (qa_nil))))) (qe_one (qe_cT cx_held_at hr (by first | decide | omega) (takes_of rfl rfl rfl rfl) (by rfl) (qa_cons (qe_var (pv 4)) (qa_cons (qe_var (pv 1)) (qa_cons (qe_var (pv 2)) (qa_cons (qe_var (pv 7)) (qa_cons (qe_var (pv 3)) (qa_nil))))))))))))))), ?_⟩
  rintro as Ed Qd ⟨h, ls, row, rfl, hh, hb, hl, hz, hr1, q⟩
  have lb1 : ∀ l ∈ ls, 1 ≤ l := fun l m => (hb l m).1
  have rb1 : ∀ l ∈ row, 1 ≤ l := fun l m => (hr1 l m).1
  have al : (allB (row.length + 1)).length = row.length + 1 := allB_len
  have RL := rowE_len row
  have LF := row_least (ls := ls) lb1 rb1
  refine ⟨_, pN1 rfl rfl, h, false, ls, rfl, by omega, by omega, hb, ?_⟩
  refine ⟨nat (row.length + 1), p2_of (pN1 rfl rfl) rfl (some_nat (by rw [List.length_map]; omega)), ?_⟩
  refine ⟨_, pN1 rfl rfl, h, false, row, rfl, by omega, by omega, hr1, h, row, rfl, hh, by omega, hr1, ?_⟩
  refine ⟨.str (strO (allB (row.length + 1))), p2_of rfl rfl (mulB (by omega)), row, rfl, by omega, h, allB (row.length + 1), rowE row, false, ls, rfl, rowE_okl hh.1 hr1 al, lb1, by omega, by omega, by omega, fun φ Lf => ?_⟩
  obtain rfl := Lf.uniq LF
  refine ⟨.str (strO (allB (row.length + 1))), p2_of rfl rfl (mulB (by omega)), h, allB (row.length + 1), row, rfl, hh, by omega, by omega, hr1, true, rfl, (fun z => by cases z), fun _ => ?_⟩
  refine ⟨h, allB (row.length + 1), sortE (rowE row), ls, rowPl ls row, rfl, hh, by omega, by omega, rowE_okS hh.1 hr1 al, ?_, Lf.perm fun e => (sortE_perm _).mem_iff.symm, true, rfl, fun _ => ?_, fun z => by cases z⟩
  · rw [(sortE_perm _).length_eq]; omega
  exact ⟨h, ls, row, rfl, lb1, by omega, by omega, hr1, q⟩
def fGiven : Fs := fun as _ Q => ∃ (h : Int) (ls row : List Int) (v : Nat), as = [.d (.int h), .d (intL ls), .d (intL row), .d (nat v)] ∧ (1 ≤ h ∧ h ≤ 3) ∧ (∀ l ∈ ls, 1 ≤ l ∧ l ≤ h) ∧ ls.length ≤ 24 ∧ row.length ≤ 8 ∧ (∀ l ∈ row, 1 ≤ l ∧ l ≤ h) ∧ v ≤ row.length ∧ Q (.d (.bl true))
def oneL (n v : Nat) : List Bool := allB v ++ [true] ++ allB (n - v)
theorem oneL_len {n v : Nat} (h : v ≤ n) : (oneL n v).length = n + 1 := by
  unfold oneL allB
  rw [List.length_append, List.length_append, List.length_replicate, List.length_replicate, List.length_singleton]; omega
theorem allB_app {a b : Str} {x y : List Bool} (h1 : a = strO x) (h2 : b = strO y) (l : x.length + y.length ≤ 1000) : addD (.str a) (.str b) = some (.str (strO (x ++ y))) := by
  subst h1 h2
  show (if (strO x).length + (strO y).length ≤ 100000 then some (D.str (strO x ++ strO y)) else none) = _
  rw [strO_app, if_pos (by rw [strO_len, strO_len]; omega)]
theorem oneL_take {n v : Nat} (h : v ≤ n) : (allB (n + 1)).take v ++ [true] ++ (allB (n + 1)).drop (v + 1) = oneL n v := by
  unfold oneL allB
  rw [List.take_replicate, List.drop_replicate, Nat.min_eq_left (by omega), show n + 1 - (v + 1) = n - v by omega]
theorem q_given (T : Txt P K mg ζ) : CalX P w K mg base 12 "_law_given" (spF K fGiven) := by
  have cx_Ladder : MakX P w K mg base 2 "Ladder" ζ.Ladder (spInitS ζ.Ladder) := (ok_initS T).toX
  have cx_row_game : CalX P w K mg base 5 "row_game" (spF K (fRowG ζ.Game ζ.Ladder)) := q_rowG T
  have cx_row_edges : CalX P w K mg base 1 "_law_row_edges" (spF K fRowX2) := q_rowX2 T
  have cx_lw_climb : CalX P w K mg base 4 "_law_climb" (spF K fLwClimb) := q_lwclimb T
  have cx_due_game : CalX P w K mg base 6 "_law_due_game" (spF K (fDueG ζ.Game)) := q_dueG T
  have cx_told_at : CalX P w K mg base 11 "_law_told_at" (spF K (fToldAt ζ.Game ζ.Ladder)) := q_toldAt T
  have cx_G_with_owner : MetX P w K mg base 5 ζ.Game "with_owner" (spF K (fWithO ζ.Game)) := q_withO T
  refine T.d_given.dl sc_given (by rintro as E Q ⟨h, ls, row, v, rfl, _⟩; rfl) (by decide) fun fa cdv A outer s H E hr => ⟨_, qss_cons (qs_setN (i := 4) false sc_given.nd rfl (Or.inl rfl) (qe_p (qp_op op_addA o_add (qp_op op_addA o_add (qp_op op_mulA o_mul (qp_str) (qp_var (pv 3))) (qp_str)) (qp_op op_mulA o_mul (qp_str) (qp_op op_sub o_sub (qp_callB o_len c_len (by rfl) T.n_len b_len (qps_cons (qp_var (pv 2)) (qps_nil))) (qp_var (pv 3)))))))
 (qss_cons (qs_setN (i := 5) false sc_given.nd rfl (Or.inl rfl) (qe_mtT cx_G_with_owner hr (by first | decide | omega) (takes_of rfl rfl rfl rfl) (qe_cT cx_row_game hr (by first | decide | omega) (takes_of rfl rfl rfl rfl) (by rfl) (qa_cons (qe_mkT cx_Ladder hr (by first | decide | omega) (takes_of rfl rfl rfl rfl) (by rfl) (qa_cons (qe_var (pv 0)) (qa_cons (qe_p (qp_callTy o_list call_list_of (by rfl) T.n_list b_list (qps_cons (qp_var (pv 2)) (qps_nil)))) (qa_nil))) (mk_Ladder_of T)) (qa_nil))) (qa_cons (qe_var (pv 3)) (qa_cons (qe_p (qp_str)) (qa_nil)))))
 (qss_cons (qs_setN (i := 6) false sc_given.nd rfl (Or.inl rfl) (qe_cT cx_lw_climb hr (by first | decide | omega) (takes_of rfl rfl rfl rfl) (by rfl) (qa_cons (qe_var (pv 4)) (qa_cons (qe_cT cx_row_edges hr (by first | decide | omega) (takes_of rfl rfl rfl rfl) (by rfl) (qa_cons (qe_var (pv 2)) (qa_nil))) (qa_cons (qe_var (pv 1)) (qa_nil))))))
 (qss_cons (qs_if (QW.qt (qw_or (qt_not (qt_truth (qe_cT cx_due_game hr (by first | decide | omega) (takes_of rfl rfl rfl rfl) (by rfl) (qa_cons (qe_var (pv 5)) (qa_cons (qe_var (pv 0)) (qa_cons (qe_var (pv 4)) (qa_cons (qe_var (pv 2)) (qa_nil)))))))) (qw_or1 (qt_not (qt_truth (qe_cT cx_told_at hr (by first | decide | omega) (takes_of rfl rfl rfl rfl) (by rfl) (qa_cons (qe_var (pv 5)) (qa_cons (qe_mkT cx_Ladder hr (by first | decide | omega) (takes_of rfl rfl rfl rfl) (by rfl) (qa_cons (qe_var (pv 0)) (qa_cons (qe_p (qp_callTy o_list call_list_of (by rfl) T.n_list b_list (qps_cons (qp_var (pv 1)) (qps_nil)))) (qa_nil))) (mk_Ladder_of T)) (qa_cons (qe_var (pv 6)) (qa_nil))))))))))
 (qss_one (qs_ret (qe_p (qp_bl))))
 (qss_nil))
 (qss_cons (qs_setN (i := 7) false sc_given.nd rfl (Or.inl rfl) (qe_cT cx_lw_climb hr (by first | decide | omega) (takes_of rfl rfl rfl rfl) (by rfl) (qa_cons (qe_p (qp_op op_mulA o_mul (qp_str) (qp_op op_addA o_add (qp_callB o_len c_len (by rfl) T.n_len b_len (qps_cons (qp_var (pv 2)) (qps_nil))) (qp_int)))) (qa_cons (qe_cT cx_row_edges hr (by first | decide | omega) (takes_of rfl rfl rfl rfl) (by rfl) (qa_cons (qe_var (pv 2)) (qa_nil))) (qa_cons (qe_var (pv 1)) (qa_nil))))))
 (qss_cons (qs_for (vs := [8]) [8] (passes_of rfl) rfl (qi_range1 (by rfl) T.n_range (qe_p (qp_op op_addA o_add (qp_callB o_len c_len (by rfl) T.n_len b_len (qps_cons (qp_var (pv 2)) (qps_nil))) (qp_int)))) (qg_name (pg_name (i := 8) sc_given.nd rfl (Or.inl rfl)))
 (qss_one (qs_if (qt_p (qpt_cmp op_notN o_notN (qp_ix ix_A o_ix (qp_var (pv 7)) (qp_var (pv 8)) (fun _ _ => rfl)) (qp_non) (nomark _)))
 (qss_one (qs_if (qt_p (QPW.qpt (qpw_or (qpt_cmp op_isN o_isN (qp_ix ix_A o_ix (qp_var (pv 6)) (qp_var (pv 8)) (fun _ _ => rfl)) (qp_non) (nomark _)) (qpw_or1 (qpt_cmp op_gt o_cmp (qp_ix ix_A o_ix (qp_var (pv 6)) (qp_var (pv 8)) (fun _ _ => rfl)) (qp_ix ix_A o_ix (qp_var (pv 7)) (qp_var (pv 8)) (fun _ _ => rfl)) (nomark _))))))
 (qss_one (qs_ret (qe_p (qp_bl))))
 (qss_nil)))
 (qss_nil))))
 (qss_one (qs_ret (qe_p (qp_bl))))))))), ?_⟩
  rintro as Ed Qd ⟨h, ls, row, v, rfl, hh, hb, hl, hz, hr1, hv, q⟩
  have lb1 : ∀ l ∈ ls, 1 ≤ l := fun l m => (hb l m).1
  have rb1 : ∀ l ∈ row, 1 ≤ l := fun l m => (hr1 l m).1
  have al : (allB (row.length + 1)).length = row.length + 1 := allB_len
  have ol := oneL_len hv
  have RL := rowE_len row
  have LF := row_least (ls := ls) lb1 rb1
  have ea : addD (.str (strO (allB v))) (.str (Str.ofString "A")) = some (.str (strO (allB v ++ [true]))) := allB_app rfl oneA (by rw [allB_len, List.length_singleton]; omega)
  have eb : addD (.str (strO (allB v ++ [true]))) (.str (strO (allB (row.length - v)))) = some (.str (strO (oneL row.length v))) := allB_app rfl rfl (by rw [List.length_append, allB_len, allB_len, List.length_singleton]; omega)
  have es : subD (.int ((row.map D.int).length : Nat)) (nat v) = some (nat (row.length - v)) := by
    show some (D.int (((row.map D.int).length : Int) - v)) = _
    rw [List.length_map]; exact some_nat (by omega)
  refine ⟨.str (strO (oneL row.length v)), p2_of (p2_of (p2_of rfl rfl (mulB (by omega))) rfl ea) (p2_of rfl (p2_of (pN1 rfl rfl) rfl es) (mulB (by omega))) eb, ?_⟩
  refine ⟨_, pN1 rfl rfl, h, false, row, rfl, by omega, by omega, hr1, h, row, rfl, hh, by omega, hr1, ?_⟩
  refine ⟨_, _, rfl, rfl, .str (strO [true]), congrArg (fun z => some (D.str z)) oneA, h, allB (row.length + 1), sortE (rowE row), rowE row, v, true, rfl, sortE_perm _, hh, by omega, by omega, ?_, rowE_okS hh.1 hr1 al, ?_, fun u hu => ?_, ?_⟩
  · rw [(sortE_perm _).length_eq]; omega
  · exact (sortE_perm _).nodup_iff.mpr (rowE_eds hh.1 hr1).nd
  · obtain ⟨e, m, k⟩ := rowE_head hh.1 hr1 u (by omega)
    exact ⟨e, (sortE_perm _).mem_iff.mpr m, k⟩
  rw [oneL_take hv]
  refine ⟨row, rfl, by omega, h, oneL row.length v, rowE row, false, ls, rfl, rowE_okl hh.1 hr1 ol, lb1, by omega, by omega, by omega, fun φ Lf => ?_⟩
  refine ⟨h, oneL row.length v, row, rfl, hh, by omega, by omega, hr1, true, rfl, (fun z => by cases z), fun _ => ?_⟩
  refine ⟨_, pN1 rfl rfl, h, false, ls, rfl, by omega, by omega, hb, ?_⟩
  refine ⟨h, oneL row.length v, sortE (rowE row), ls, φ, rfl, hh, by omega, by omega, rowE_okS hh.1 hr1 ol, ?_, Lf.perm fun e => (sortE_perm _).mem_iff.symm, true, rfl, (fun z => by cases z), fun _ => ?_⟩
  · rw [(sortE_perm _).length_eq]; omega
  refine ⟨.str (strO (allB (row.length + 1))), p2_of rfl (p2_of (pN1 rfl rfl) rfl (some_nat (by rw [List.length_map]; omega))) (mulB (by omega)), row, rfl, by omega, h, allB (row.length + 1), rowE row, false, ls, rfl, rowE_okl hh.1 hr1 al, lb1, by omega, by omega, by omega, fun ψ Lb => ?_⟩
  have le : PLe φ ψ := least_more (by omega) (fun u hu => by rw [allB_at] at hu; cases hu) (fun u hu => rowE_out row u (by omega)) Lb Lf
  have pl : φ.length = row.length + 1 := by rw [Lf.ok.len, ol]
  have ql : ψ.length = row.length + 1 := by rw [Lb.ok.len, al]
  refine ⟨nat (row.length + 1), p2_of (pN1 rfl rfl) rfl (some_nat (by rw [List.length_map]; omega)), ⟨by omega, by omega⟩, fun i e => e = [.d (.int h), .d (intL ls), .d (intL row), .d (nat v), .d (.str (strO (oneL row.length v))), .d (gameD ζ.Game h (oneL row.length v) (sortE (rowE row))), .d (plcD φ), .d (plcD ψ), .any], rfl, ?_, ?_⟩
  · rintro i x e ex rfl
    obtain ⟨hi, rfl⟩ := rg_get ex
    rw [Int.toNat_natCast] at hi
    have a1 := plc_at (φ := φ) (v := i) (by omega)
    have a2 := plc_at (φ := ψ) (v := i) (by omega)
    have le := le i
    cases cb : ψ.getD i none with
    | none =>
      rw [cb] at a2
      exact ⟨false, p2_of (p2_of rfl rfl a2) rfl rfl, (fun z => by cases z), fun _ => rfl⟩
    | some t =>
      rw [cb] at a2 le
      obtain ⟨s, e1, st⟩ := ple_some le
      rw [e1] at a1
      refine ⟨true, p2_of (p2_of rfl rfl a2) rfl rfl, fun _ => ?_, fun z => by cases z⟩
      refine ⟨false, por_of (a := false) (b := false) (p2_of (p2_of rfl rfl a1) rfl rfl) (fun _ => p2_of (p2_of rfl rfl a1) (p2_of rfl rfl a2) ?_) (fun z => by cases z), (fun z => by cases z), fun _ => rfl⟩
      show some (D.bl (decide ((t : Int) < s))) = _
      rw [decide_eq_false (by omega)]
  · rintro e rfl
    exact ⟨_, rfl, q⟩
end
end LR
set_option Elab.async false
set_option maxRecDepth 100000
set_option linter.all false
set_option maxHeartbeats 4000000
namespace LR
open PySem PySem.Spec PyProof.Rows L2
section
variable {P : Program} {w : World} {K : PySem.W.Frag} {mg : Str → Option Value} {base : Heap} {ζ : Cs}
theorem intR (l : List Int) : revLD (intL l) = some (intL l.reverse) := by
  show some (D.lst (l.map D.int).reverse) = _
  rw [← List.map_reverse]
abbrev lawLevel : Nat := 13
theorem ok_law (T : Txt P K mg ζ) {f : Addr} {fd : FuncData} (F : Fun K "law" "law" s_law f fd) : FnOk P w K mg base CX0 13 f fd ["script"] (spLaw K) := by
  have cx_pool : CalX P w K mg base 1 "_law_pool" (spF K fPool) := q_pool T
  have cx_draw : CalX P w K mg base 1 "_law_draw" (spF K fDraw) := q_draw T
  have cx_levels : CalX P w K mg base 2 "_law_levels" (spF K fLevels) := q_levels T
  have cx_any_row : CalX P w K mg base 3 "_law_any_row" (spF K fAnyRow) := q_anyRow T
  have cx_last_steps : CalX P w K mg base 2 "_law_last_steps" (spF K fLastS) := q_lastS T
  have cx_told_if_held : CalX P w K mg base 12 "_law_told_if_held" (spF K fIfHeld) := q_ifHeld T
  have cx_lw_climb : CalX P w K mg base 4 "_law_climb" (spF K fLwClimb) := q_lwclimb T
  have cx_row_edges : CalX P w K mg base 1 "_law_row_edges" (spF K fRowX2) := q_rowX2 T
  have cx_given : CalX P w K mg base 12 "_law_given" (spF K fGiven) := q_given T
  refine law_dl F sc_law (by decide) fun cdv A outer s H E hr => ⟨_, qss_cons (qs_setN (i := 1) false sc_law.nd rfl (Or.inl rfl) (qe_cT cx_pool hr (by first | decide | omega) takes0 (by rfl) (qa_cons (qe_var (pv 0)) (qa_cons (qe_p (qp_int)) (qa_nil)))))
 (qss_cons (qs_setN (i := 2) false sc_law.nd rfl (Or.inl rfl) (qe_op op_addA o_add (qe_p (qp_int)) (qe_cT cx_draw hr (by first | decide | omega) takes0 (by rfl) (qa_cons (qe_var (pv 1)) (qa_cons (qe_p (qp_int)) (qa_nil))))))
 (qss_cons (qs_setN (i := 3) false sc_law.nd rfl (Or.inl rfl) (qe_p (qp_int)))
 (qss_cut (qs_if (qt_cmp (op_eqD hr.units) o_eq (qe_cT cx_draw hr (by first | decide | omega) takes0 (by rfl) (qa_cons (qe_var (pv 1)) (qa_cons (qe_p (qp_int)) (qa_nil)))) (qe_p (qp_int)) (nomark _))
 (qss_one (qs_setN (i := 3) false sc_law.nd rfl (Or.inl rfl) (qe_p (qp_int))))
 (qss_nil))
 (qss_cons (qs_setN (i := 4) false sc_law.nd rfl (Or.inl rfl) (qe_cT cx_levels hr (by first | decide | omega) takes0 (by rfl) (qa_cons (qe_var (pv 1)) (qa_cons (qe_var (pv 2)) (qa_cons (qe_var (pv 3)) (qa_nil))))))
 (qss_cut (qs_setN (i := 5) false sc_law.nd rfl (Or.inl rfl) (qe_cT cx_any_row hr (by first | decide | omega) takes0 (by rfl) (qa_cons (qe_cT cx_pool hr (by first | decide | omega) takes0 (by rfl) (qa_cons (qe_var (pv 0)) (qa_cons (qe_p (qp_int)) (qa_nil)))) (qa_cons (qe_var (pv 2)) (qa_cons (qe_var (pv 4)) (qa_nil))))))
 (qss_cons (qs_setN (i := 6) false sc_law.nd rfl (Or.inl rfl) (qe_cT cx_last_steps hr (by first | decide | omega) takes0 (by rfl) (qa_cons (qe_var (pv 4)) (qa_cons (qe_var (pv 5)) (qa_nil)))))
 (qss_cons (qs_setN (i := 7) false sc_law.nd rfl (Or.inl rfl) (qe_cT cx_last_steps hr (by first | decide | omega) takes0 (by rfl) (qa_cons (qe_p (qp_revL (qp_var (pv 4)))) (qa_cons (qe_p (qp_revL (qp_var (pv 5)))) (qa_nil)))))
 (qss_cut (qs_if (qt_not (qt_truth (qe_cT cx_told_if_held hr (by first | decide | omega) takes0 (by rfl) (qa_cons (qe_var (pv 2)) (qa_cons (qe_var (pv 4)) (qa_cons (qe_var (pv 5)) (qa_cons (qe_var (pv 6)) (qa_nil))))))))
 (qss_one (qs_ret (qe_p (qp_bl))))
 (qss_nil))
 (qss_cut (qs_if (qt_not (qt_truth (qe_cT cx_told_if_held hr (by first | decide | omega) takes0 (by rfl) (qa_cons (qe_var (pv 2)) (qa_cons (qe_p (qp_revL (qp_var (pv 4)))) (qa_cons (qe_p (qp_revL (qp_var (pv 5)))) (qa_cons (qe_var (pv 7)) (qa_nil))))))))
 (qss_one (qs_ret (qe_p (qp_bl))))
 (qss_nil))
 (qss_cut (qs_if (qt_p (qpt_cmp op_gt o_cmp (qp_callB o_len c_len (by rfl) T.n_len b_len (qps_cons (qp_var (pv 6)) (qps_nil))) (qp_int) (nomark _)))
 (qss_cons (qs_setN (i := 8) false sc_law.nd rfl (Or.inl rfl) (qe_ix ix_A o_ix (qe_cT cx_lw_climb hr (by first | decide | omega) takes0 (by rfl) (qa_cons (qe_p (qp_op op_mulA o_mul (qp_str) (qp_op op_addA o_add (qp_callB o_len c_len (by rfl) T.n_len b_len (qps_cons (qp_var (pv 5)) (qps_nil))) (qp_int)))) (qa_cons (qe_cT cx_row_edges hr (by first | decide | omega) takes0 (by rfl) (qa_cons (qe_p (qp_revL (qp_var (pv 5)))) (qa_nil))) (qa_cons (qe_p (qp_revL (qp_var (pv 4)))) (qa_nil))))) (qe_p (qp_int)) (fun _ _ => rfl)))
 (qss_one (qs_if (qt_p (QPW.qpt (qpw_or (qpt_cmp op_isN o_isN (qp_var (pv 8)) (qp_non) (nomark _)) (qpw_or1 (qpt_cmp (op_neD hr.units) o_ne (qp_op op_sub o_sub (qp_callB o_len c_len (by rfl) T.n_len b_len (qps_cons (qp_var (pv 4)) (qps_nil))) (qp_var (pv 8))) (qp_ix ix_A o_ix (qp_var (pv 6)) (qp_op op_sub o_sub (qp_callB o_len c_len (by rfl) T.n_len b_len (qps_cons (qp_var (pv 6)) (qps_nil))) (qp_int)) (fun _ _ => rfl)) (nomark _))))))
 (qss_one (qs_ret (qe_p (qp_bl))))
 (qss_nil))))
 (qss_one (qs_if (qt_p (qpt_cmp op_gt o_cmp (qp_callB o_len c_len (by rfl) T.n_len b_len (qps_cons (qp_var (pv 7)) (qps_nil))) (qp_int) (nomark _)))
 (qss_one (qs_ret (qe_p (qp_bl))))
 (qss_nil))))
 (qss_one (qs_ret (qe_cT cx_given hr (by first | decide | omega) takes0 (by rfl) (qa_cons (qe_var (pv 2)) (qa_cons (qe_var (pv 4)) (qa_cons (qe_var (pv 5)) (qa_cons (qe_cT cx_draw hr (by first | decide | omega) takes0 (by rfl) (qa_cons (qe_cT cx_pool hr (by first | decide | omega) takes0 (by rfl) (qa_cons (qe_var (pv 0)) (qa_cons (qe_p (qp_int)) (qa_nil)))) (qa_cons (qe_p (qp_op op_addA o_add (qp_callB o_len c_len (by rfl) T.n_len b_len (qps_cons (qp_var (pv 5)) (qps_nil))) (qp_int))) (qa_nil)))) (qa_nil)))))))))))))))))), ?_⟩
  intro ns
  refine ⟨_, rfl, ns, 0, rfl, ?_⟩
  refine ⟨_, rfl, _, rfl, 3, rfl, by decide, by decide, fun h0 a0 a1 => ⟨_, rfl, ?_⟩⟩
  obtain ⟨h, eh, hh⟩ : ∃ h : Int, 1 + h0 = h ∧ (1 ≤ h ∧ h ≤ 3) := ⟨_, rfl, by omega⟩
  rw [eh]
  refine ⟨_, rfl, fun e => ∃ lim : Int, (7 ≤ lim ∧ lim ≤ 24) ∧ e = [.scr ns, .pool, .d (.int h), .d (.int lim), .any, .any, .any, .any, .any], ?_, ?_⟩
  · refine ⟨_, rfl, 16, rfl, by decide, by decide, fun v v0 v1 => ⟨_, rfl, _, rfl, _, rfl, fun z => ⟨_, rfl, 24, by omega, rfl⟩, fun z => ⟨7, by omega, rfl⟩⟩⟩
  rintro e ⟨lim, lm, rfl⟩
  refine ⟨h, lim, rfl, by omega, by omega, fun ls ll lb => ?_⟩
  have l24 : ls.length ≤ 24 := by omega
  have lb1 : ∀ l ∈ ls, 1 ≤ l := fun l m => (lb l m).1
  have llen : lenD [intL ls] = some (nat ls.length) := some_nat (by rw [List.length_map])
  refine ⟨fun e => ∃ row : List Int, row.length ≤ 8 ∧ (∀ l ∈ row, 1 ≤ l ∧ l ≤ h) ∧ e = [.scr ns, .pool, .d (.int h), .d (.int lim), .d (intL ls), .d (intL row), .any, .any, .any], ?_, ?_⟩
  · exact ⟨_, rfl, ns, 1, rfl, h, ls, rfl, hh, lb, l24, fun row a b => ⟨⟨row, a, b, rfl⟩, ⟨row, a, b, rfl⟩⟩⟩
  rintro e ⟨row, rl, rb, rfl⟩
  have rlen : lenD [intL row] = some (nat row.length) := some_nat (by rw [List.length_map])
  have rb1 : ∀ l ∈ row, 1 ≤ l := fun l m => (rb l m).1
  have lbr : ∀ l ∈ ls.reverse, 1 ≤ l ∧ l ≤ h := fun l m => lb l (List.mem_reverse.mp m)
  have rbr : ∀ l ∈ row.reverse, 1 ≤ l ∧ l ≤ h := fun l m => rb l (List.mem_reverse.mp m)
  have lrl : ls.reverse.length = ls.length := List.length_reverse
  have rrl : row.reverse.length = row.length := List.length_reverse
  refine ⟨ls, false, row, rfl, lb1, by omega, ?_⟩
  refine ⟨_, p1_of rfl (intR ls), _, p1_of rfl (intR row), ls.reverse, false, row.reverse, rfl, fun l m => (lbr l m).1, by omega, ?_⟩
  let E : List Ev := [.scr ns, .pool, .d (.int h), .d (.int lim), .d (intL ls), .d (intL row), .d (natL (fw ls row)), .d (natL (fw ls.reverse row.reverse)), .any]
  refine ⟨fun e => e = E, ?_, ?_⟩
  · exact ⟨h, ls, row, rfl, hh, lb, l24, rl, rb, true, rfl, (fun z => by cases z), fun _ => rfl⟩
  rintro e rfl
  refine ⟨fun e => e = E, ?_, ?_⟩
  · exact ⟨_, p1_of rfl (intR ls), _, p1_of rfl (intR row), h, ls.reverse, row.reverse, rfl, hh, lbr, by omega, by omega, rbr, true, rfl, (fun z => by cases z), fun _ => rfl⟩
  rintro e rfl
  refine ⟨fun e => ∃ x : Ev, e = [.scr ns, .pool, .d (.int h), .d (.int lim), .d (intL ls), .d (intL row), .d (natL (fw ls row)), .d (natL (fw ls.reverse row.reverse)), x], ?_, ?_⟩
  · refine ⟨_, p2_of (pN1 rfl (natL_len _)) rfl rfl, fun z => ?_, fun z => ?_⟩
    · have z := of_decide_eq_true z
      have ne : fw ls row ≠ [] := fun c => by rw [c] at z; exact absurd z (by decide)
      have al : (allB (row.length + 1)).length = row.length + 1 := allB_len
      have alr : (allB (row.length + 1)).length = row.reverse.length + 1 := by rw [al, rrl]
      obtain ⟨s, e1, e2, e3⟩ := fw_last lb1 ne
      refine ⟨.str (strO (allB (row.length + 1))), p2_of rfl (p2_of (pN1 rfl rlen) rfl (some_nat (by omega))) (mulB (by omega)), _, p1_of rfl (intR row), row.reverse, rfl, by omega, _, p1_of rfl (intR ls), h, allB (row.length + 1), rowE row.reverse, false, ls.reverse, rfl, rowE_okl hh.1 rbr alr, fun l m => (lbr l m).1, by omega, by omega, ?_, fun φ Lf => ?_⟩
      · have := rowE_len row.reverse; omega
      have LF := row_least (ls := ls.reverse) (row := row.reverse) (fun l m => (lbr l m).1) (fun l m => (rbr l m).1)
      rw [rrl] at LF
      obtain rfl := Lf.uniq LF
      have l0 : least ls.reverse row.reverse ≠ [] := fun c => by rw [c] at e1; cases e1
      have ep : rowPl ls.reverse row.reverse = onP (least ls.reverse row.reverse) := by unfold rowPl; rw [if_neg l0]
      rw [ep]
      have ix : ixD (natL (least ls.reverse row.reverse)) (.int 0) = some (nat s) := atI_of (k := 0) (by rw [List.getElem?_map, e1]; rfl)
      have p0 : 0 < (fw ls row).length := List.length_pos_iff.mpr ne
      refine ⟨_, rfl, nat s, (by rw [show (Ow.ls (List.map optN (onP (least ls.reverse row.reverse)))).d = natL _ from onP_plcD _]; exact ix), ?_⟩
      refine ⟨false, por_of (a := false) (b := false) (p2_of rfl rfl rfl) (fun _ => p2_of (p2_of (pN1 rfl llen) rfl rfl) (p2_of rfl (p2_of (pN1 rfl (natL_len _)) rfl rfl) (natL_at (k := (fw ls row).length - 1) (by omega) (by omega))) ?_) (fun z => by cases z), (fun z => by cases z), fun _ => ⟨_, rfl⟩⟩
      rw [List.getD_eq_getElem?_getD, e3]
      show notO (some (D.bl (decide ((ls.length : Int) - s = ((ls.length - s : Nat) : Int))))) = _
      rw [decide_eq_true (by omega)]; rfl
    · refine ⟨false, p2_of (pN1 rfl (natL_len _)) rfl ?_, (fun z => by cases z), fun _ => ⟨_, rfl⟩⟩
      have z := of_decide_eq_false z
      have e0 : fw ls row = [] := List.length_eq_zero_iff.mp (by omega)
      rw [fw_rev lb1 e0]; rfl
  rintro e ⟨x, rfl⟩
  refine ⟨_, rfl, ns, 2, rfl, nat (row.length + 1), p2_of (pN1 rfl rlen) rfl (some_nat (by omega)), _, rfl, by omega, by omega, fun v v0 v1 => ?_⟩
  obtain ⟨k, rfl⟩ : ∃ k : Nat, v = (k : Int) := ⟨v.toNat, by omega⟩
  exact ⟨h, ls, row, k, rfl, hh, lb, l24, rl, rb, by omega, rfl⟩
end
end LR
set_option Elab.async false
set_option maxRecDepth 100000
set_option linter.all false
set_option maxHeartbeats 4000000
namespace LR
open PySem PySem.Spec PyProof.Rows L2
theorem all_mk {P : Program} {K : PySem.W.Frag} {h : Heap} {mg : Str → Option Value} (X : K.In h) (G : h.Ns mainGlobals mg)
    {od_check_height an_check_height : Option Addr} {sl_check_height : Array (Option Value)} {oc_check_height kV_check_height dc_check_height pm_check_height ct_check_height : Value} {f_check_height : Addr} {cd_check_height : Value} {od_check_same_height an_check_same_height : Option Addr} {sl_check_same_height : Array (Option Value)} {oc_check_same_height kV_check_same_height dc_check_same_height pm_check_same_height ct_check_same_height : Value} {f_check_same_height : Addr} {cd_check_same_height : Value} {od_check_node an_check_node : Option Addr} {sl_check_node : Array (Option Value)} {oc_check_node kV_check_node dc_check_node pm_check_node ct_check_node : Value} {f_check_node : Addr} {cd_check_node : Value} {od_check_step an_check_step : Option Addr} {sl_check_step : Array (Option Value)} {oc_check_step kV_check_step dc_check_step pm_check_step ct_check_step : Value} {f_check_step : Addr} {cd_check_step : Value} {od_check_rank an_check_rank : Option Addr} {sl_check_rank : Array (Option Value)} {oc_check_rank kV_check_rank dc_check_rank pm_check_rank ct_check_rank : Value} {f_check_rank : Addr} {cd_check_rank : Value} {od_check_row an_check_row : Option Addr} {sl_check_row : Array (Option Value)} {oc_check_row kV_check_row dc_check_row pm_check_row ct_check_row : Value} {f_check_row : Addr} {cd_check_row : Value} {od_check_placement an_check_placement : Option Addr} {sl_check_placement : Array (Option Value)} {oc_check_placement kV_check_placement dc_check_placement pm_check_placement ct_check_placement : Value} {f_check_placement : Addr} {cd_check_placement : Value} {od_is_allowed an_is_allowed : Option Addr} {sl_is_allowed : Array (Option Value)} {oc_is_allowed kV_is_allowed dc_is_allowed pm_is_allowed ct_is_allowed : Value} {f_is_allowed : Addr} {cd_is_allowed : Value} {od_is_fitting an_is_fitting : Option Addr} {sl_is_fitting : Array (Option Value)} {oc_is_fitting kV_is_fitting dc_is_fitting pm_is_fitting ct_is_fitting : Value} {f_is_fitting : Addr} {cd_is_fitting : Value} {od_misfits an_misfits : Option Addr} {sl_misfits : Array (Option Value)} {oc_misfits kV_misfits dc_misfits pm_misfits ct_misfits : Value} {f_misfits : Addr} {cd_misfits : Value} {od_lift an_lift : Option Addr} {sl_lift : Array (Option Value)} {oc_lift kV_lift dc_lift pm_lift ct_lift : Value} {f_lift : Addr} {cd_lift : Value} {od_climb an_climb : Option Addr} {sl_climb : Array (Option Value)} {oc_climb kV_climb dc_climb pm_climb ct_climb : Value} {f_climb : Addr} {cd_climb : Value} {od_told_nodes an_told_nodes : Option Addr} {sl_told_nodes : Array (Option Value)} {oc_told_nodes kV_told_nodes dc_told_nodes pm_told_nodes ct_told_nodes : Value} {f_told_nodes : Addr} {cd_told_nodes : Value} {od_check_count an_check_count : Option Addr} {sl_check_count : Array (Option Value)} {oc_check_count kV_check_count dc_check_count pm_check_count ct_check_count : Value} {f_check_count : Addr} {cd_check_count : Value} {od__check_edges an__check_edges : Option Addr} {sl__check_edges : Array (Option Value)} {oc__check_edges kV__check_edges dc__check_edges pm__check_edges ct__check_edges : Value} {f__check_edges : Addr} {cd__check_edges : Value} {od__check_owners an__check_owners : Option Addr} {sl__check_owners : Array (Option Value)} {oc__check_owners kV__check_owners dc__check_owners pm__check_owners ct__check_owners : Value} {f__check_owners : Addr} {cd__check_owners : Value} {od__check_dead_ends an__check_dead_ends : Option Addr} {sl__check_dead_ends : Array (Option Value)} {oc__check_dead_ends kV__check_dead_ends dc__check_dead_ends pm__check_dead_ends ct__check_dead_ends : Value} {f__check_dead_ends : Addr} {cd__check_dead_ends : Value} {od__counts_from an__counts_from : Option Addr} {sl__counts_from : Array (Option Value)} {oc__counts_from kV__counts_from dc__counts_from pm__counts_from ct__counts_from : Value} {f__counts_from : Addr} {cd__counts_from : Value} {od_next_marks an_next_marks : Option Addr} {sl_next_marks : Array (Option Value)} {oc_next_marks kV_next_marks dc_next_marks pm_next_marks ct_next_marks : Value} {f_next_marks : Addr} {cd_next_marks : Value} {od_last_marks an_last_marks : Option Addr} {sl_last_marks : Array (Option Value)} {oc_last_marks kV_last_marks dc_last_marks pm_last_marks ct_last_marks : Value} {f_last_marks : Addr} {cd_last_marks : Value} {od_holds an_holds : Option Addr} {sl_holds : Array (Option Value)} {oc_holds kV_holds dc_holds pm_holds ct_holds : Value} {f_holds : Addr} {cd_holds : Value} {od_ends an_ends : Option Addr} {sl_ends : Array (Option Value)} {oc_ends kV_ends dc_ends pm_ends ct_ends : Value} {f_ends : Addr} {cd_ends : Value} {od_hold an_hold : Option Addr} {sl_hold : Array (Option Value)} {oc_hold kV_hold dc_hold pm_hold ct_hold : Value} {f_hold : Addr} {cd_hold : Value} {od__marks_from_the_back an__marks_from_the_back : Option Addr} {sl__marks_from_the_back : Array (Option Value)} {oc__marks_from_the_back kV__marks_from_the_back dc__marks_from_the_back pm__marks_from_the_back ct__marks_from_the_back : Value} {f__marks_from_the_back : Addr} {cd__marks_from_the_back : Value} {od__next_step an__next_step : Option Addr} {sl__next_step : Array (Option Value)} {oc__next_step kV__next_step dc__next_step pm__next_step ct__next_step : Value} {f__next_step : Addr} {cd__next_step : Value} {od_row_game an_row_game : Option Addr} {sl_row_game : Array (Option Value)} {oc_row_game kV_row_game dc_row_game pm_row_game ct_row_game : Value} {f_row_game : Addr} {cd_row_game : Value} {od_pool an_pool : Option Addr} {sl_pool : Array (Option Value)} {oc_pool kV_pool dc_pool pm_pool ct_pool : Value} {f_pool : Addr} {cd_pool : Value} {od_draw an_draw : Option Addr} {sl_draw : Array (Option Value)} {oc_draw kV_draw dc_draw pm_draw ct_draw : Value} {f_draw : Addr} {cd_draw : Value} {od_levels an_levels : Option Addr} {sl_levels : Array (Option Value)} {oc_levels kV_levels dc_levels pm_levels ct_levels : Value} {f_levels : Addr} {cd_levels : Value} {od_row_edges an_row_edges : Option Addr} {sl_row_edges : Array (Option Value)} {oc_row_edges kV_row_edges dc_row_edges pm_row_edges ct_row_edges : Value} {f_row_edges : Addr} {cd_row_edges : Value} {od_number an_number : Option Addr} {sl_number : Array (Option Value)} {oc_number kV_number dc_number pm_number ct_number : Value} {f_number : Addr} {cd_number : Value} {od_same an_same : Option Addr} {sl_same : Array (Option Value)} {oc_same kV_same dc_same pm_same ct_same : Value} {f_same : Addr} {cd_same : Value} {od_gap an_gap : Option Addr} {sl_gap : Array (Option Value)} {oc_gap kV_gap dc_gap pm_gap ct_gap : Value} {f_gap : Addr} {cd_gap : Value} {od_allows an_allows : Option Addr} {sl_allows : Array (Option Value)} {oc_allows kV_allows dc_allows pm_allows ct_allows : Value} {f_allows : Addr} {cd_allows : Value} {od_last_steps an_last_steps : Option Addr} {sl_last_steps : Array (Option Value)} {oc_last_steps kV_last_steps dc_last_steps pm_last_steps ct_last_steps : Value} {f_last_steps : Addr} {cd_last_steps : Value} {od_fits an_fits : Option Addr} {sl_fits : Array (Option Value)} {oc_fits kV_fits dc_fits pm_fits ct_fits : Value} {f_fits : Addr} {cd_fits : Value} {od_lw_climb an_lw_climb : Option Addr} {sl_lw_climb : Array (Option Value)} {oc_lw_climb kV_lw_climb dc_lw_climb pm_lw_climb ct_lw_climb : Value} {f_lw_climb : Addr} {cd_lw_climb : Value} {od_gaps an_gaps : Option Addr} {sl_gaps : Array (Option Value)} {oc_gaps kV_gaps dc_gaps pm_gaps ct_gaps : Value} {f_gaps : Addr} {cd_gaps : Value} {od_any_row an_any_row : Option Addr} {sl_any_row : Array (Option Value)} {oc_any_row kV_any_row dc_any_row pm_any_row ct_any_row : Value} {f_any_row : Addr} {cd_any_row : Value} {od_due_game an_due_game : Option Addr} {sl_due_game : Array (Option Value)} {oc_due_game kV_due_game dc_due_game pm_due_game ct_due_game : Value} {f_due_game : Addr} {cd_due_game : Value} {od_told_at an_told_at : Option Addr} {sl_told_at : Array (Option Value)} {oc_told_at kV_told_at dc_told_at pm_told_at ct_told_at : Value} {f_told_at : Addr} {cd_told_at : Value} {od_held_at an_held_at : Option Addr} {sl_held_at : Array (Option Value)} {oc_held_at kV_held_at dc_held_at pm_held_at ct_held_at : Value} {f_held_at : Addr} {cd_held_at : Value} {od_told_if_held an_told_if_held : Option Addr} {sl_told_if_held : Array (Option Value)} {oc_told_if_held kV_told_if_held dc_told_if_held pm_told_if_held ct_told_if_held : Value} {f_told_if_held : Addr} {cd_told_if_held : Value} {od_given an_given : Option Addr} {sl_given : Array (Option Value)} {oc_given kV_given dc_given pm_given ct_given : Value} {f_given : Addr} {cd_given : Value} {od_law an_law : Option Addr} {sl_law : Array (Option Value)} {oc_law kV_law dc_law pm_law ct_law : Value} {f_law : Addr} {cd_law : Value} {od_lifts an_lifts : Option Addr} {sl_lifts : Array (Option Value)} {oc_lifts dc_lifts pm_lifts ct_lifts : Value} {f_lifts : Addr} {cd_lifts : Value} {kd_lifts : Addr} {C_Web : Addr} {od_W_init an_W_init : Option Addr} {sl_W_init : Array (Option Value)} {oc_W_init kV_W_init dc_W_init pm_W_init ct_W_init : Value} {f_W_init : Addr} {cd_W_init : Value} {od_W_out an_W_out : Option Addr} {sl_W_out : Array (Option Value)} {oc_W_out kV_W_out dc_W_out pm_W_out ct_W_out : Value} {f_W_out : Addr} {cd_W_out : Value} {u_Web_MOST_NODES : Value} {u_Web_MOST_EDGES : Value} {C_Game : Addr} {od_G_init an_G_init : Option Addr} {sl_G_init : Array (Option Value)} {oc_G_init kV_G_init dc_G_init pm_G_init ct_G_init : Value} {f_G_init : Addr} {cda_G_init cc_G_init : Addr} {ccl_G_init : Value} {cdd_G_init : Option Addr} {cvs_G_init : Array Value} {ccs_G_init : Array (Option Value)} {cfi_G_init : Str} {ctf_G_init : Tok} {ecl_G_init : Value} {eld_G_init : Option Addr} {esl_G_init : Array (Option Value)} {od_G_out an_G_out : Option Addr} {sl_G_out : Array (Option Value)} {oc_G_out kV_G_out dc_G_out pm_G_out ct_G_out : Value} {f_G_out : Addr} {cda_G_out cc_G_out : Addr} {ccl_G_out : Value} {cdd_G_out : Option Addr} {cvs_G_out : Array Value} {ccs_G_out : Array (Option Value)} {cfi_G_out : Str} {ctf_G_out : Tok} {ecl_G_out : Value} {eld_G_out : Option Addr} {esl_G_out : Array (Option Value)} {od_G_with_owner an_G_with_owner : Option Addr} {sl_G_with_owner : Array (Option Value)} {oc_G_with_owner kV_G_with_owner dc_G_with_owner pm_G_with_owner ct_G_with_owner : Value} {f_G_with_owner : Addr} {cd_G_with_owner : Value} {C_Ladder : Addr} {od_L_init an_L_init : Option Addr} {sl_L_init : Array (Option Value)} {oc_L_init kV_L_init dc_L_init pm_L_init ct_L_init : Value} {f_L_init : Addr} {cd_L_init : Value} {od_L_allows an_L_allows : Option Addr} {sl_L_allows : Array (Option Value)} {oc_L_allows kV_L_allows dc_L_allows pm_L_allows ct_L_allows : Value} {f_L_allows : Addr} {cd_L_allows : Value} {od_Llets an_Llets : Option Addr} {sl_Llets : Array (Option Value)} {oc_Llets kV_Llets dc_Llets pm_Llets ct_Llets : Value} {f_Llets : Addr} {cd_Llets : Value} {od_L_gap an_L_gap : Option Addr} {sl_L_gap : Array (Option Value)} {oc_L_gap kV_L_gap dc_L_gap pm_L_gap ct_L_gap : Value} {f_L_gap : Addr} {cd_L_gap : Value} {od_L_contains an_L_contains : Option Addr} {sl_L_contains : Array (Option Value)} {oc_L_contains kV_L_contains dc_L_contains pm_L_contains ct_L_contains : Value} {f_L_contains : Addr} {cd_L_contains : Value} {u_Ladder_MOST_LEVELS : Value} {C_NoSuchNode : Addr} {nm_NoSuchNode qn_NoSuchNode : Str} {ns_NoSuchNode : Addr} {bs_NoSuchNode bm_NoSuchNode sb_NoSuchNode : List Value} {sn_NoSuchNode : List Str} {ab_NoSuchNode : Bool} {co_NoSuchNode : Option Bool} {dd_NoSuchNode : Option Addr} {k0_NoSuchNode k1_NoSuchNode k2_NoSuchNode k3_NoSuchNode k5_NoSuchNode : Option Value} {od_NoSuchNode_init an_NoSuchNode_init : Option Addr} {sl_NoSuchNode_init : Array (Option Value)} {oc_NoSuchNode_init kV_NoSuchNode_init dc_NoSuchNode_init pm_NoSuchNode_init ct_NoSuchNode_init : Value} {f_NoSuchNode_init : Addr} {cda_NoSuchNode_init cc_NoSuchNode_init : Addr} {ccl_NoSuchNode_init : Value} {cdd_NoSuchNode_init : Option Addr} {cvs_NoSuchNode_init : Array Value} {ccs_NoSuchNode_init : Array (Option Value)} {cfi_NoSuchNode_init : Str} {ctf_NoSuchNode_init : Tok} {ecl_NoSuchNode_init : Value} {eld_NoSuchNode_init : Option Addr} {esl_NoSuchNode_init : Array (Option Value)} {C_BadPlacement : Addr} {nm_BadPlacement qn_BadPlacement : Str} {ns_BadPlacement : Addr} {bs_BadPlacement bm_BadPlacement sb_BadPlacement : List Value} {sn_BadPlacement : List Str} {ab_BadPlacement : Bool} {co_BadPlacement : Option Bool} {dd_BadPlacement : Option Addr} {k0_BadPlacement k1_BadPlacement k2_BadPlacement k3_BadPlacement k5_BadPlacement : Option Value} {od_BadPlacement_init an_BadPlacement_init : Option Addr} {sl_BadPlacement_init : Array (Option Value)} {oc_BadPlacement_init kV_BadPlacement_init dc_BadPlacement_init pm_BadPlacement_init ct_BadPlacement_init : Value} {f_BadPlacement_init : Addr} {cda_BadPlacement_init cc_BadPlacement_init : Addr} {ccl_BadPlacement_init : Value} {cdd_BadPlacement_init : Option Addr} {cvs_BadPlacement_init : Array Value} {ccs_BadPlacement_init : Array (Option Value)} {cfi_BadPlacement_init : Str} {ctf_BadPlacement_init : Tok} {ecl_BadPlacement_init : Value} {eld_BadPlacement_init : Option Addr} {esl_BadPlacement_init : Array (Option Value)} {C_NoSuchStep : Addr} {nm_NoSuchStep qn_NoSuchStep : Str} {ns_NoSuchStep : Addr} {bs_NoSuchStep bm_NoSuchStep sb_NoSuchStep : List Value} {sn_NoSuchStep : List Str} {ab_NoSuchStep : Bool} {co_NoSuchStep : Option Bool} {dd_NoSuchStep : Option Addr} {k0_NoSuchStep k1_NoSuchStep k2_NoSuchStep k3_NoSuchStep k5_NoSuchStep : Option Value} {od_NoSuchStep_init an_NoSuchStep_init : Option Addr} {sl_NoSuchStep_init : Array (Option Value)} {oc_NoSuchStep_init kV_NoSuchStep_init dc_NoSuchStep_init pm_NoSuchStep_init ct_NoSuchStep_init : Value} {f_NoSuchStep_init : Addr} {cda_NoSuchStep_init cc_NoSuchStep_init : Addr} {ccl_NoSuchStep_init : Value} {cdd_NoSuchStep_init : Option Addr} {cvs_NoSuchStep_init : Array Value} {ccs_NoSuchStep_init : Array (Option Value)} {cfi_NoSuchStep_init : Str} {ctf_NoSuchStep_init : Tok} {ecl_NoSuchStep_init : Value} {eld_NoSuchStep_init : Option Addr} {esl_NoSuchStep_init : Array (Option Value)} {C_TooLarge : Addr} {C_HeightMismatch : Addr} {C_BadSize : Addr} {u__MOST_LEVELS : Value}
    (z_super : PySem.W.nsIn K mainGlobals "super" = some none)
    (zt_any : PySem.W.nsIn K cStatics "thirdparty.any" = some none)
    (z_top : (P.main.scope.names.lookup ("super" : Str)).isSome = false)
    (z_len : PySem.W.nsIn K mainGlobals "len" = some none)
    (z_abs : PySem.W.nsIn K mainGlobals "abs" = some none)
    (z_max : PySem.W.nsIn K mainGlobals "max" = some none)
    (z_min : PySem.W.nsIn K mainGlobals "min" = some none)
    (z_isinstance : PySem.W.nsIn K mainGlobals "isinstance" = some none)
    (z_int : PySem.W.nsIn K mainGlobals "int" = some none)
    (z_bool : PySem.W.nsIn K mainGlobals "bool" = some none)
    (z_str : PySem.W.nsIn K mainGlobals "str" = some none)
    (z_list : PySem.W.nsIn K mainGlobals "list" = some none)
    (z_tuple : PySem.W.nsIn K mainGlobals "tuple" = some none)
    (z_range : PySem.W.nsIn K mainGlobals "range" = some none)
    (z_enumerate : PySem.W.nsIn K mainGlobals "enumerate" = some none)
    (z_reversed : PySem.W.nsIn K mainGlobals "reversed" = some none)
    (z_zip : PySem.W.nsIn K mainGlobals "zip" = some none)
    (z_set : PySem.W.nsIn K mainGlobals "set" = some none)
    (z_sorted : PySem.W.nsIn K mainGlobals "sorted" = some none)
    (z_any : PySem.W.nsIn K mainGlobals "any" = some none)
    (z_all : PySem.W.nsIn K mainGlobals "all" = some none)
    (z_ValueError : PySem.W.nsIn K mainGlobals "ValueError" = some none)
    (o_gt : PySem.W.specialIn K (.builtin "object.__class__") "__get__" = some (some (.builtin "getset_descriptor.__get__")))
    (o_tk : PySem.W.takesIn K (.builtin "object.__class__") = some true)
    (a_check_height : PySem.W.nsIn K mainGlobals "check_height" = some (some (.ref f_check_height)))
    (l_check_height : K.lookup f_check_height = some ⟨oc_check_height, od_check_height, .func (PySem.W.fnOf "check_height" "check_height" (defArgs s_check_height) (defBody s_check_height) (defScope s_check_height) .none kV_check_height dc_check_height pm_check_height an_check_height cd_check_height ct_check_height), sl_check_height⟩)
    (c_check_height : PySem.W.codeIn K cd_check_height "check_height" = true)
    (k_check_height : PySem.W.keepIn K (.ref f_check_height) = true)
    (a_check_same_height : PySem.W.nsIn K mainGlobals "check_same_height" = some (some (.ref f_check_same_height)))
    (l_check_same_height : K.lookup f_check_same_height = some ⟨oc_check_same_height, od_check_same_height, .func (PySem.W.fnOf "check_same_height" "check_same_height" (defArgs s_check_same_height) (defBody s_check_same_height) (defScope s_check_same_height) .none kV_check_same_height dc_check_same_height pm_check_same_height an_check_same_height cd_check_same_height ct_check_same_height), sl_check_same_height⟩)
    (c_check_same_height : PySem.W.codeIn K cd_check_same_height "check_same_height" = true)
    (k_check_same_height : PySem.W.keepIn K (.ref f_check_same_height) = true)
    (a_check_node : PySem.W.nsIn K mainGlobals "check_node" = some (some (.ref f_check_node)))
    (l_check_node : K.lookup f_check_node = some ⟨oc_check_node, od_check_node, .func (PySem.W.fnOf "check_node" "check_node" (defArgs s_check_node) (defBody s_check_node) (defScope s_check_node) .none kV_check_node dc_check_node pm_check_node an_check_node cd_check_node ct_check_node), sl_check_node⟩)
    (c_check_node : PySem.W.codeIn K cd_check_node "check_node" = true)
    (k_check_node : PySem.W.keepIn K (.ref f_check_node) = true)
    (a_check_step : PySem.W.nsIn K mainGlobals "check_step" = some (some (.ref f_check_step)))
    (l_check_step : K.lookup f_check_step = some ⟨oc_check_step, od_check_step, .func (PySem.W.fnOf "check_step" "check_step" (defArgs s_check_step) (defBody s_check_step) (defScope s_check_step) .none kV_check_step dc_check_step pm_check_step an_check_step cd_check_step ct_check_step), sl_check_step⟩)
    (c_check_step : PySem.W.codeIn K cd_check_step "check_step" = true)
    (k_check_step : PySem.W.keepIn K (.ref f_check_step) = true)
    (a_check_rank : PySem.W.nsIn K mainGlobals "check_rank" = some (some (.ref f_check_rank)))
    (l_check_rank : K.lookup f_check_rank = some ⟨oc_check_rank, od_check_rank, .func (PySem.W.fnOf "check_rank" "check_rank" (defArgs s_check_rank) (defBody s_check_rank) (defScope s_check_rank) .none kV_check_rank dc_check_rank pm_check_rank an_check_rank cd_check_rank ct_check_rank), sl_check_rank⟩)
    (c_check_rank : PySem.W.codeIn K cd_check_rank "check_rank" = true)
    (k_check_rank : PySem.W.keepIn K (.ref f_check_rank) = true)
    (a_check_row : PySem.W.nsIn K mainGlobals "check_row" = some (some (.ref f_check_row)))
    (l_check_row : K.lookup f_check_row = some ⟨oc_check_row, od_check_row, .func (PySem.W.fnOf "check_row" "check_row" (defArgs s_check_row) (defBody s_check_row) (defScope s_check_row) .none kV_check_row dc_check_row pm_check_row an_check_row cd_check_row ct_check_row), sl_check_row⟩)
    (c_check_row : PySem.W.codeIn K cd_check_row "check_row" = true)
    (k_check_row : PySem.W.keepIn K (.ref f_check_row) = true)
    (a_check_placement : PySem.W.nsIn K mainGlobals "check_placement" = some (some (.ref f_check_placement)))
    (l_check_placement : K.lookup f_check_placement = some ⟨oc_check_placement, od_check_placement, .func (PySem.W.fnOf "check_placement" "check_placement" (defArgs s_check_placement) (defBody s_check_placement) (defScope s_check_placement) .none kV_check_placement dc_check_placement pm_check_placement an_check_placement cd_check_placement ct_check_placement), sl_check_placement⟩)
    (c_check_placement : PySem.W.codeIn K cd_check_placement "check_placement" = true)
    (k_check_placement : PySem.W.keepIn K (.ref f_check_placement) = true)
    (a_is_allowed : PySem.W.nsIn K mainGlobals "is_allowed" = some (some (.ref f_is_allowed)))
    (l_is_allowed : K.lookup f_is_allowed = some ⟨oc_is_allowed, od_is_allowed, .func (PySem.W.fnOf "is_allowed" "is_allowed" (defArgs s_is_allowed) (defBody s_is_allowed) (defScope s_is_allowed) .none kV_is_allowed dc_is_allowed pm_is_allowed an_is_allowed cd_is_allowed ct_is_allowed), sl_is_allowed⟩)
    (c_is_allowed : PySem.W.codeIn K cd_is_allowed "is_allowed" = true)
    (k_is_allowed : PySem.W.keepIn K (.ref f_is_allowed) = true)
    (a_is_fitting : PySem.W.nsIn K mainGlobals "is_fitting" = some (some (.ref f_is_fitting)))
    (l_is_fitting : K.lookup f_is_fitting = some ⟨oc_is_fitting, od_is_fitting, .func (PySem.W.fnOf "is_fitting" "is_fitting" (defArgs s_is_fitting) (defBody s_is_fitting) (defScope s_is_fitting) .none kV_is_fitting dc_is_fitting pm_is_fitting an_is_fitting cd_is_fitting ct_is_fitting), sl_is_fitting⟩)
    (c_is_fitting : PySem.W.codeIn K cd_is_fitting "is_fitting" = true)
    (k_is_fitting : PySem.W.keepIn K (.ref f_is_fitting) = true)
    (a_misfits : PySem.W.nsIn K mainGlobals "misfits" = some (some (.ref f_misfits)))
    (l_misfits : K.lookup f_misfits = some ⟨oc_misfits, od_misfits, .func (PySem.W.fnOf "misfits" "misfits" (defArgs s_misfits) (defBody s_misfits) (defScope s_misfits) .none kV_misfits dc_misfits pm_misfits an_misfits cd_misfits ct_misfits), sl_misfits⟩)
    (c_misfits : PySem.W.codeIn K cd_misfits "misfits" = true)
    (k_misfits : PySem.W.keepIn K (.ref f_misfits) = true)
    (a_lift : PySem.W.nsIn K mainGlobals "lift" = some (some (.ref f_lift)))
    (l_lift : K.lookup f_lift = some ⟨oc_lift, od_lift, .func (PySem.W.fnOf "lift" "lift" (defArgs s_lift) (defBody s_lift) (defScope s_lift) .none kV_lift dc_lift pm_lift an_lift cd_lift ct_lift), sl_lift⟩)
    (c_lift : PySem.W.codeIn K cd_lift "lift" = true)
    (k_lift : PySem.W.keepIn K (.ref f_lift) = true)
    (a_climb : PySem.W.nsIn K mainGlobals "climb" = some (some (.ref f_climb)))
    (l_climb : K.lookup f_climb = some ⟨oc_climb, od_climb, .func (PySem.W.fnOf "climb" "climb" (defArgs s_climb) (defBody s_climb) (defScope s_climb) .none kV_climb dc_climb pm_climb an_climb cd_climb ct_climb), sl_climb⟩)
    (c_climb : PySem.W.codeIn K cd_climb "climb" = true)
    (k_climb : PySem.W.keepIn K (.ref f_climb) = true)
    (a_told_nodes : PySem.W.nsIn K mainGlobals "told_nodes" = some (some (.ref f_told_nodes)))
    (l_told_nodes : K.lookup f_told_nodes = some ⟨oc_told_nodes, od_told_nodes, .func (PySem.W.fnOf "told_nodes" "told_nodes" (defArgs s_told_nodes) (defBody s_told_nodes) (defScope s_told_nodes) .none kV_told_nodes dc_told_nodes pm_told_nodes an_told_nodes cd_told_nodes ct_told_nodes), sl_told_nodes⟩)
    (c_told_nodes : PySem.W.codeIn K cd_told_nodes "told_nodes" = true)
    (k_told_nodes : PySem.W.keepIn K (.ref f_told_nodes) = true)
    (a_check_count : PySem.W.nsIn K mainGlobals "check_count" = some (some (.ref f_check_count)))
    (l_check_count : K.lookup f_check_count = some ⟨oc_check_count, od_check_count, .func (PySem.W.fnOf "check_count" "check_count" (defArgs s_check_count) (defBody s_check_count) (defScope s_check_count) .none kV_check_count dc_check_count pm_check_count an_check_count cd_check_count ct_check_count), sl_check_count⟩)
    (c_check_count : PySem.W.codeIn K cd_check_count "check_count" = true)
    (k_check_count : PySem.W.keepIn K (.ref f_check_count) = true)
    (a__check_edges : PySem.W.nsIn K mainGlobals "_check_edges" = some (some (.ref f__check_edges)))
    (l__check_edges : K.lookup f__check_edges = some ⟨oc__check_edges, od__check_edges, .func (PySem.W.fnOf "_check_edges" "_check_edges" (defArgs s__check_edges) (defBody s__check_edges) (defScope s__check_edges) .none kV__check_edges dc__check_edges pm__check_edges an__check_edges cd__check_edges ct__check_edges), sl__check_edges⟩)
    (c__check_edges : PySem.W.codeIn K cd__check_edges "_check_edges" = true)
    (k__check_edges : PySem.W.keepIn K (.ref f__check_edges) = true)
    (a__check_owners : PySem.W.nsIn K mainGlobals "_check_owners" = some (some (.ref f__check_owners)))
    (l__check_owners : K.lookup f__check_owners = some ⟨oc__check_owners, od__check_owners, .func (PySem.W.fnOf "_check_owners" "_check_owners" (defArgs s__check_owners) (defBody s__check_owners) (defScope s__check_owners) .none kV__check_owners dc__check_owners pm__check_owners an__check_owners cd__check_owners ct__check_owners), sl__check_owners⟩)
    (c__check_owners : PySem.W.codeIn K cd__check_owners "_check_owners" = true)
    (k__check_owners : PySem.W.keepIn K (.ref f__check_owners) = true)
    (a__check_dead_ends : PySem.W.nsIn K mainGlobals "_check_dead_ends" = some (some (.ref f__check_dead_ends)))
    (l__check_dead_ends : K.lookup f__check_dead_ends = some ⟨oc__check_dead_ends, od__check_dead_ends, .func (PySem.W.fnOf "_check_dead_ends" "_check_dead_ends" (defArgs s__check_dead_ends) (defBody s__check_dead_ends) (defScope s__check_dead_ends) .none kV__check_dead_ends dc__check_dead_ends pm__check_dead_ends an__check_dead_ends cd__check_dead_ends ct__check_dead_ends), sl__check_dead_ends⟩)
    (c__check_dead_ends : PySem.W.codeIn K cd__check_dead_ends "_check_dead_ends" = true)
    (k__check_dead_ends : PySem.W.keepIn K (.ref f__check_dead_ends) = true)
    (a__counts_from : PySem.W.nsIn K mainGlobals "_counts_from" = some (some (.ref f__counts_from)))
    (l__counts_from : K.lookup f__counts_from = some ⟨oc__counts_from, od__counts_from, .func (PySem.W.fnOf "_counts_from" "_counts_from" (defArgs s__counts_from) (defBody s__counts_from) (defScope s__counts_from) .none kV__counts_from dc__counts_from pm__counts_from an__counts_from cd__counts_from ct__counts_from), sl__counts_from⟩)
    (c__counts_from : PySem.W.codeIn K cd__counts_from "_counts_from" = true)
    (k__counts_from : PySem.W.keepIn K (.ref f__counts_from) = true)
    (a_next_marks : PySem.W.nsIn K mainGlobals "next_marks" = some (some (.ref f_next_marks)))
    (l_next_marks : K.lookup f_next_marks = some ⟨oc_next_marks, od_next_marks, .func (PySem.W.fnOf "next_marks" "next_marks" (defArgs s_next_marks) (defBody s_next_marks) (defScope s_next_marks) .none kV_next_marks dc_next_marks pm_next_marks an_next_marks cd_next_marks ct_next_marks), sl_next_marks⟩)
    (c_next_marks : PySem.W.codeIn K cd_next_marks "next_marks" = true)
    (k_next_marks : PySem.W.keepIn K (.ref f_next_marks) = true)
    (a_last_marks : PySem.W.nsIn K mainGlobals "last_marks" = some (some (.ref f_last_marks)))
    (l_last_marks : K.lookup f_last_marks = some ⟨oc_last_marks, od_last_marks, .func (PySem.W.fnOf "last_marks" "last_marks" (defArgs s_last_marks) (defBody s_last_marks) (defScope s_last_marks) .none kV_last_marks dc_last_marks pm_last_marks an_last_marks cd_last_marks ct_last_marks), sl_last_marks⟩)
    (c_last_marks : PySem.W.codeIn K cd_last_marks "last_marks" = true)
    (k_last_marks : PySem.W.keepIn K (.ref f_last_marks) = true)
    (a_holds : PySem.W.nsIn K mainGlobals "holds" = some (some (.ref f_holds)))
    (l_holds : K.lookup f_holds = some ⟨oc_holds, od_holds, .func (PySem.W.fnOf "holds" "holds" (defArgs s_holds) (defBody s_holds) (defScope s_holds) .none kV_holds dc_holds pm_holds an_holds cd_holds ct_holds), sl_holds⟩)
    (c_holds : PySem.W.codeIn K cd_holds "holds" = true)
    (k_holds : PySem.W.keepIn K (.ref f_holds) = true)
    (a_ends : PySem.W.nsIn K mainGlobals "ends" = some (some (.ref f_ends)))
    (l_ends : K.lookup f_ends = some ⟨oc_ends, od_ends, .func (PySem.W.fnOf "ends" "ends" (defArgs s_ends) (defBody s_ends) (defScope s_ends) .none kV_ends dc_ends pm_ends an_ends cd_ends ct_ends), sl_ends⟩)
    (c_ends : PySem.W.codeIn K cd_ends "ends" = true)
    (k_ends : PySem.W.keepIn K (.ref f_ends) = true)
    (a_hold : PySem.W.nsIn K mainGlobals "hold" = some (some (.ref f_hold)))
    (l_hold : K.lookup f_hold = some ⟨oc_hold, od_hold, .func (PySem.W.fnOf "hold" "hold" (defArgs s_hold) (defBody s_hold) (defScope s_hold) .none kV_hold dc_hold pm_hold an_hold cd_hold ct_hold), sl_hold⟩)
    (c_hold : PySem.W.codeIn K cd_hold "hold" = true)
    (k_hold : PySem.W.keepIn K (.ref f_hold) = true)
    (a__marks_from_the_back : PySem.W.nsIn K mainGlobals "_marks_from_the_back" = some (some (.ref f__marks_from_the_back)))
    (l__marks_from_the_back : K.lookup f__marks_from_the_back = some ⟨oc__marks_from_the_back, od__marks_from_the_back, .func (PySem.W.fnOf "_marks_from_the_back" "_marks_from_the_back" (defArgs s__marks_from_the_back) (defBody s__marks_from_the_back) (defScope s__marks_from_the_back) .none kV__marks_from_the_back dc__marks_from_the_back pm__marks_from_the_back an__marks_from_the_back cd__marks_from_the_back ct__marks_from_the_back), sl__marks_from_the_back⟩)
    (c__marks_from_the_back : PySem.W.codeIn K cd__marks_from_the_back "_marks_from_the_back" = true)
    (k__marks_from_the_back : PySem.W.keepIn K (.ref f__marks_from_the_back) = true)
    (a__next_step : PySem.W.nsIn K mainGlobals "_next_step" = some (some (.ref f__next_step)))
    (l__next_step : K.lookup f__next_step = some ⟨oc__next_step, od__next_step, .func (PySem.W.fnOf "_next_step" "_next_step" (defArgs s__next_step) (defBody s__next_step) (defScope s__next_step) .none kV__next_step dc__next_step pm__next_step an__next_step cd__next_step ct__next_step), sl__next_step⟩)
    (c__next_step : PySem.W.codeIn K cd__next_step "_next_step" = true)
    (k__next_step : PySem.W.keepIn K (.ref f__next_step) = true)
    (a_row_game : PySem.W.nsIn K mainGlobals "row_game" = some (some (.ref f_row_game)))
    (l_row_game : K.lookup f_row_game = some ⟨oc_row_game, od_row_game, .func (PySem.W.fnOf "row_game" "row_game" (defArgs s_row_game) (defBody s_row_game) (defScope s_row_game) .none kV_row_game dc_row_game pm_row_game an_row_game cd_row_game ct_row_game), sl_row_game⟩)
    (c_row_game : PySem.W.codeIn K cd_row_game "row_game" = true)
    (k_row_game : PySem.W.keepIn K (.ref f_row_game) = true)
    (a_pool : PySem.W.nsIn K mainGlobals "_law_pool" = some (some (.ref f_pool)))
    (l_pool : K.lookup f_pool = some ⟨oc_pool, od_pool, .func (PySem.W.fnOf "_law_pool" "_law_pool" (defArgs s_pool) (defBody s_pool) (defScope s_pool) .none kV_pool dc_pool pm_pool an_pool cd_pool ct_pool), sl_pool⟩)
    (c_pool : PySem.W.codeIn K cd_pool "_law_pool" = true)
    (k_pool : PySem.W.keepIn K (.ref f_pool) = true)
    (a_draw : PySem.W.nsIn K mainGlobals "_law_draw" = some (some (.ref f_draw)))
    (l_draw : K.lookup f_draw = some ⟨oc_draw, od_draw, .func (PySem.W.fnOf "_law_draw" "_law_draw" (defArgs s_draw) (defBody s_draw) (defScope s_draw) .none kV_draw dc_draw pm_draw an_draw cd_draw ct_draw), sl_draw⟩)
    (c_draw : PySem.W.codeIn K cd_draw "_law_draw" = true)
    (k_draw : PySem.W.keepIn K (.ref f_draw) = true)
    (a_levels : PySem.W.nsIn K mainGlobals "_law_levels" = some (some (.ref f_levels)))
    (l_levels : K.lookup f_levels = some ⟨oc_levels, od_levels, .func (PySem.W.fnOf "_law_levels" "_law_levels" (defArgs s_levels) (defBody s_levels) (defScope s_levels) .none kV_levels dc_levels pm_levels an_levels cd_levels ct_levels), sl_levels⟩)
    (c_levels : PySem.W.codeIn K cd_levels "_law_levels" = true)
    (k_levels : PySem.W.keepIn K (.ref f_levels) = true)
    (a_row_edges : PySem.W.nsIn K mainGlobals "_law_row_edges" = some (some (.ref f_row_edges)))
    (l_row_edges : K.lookup f_row_edges = some ⟨oc_row_edges, od_row_edges, .func (PySem.W.fnOf "_law_row_edges" "_law_row_edges" (defArgs s_row_edges) (defBody s_row_edges) (defScope s_row_edges) .none kV_row_edges dc_row_edges pm_row_edges an_row_edges cd_row_edges ct_row_edges), sl_row_edges⟩)
    (c_row_edges : PySem.W.codeIn K cd_row_edges "_law_row_edges" = true)
    (k_row_edges : PySem.W.keepIn K (.ref f_row_edges) = true)
    (a_number : PySem.W.nsIn K mainGlobals "_law_number" = some (some (.ref f_number)))
    (l_number : K.lookup f_number = some ⟨oc_number, od_number, .func (PySem.W.fnOf "_law_number" "_law_number" (defArgs s_number) (defBody s_number) (defScope s_number) .none kV_number dc_number pm_number an_number cd_number ct_number), sl_number⟩)
    (c_number : PySem.W.codeIn K cd_number "_law_number" = true)
    (k_number : PySem.W.keepIn K (.ref f_number) = true)
    (a_same : PySem.W.nsIn K mainGlobals "_law_same" = some (some (.ref f_same)))
    (l_same : K.lookup f_same = some ⟨oc_same, od_same, .func (PySem.W.fnOf "_law_same" "_law_same" (defArgs s_same) (defBody s_same) (defScope s_same) .none kV_same dc_same pm_same an_same cd_same ct_same), sl_same⟩)
    (c_same : PySem.W.codeIn K cd_same "_law_same" = true)
    (k_same : PySem.W.keepIn K (.ref f_same) = true)
    (a_gap : PySem.W.nsIn K mainGlobals "_law_gap" = some (some (.ref f_gap)))
    (l_gap : K.lookup f_gap = some ⟨oc_gap, od_gap, .func (PySem.W.fnOf "_law_gap" "_law_gap" (defArgs s_gap) (defBody s_gap) (defScope s_gap) .none kV_gap dc_gap pm_gap an_gap cd_gap ct_gap), sl_gap⟩)
    (c_gap : PySem.W.codeIn K cd_gap "_law_gap" = true)
    (k_gap : PySem.W.keepIn K (.ref f_gap) = true)
    (a_allows : PySem.W.nsIn K mainGlobals "_law_allows" = some (some (.ref f_allows)))
    (l_allows : K.lookup f_allows = some ⟨oc_allows, od_allows, .func (PySem.W.fnOf "_law_allows" "_law_allows" (defArgs s_allows) (defBody s_allows) (defScope s_allows) .none kV_allows dc_allows pm_allows an_allows cd_allows ct_allows), sl_allows⟩)
    (c_allows : PySem.W.codeIn K cd_allows "_law_allows" = true)
    (k_allows : PySem.W.keepIn K (.ref f_allows) = true)
    (a_last_steps : PySem.W.nsIn K mainGlobals "_law_last_steps" = some (some (.ref f_last_steps)))
    (l_last_steps : K.lookup f_last_steps = some ⟨oc_last_steps, od_last_steps, .func (PySem.W.fnOf "_law_last_steps" "_law_last_steps" (defArgs s_last_steps) (defBody s_last_steps) (defScope s_last_steps) .none kV_last_steps dc_last_steps pm_last_steps an_last_steps cd_last_steps ct_last_steps), sl_last_steps⟩)
    (c_last_steps : PySem.W.codeIn K cd_last_steps "_law_last_steps" = true)
    (k_last_steps : PySem.W.keepIn K (.ref f_last_steps) = true)
    (a_fits : PySem.W.nsIn K mainGlobals "_law_fits" = some (some (.ref f_fits)))
    (l_fits : K.lookup f_fits = some ⟨oc_fits, od_fits, .func (PySem.W.fnOf "_law_fits" "_law_fits" (defArgs s_fits) (defBody s_fits) (defScope s_fits) .none kV_fits dc_fits pm_fits an_fits cd_fits ct_fits), sl_fits⟩)
    (c_fits : PySem.W.codeIn K cd_fits "_law_fits" = true)
    (k_fits : PySem.W.keepIn K (.ref f_fits) = true)
    (a_lw_climb : PySem.W.nsIn K mainGlobals "_law_climb" = some (some (.ref f_lw_climb)))
    (l_lw_climb : K.lookup f_lw_climb = some ⟨oc_lw_climb, od_lw_climb, .func (PySem.W.fnOf "_law_climb" "_law_climb" (defArgs s_lw_climb) (defBody s_lw_climb) (defScope s_lw_climb) .none kV_lw_climb dc_lw_climb pm_lw_climb an_lw_climb cd_lw_climb ct_lw_climb), sl_lw_climb⟩)
    (c_lw_climb : PySem.W.codeIn K cd_lw_climb "_law_climb" = true)
    (k_lw_climb : PySem.W.keepIn K (.ref f_lw_climb) = true)
    (a_gaps : PySem.W.nsIn K mainGlobals "_law_gaps" = some (some (.ref f_gaps)))
    (l_gaps : K.lookup f_gaps = some ⟨oc_gaps, od_gaps, .func (PySem.W.fnOf "_law_gaps" "_law_gaps" (defArgs s_gaps) (defBody s_gaps) (defScope s_gaps) .none kV_gaps dc_gaps pm_gaps an_gaps cd_gaps ct_gaps), sl_gaps⟩)
    (c_gaps : PySem.W.codeIn K cd_gaps "_law_gaps" = true)
    (k_gaps : PySem.W.keepIn K (.ref f_gaps) = true)
    (a_any_row : PySem.W.nsIn K mainGlobals "_law_any_row" = some (some (.ref f_any_row)))
    (l_any_row : K.lookup f_any_row = some ⟨oc_any_row, od_any_row, .func (PySem.W.fnOf "_law_any_row" "_law_any_row" (defArgs s_any_row) (defBody s_any_row) (defScope s_any_row) .none kV_any_row dc_any_row pm_any_row an_any_row cd_any_row ct_any_row), sl_any_row⟩)
    (c_any_row : PySem.W.codeIn K cd_any_row "_law_any_row" = true)
    (k_any_row : PySem.W.keepIn K (.ref f_any_row) = true)
    (a_due_game : PySem.W.nsIn K mainGlobals "_law_due_game" = some (some (.ref f_due_game)))
    (l_due_game : K.lookup f_due_game = some ⟨oc_due_game, od_due_game, .func (PySem.W.fnOf "_law_due_game" "_law_due_game" (defArgs s_due_game) (defBody s_due_game) (defScope s_due_game) .none kV_due_game dc_due_game pm_due_game an_due_game cd_due_game ct_due_game), sl_due_game⟩)
    (c_due_game : PySem.W.codeIn K cd_due_game "_law_due_game" = true)
    (k_due_game : PySem.W.keepIn K (.ref f_due_game) = true)
    (a_told_at : PySem.W.nsIn K mainGlobals "_law_told_at" = some (some (.ref f_told_at)))
    (l_told_at : K.lookup f_told_at = some ⟨oc_told_at, od_told_at, .func (PySem.W.fnOf "_law_told_at" "_law_told_at" (defArgs s_told_at) (defBody s_told_at) (defScope s_told_at) .none kV_told_at dc_told_at pm_told_at an_told_at cd_told_at ct_told_at), sl_told_at⟩)
    (c_told_at : PySem.W.codeIn K cd_told_at "_law_told_at" = true)
    (k_told_at : PySem.W.keepIn K (.ref f_told_at) = true)
    (a_held_at : PySem.W.nsIn K mainGlobals "_law_held_at" = some (some (.ref f_held_at)))
    (l_held_at : K.lookup f_held_at = some ⟨oc_held_at, od_held_at, .func (PySem.W.fnOf "_law_held_at" "_law_held_at" (defArgs s_held_at) (defBody s_held_at) (defScope s_held_at) .none kV_held_at dc_held_at pm_held_at an_held_at cd_held_at ct_held_at), sl_held_at⟩)
    (c_held_at : PySem.W.codeIn K cd_held_at "_law_held_at" = true)
    (k_held_at : PySem.W.keepIn K (.ref f_held_at) = true)
    (a_told_if_held : PySem.W.nsIn K mainGlobals "_law_told_if_held" = some (some (.ref f_told_if_held)))
    (l_told_if_held : K.lookup f_told_if_held = some ⟨oc_told_if_held, od_told_if_held, .func (PySem.W.fnOf "_law_told_if_held" "_law_told_if_held" (defArgs s_told_if_held) (defBody s_told_if_held) (defScope s_told_if_held) .none kV_told_if_held dc_told_if_held pm_told_if_held an_told_if_held cd_told_if_held ct_told_if_held), sl_told_if_held⟩)
    (c_told_if_held : PySem.W.codeIn K cd_told_if_held "_law_told_if_held" = true)
    (k_told_if_held : PySem.W.keepIn K (.ref f_told_if_held) = true)
    (a_given : PySem.W.nsIn K mainGlobals "_law_given" = some (some (.ref f_given)))
    (l_given : K.lookup f_given = some ⟨oc_given, od_given, .func (PySem.W.fnOf "_law_given" "_law_given" (defArgs s_given) (defBody s_given) (defScope s_given) .none kV_given dc_given pm_given an_given cd_given ct_given), sl_given⟩)
    (c_given : PySem.W.codeIn K cd_given "_law_given" = true)
    (k_given : PySem.W.keepIn K (.ref f_given) = true)
    (a_law : PySem.W.nsIn K mainGlobals "law" = some (some (.ref f_law)))
    (l_law : K.lookup f_law = some ⟨oc_law, od_law, .func (PySem.W.fnOf "law" "law" (defArgs s_law) (defBody s_law) (defScope s_law) .none kV_law dc_law pm_law an_law cd_law ct_law), sl_law⟩)
    (c_law : PySem.W.codeIn K cd_law "law" = true)
    (k_law : PySem.W.keepIn K (.ref f_law) = true)
    (a_lifts : PySem.W.nsIn K mainGlobals "lifts" = some (some (.ref f_lifts)))
    (l_lifts : K.lookup f_lifts = some ⟨oc_lifts, od_lifts, .func (PySem.W.fnOf "lifts" "lifts" (defArgs s_lifts) (defBody s_lifts) (defScope s_lifts) .none (.ref kd_lifts) dc_lifts pm_lifts an_lifts cd_lifts ct_lifts), sl_lifts⟩)
    (c_lifts : PySem.W.codeIn K cd_lifts "lifts" = true)
    (k_lifts : PySem.W.keepIn K (.ref f_lifts) = true)
    (kn_lifts : PySem.W.nsIn K kd_lifts "start" = some (some .none))
    (aC_Web : PySem.W.nsIn K mainGlobals "Web" = some (some (.ref C_Web)))
    (pg_Web : PySem.W.plainGet K C_Web Str.empty = true)
    (hd_Web : PySem.W.hasDictIn K C_Web = true)
    (po_Web : PySem.W.plainOver K C_Web = true)
    (sa_Web : PySem.W.findIn K (.ref C_Web) "__setattr__" = some (some (.builtin "object.__setattr__")))
    (na_Web_height : PySem.W.findIn K (.ref C_Web) "height" = some none)
    (na_Web_size : PySem.W.findIn K (.ref C_Web) "size" = some none)
    (na_Web_edges : PySem.W.findIn K (.ref C_Web) "edges" = some none)
    (mk_Web : PySem.W.makesIn K C_Web = true)
    (kc_Web : PySem.W.keepIn K (.ref C_Web) = true)
    (a_W_init : PySem.W.findIn K (.ref C_Web) "__init__" = some (some (.ref f_W_init)))
    (i_W_init : PySem.W.isFn K (.ref f_W_init) = true)
    (l_W_init : K.lookup f_W_init = some ⟨oc_W_init, od_W_init, .func (PySem.W.fnOf "__init__" "Web.__init__" (defArgs s_W_init) (defBody s_W_init) (defScope s_W_init) .none kV_W_init dc_W_init pm_W_init an_W_init cd_W_init ct_W_init), sl_W_init⟩)
    (c_W_init : PySem.W.codeIn K cd_W_init "Web.__init__" = true)
    (k_W_init : PySem.W.keepIn K (.ref f_W_init) = true)
    (a_W_out : PySem.W.findIn K (.ref C_Web) "out" = some (some (.ref f_W_out)))
    (i_W_out : PySem.W.isFn K (.ref f_W_out) = true)
    (l_W_out : K.lookup f_W_out = some ⟨oc_W_out, od_W_out, .func (PySem.W.fnOf "out" "Web.out" (defArgs s_W_out) (defBody s_W_out) (defScope s_W_out) .none kV_W_out dc_W_out pm_W_out an_W_out cd_W_out ct_W_out), sl_W_out⟩)
    (c_W_out : PySem.W.codeIn K cd_W_out "Web.out" = true)
    (k_W_out : PySem.W.keepIn K (.ref f_W_out) = true)
    (cr_Web_MOST_NODES : PySem.W.readsIn K C_Web (.type "type") = true)
    (cg_Web_MOST_NODES : PySem.W.specialIn K (.ref C_Web) "__getattribute__" = some (some (.builtin "type.__getattribute__")))
    (cf_Web_MOST_NODES : PySem.W.findCls K (.ref C_Web) (.type "type") "MOST_NODES" = some (.val u_Web_MOST_NODES))
    (cx_Web_MOST_NODES : RelV (.int 9) u_Web_MOST_NODES)
    (cr_Web_MOST_EDGES : PySem.W.readsIn K C_Web (.type "type") = true)
    (cg_Web_MOST_EDGES : PySem.W.specialIn K (.ref C_Web) "__getattribute__" = some (some (.builtin "type.__getattribute__")))
    (cf_Web_MOST_EDGES : PySem.W.findCls K (.ref C_Web) (.type "type") "MOST_EDGES" = some (.val u_Web_MOST_EDGES))
    (cx_Web_MOST_EDGES : RelV (.int 63) u_Web_MOST_EDGES)
    (aC_Game : PySem.W.nsIn K mainGlobals "Game" = some (some (.ref C_Game)))
    (pg_Game : PySem.W.plainGet K C_Game Str.empty = true)
    (hd_Game : PySem.W.hasDictIn K C_Game = true)
    (po_Game : PySem.W.plainOver K C_Game = true)
    (sa_Game : PySem.W.findIn K (.ref C_Game) "__setattr__" = some (some (.builtin "object.__setattr__")))
    (na_Game_height : PySem.W.findIn K (.ref C_Game) "height" = some none)
    (na_Game_size : PySem.W.findIn K (.ref C_Game) "size" = some none)
    (na_Game_edges : PySem.W.findIn K (.ref C_Game) "edges" = some none)
    (na_Game_owners : PySem.W.findIn K (.ref C_Game) "owners" = some none)
    (mk_Game : PySem.W.makesIn K C_Game = true)
    (kc_Game : PySem.W.keepIn K (.ref C_Game) = true)
    (a_G_init : PySem.W.findIn K (.ref C_Game) "__init__" = some (some (.ref f_G_init)))
    (i_G_init : PySem.W.isFn K (.ref f_G_init) = true)
    (l_G_init : K.lookup f_G_init = some ⟨oc_G_init, od_G_init, .func (PySem.W.ksFn "__init__" "Game.__init__" (defArgs s_G_init) (defBody s_G_init) (defScope s_G_init) .none kV_G_init dc_G_init pm_G_init an_G_init (.ref cda_G_init) ct_G_init cc_G_init), sl_G_init⟩)
    (c_G_init : PySem.W.codeIn K (.ref cda_G_init) "Game.__init__" = true)
    (k_G_init : PySem.W.keepIn K (.ref f_G_init) = true)
    (h_G_init : K.lookup cda_G_init = some ⟨ccl_G_init, cdd_G_init, .fields cvs_G_init, ccs_G_init⟩)
    (v_G_init : cvs_G_init[2]? = some (.str cfi_G_init ctf_G_init))
    (p_G_init : ((P.main.file : Str) == cfi_G_init) = true)
    (e_G_init : K.lookup cc_G_init = some ⟨ecl_G_init, eld_G_init, .cell (some (.ref C_Game)), esl_G_init⟩)
    (icl_Game : PySem.W.isClsIn K C_Game = true)
    (a_G_out : PySem.W.findIn K (.ref C_Game) "out" = some (some (.ref f_G_out)))
    (i_G_out : PySem.W.isFn K (.ref f_G_out) = true)
    (l_G_out : K.lookup f_G_out = some ⟨oc_G_out, od_G_out, .func (PySem.W.ksFn "out" "Game.out" (defArgs s_G_out) (defBody s_G_out) (defScope s_G_out) .none kV_G_out dc_G_out pm_G_out an_G_out (.ref cda_G_out) ct_G_out cc_G_out), sl_G_out⟩)
    (c_G_out : PySem.W.codeIn K (.ref cda_G_out) "Game.out" = true)
    (k_G_out : PySem.W.keepIn K (.ref f_G_out) = true)
    (h_G_out : K.lookup cda_G_out = some ⟨ccl_G_out, cdd_G_out, .fields cvs_G_out, ccs_G_out⟩)
    (v_G_out : cvs_G_out[2]? = some (.str cfi_G_out ctf_G_out))
    (p_G_out : ((P.main.file : Str) == cfi_G_out) = true)
    (e_G_out : K.lookup cc_G_out = some ⟨ecl_G_out, eld_G_out, .cell (some (.ref C_Game)), esl_G_out⟩)
    (a_G_with_owner : PySem.W.findIn K (.ref C_Game) "with_owner" = some (some (.ref f_G_with_owner)))
    (i_G_with_owner : PySem.W.isFn K (.ref f_G_with_owner) = true)
    (l_G_with_owner : K.lookup f_G_with_owner = some ⟨oc_G_with_owner, od_G_with_owner, .func (PySem.W.fnOf "with_owner" "Game.with_owner" (defArgs s_G_with_owner) (defBody s_G_with_owner) (defScope s_G_with_owner) .none kV_G_with_owner dc_G_with_owner pm_G_with_owner an_G_with_owner cd_G_with_owner ct_G_with_owner), sl_G_with_owner⟩)
    (c_G_with_owner : PySem.W.codeIn K cd_G_with_owner "Game.with_owner" = true)
    (k_G_with_owner : PySem.W.keepIn K (.ref f_G_with_owner) = true)
    (aC_Ladder : PySem.W.nsIn K mainGlobals "Ladder" = some (some (.ref C_Ladder)))
    (pg_Ladder : PySem.W.plainGet K C_Ladder Str.empty = true)
    (hd_Ladder : PySem.W.hasDictIn K C_Ladder = true)
    (po_Ladder : PySem.W.plainOver K C_Ladder = true)
    (sa_Ladder : PySem.W.findIn K (.ref C_Ladder) "__setattr__" = some (some (.builtin "object.__setattr__")))
    (na_Ladder_height : PySem.W.findIn K (.ref C_Ladder) "height" = some none)
    (na_Ladder_levels : PySem.W.findIn K (.ref C_Ladder) "levels" = some none)
    (na_Ladder_top : PySem.W.findIn K (.ref C_Ladder) "top" = some none)
    (na_Ladder__counts : PySem.W.findIn K (.ref C_Ladder) "_counts" = some none)
    (mk_Ladder : PySem.W.makesIn K C_Ladder = true)
    (kc_Ladder : PySem.W.keepIn K (.ref C_Ladder) = true)
    (a_L_init : PySem.W.findIn K (.ref C_Ladder) "__init__" = some (some (.ref f_L_init)))
    (i_L_init : PySem.W.isFn K (.ref f_L_init) = true)
    (l_L_init : K.lookup f_L_init = some ⟨oc_L_init, od_L_init, .func (PySem.W.fnOf "__init__" "Ladder.__init__" (defArgs s_L_init) (defBody s_L_init) (defScope s_L_init) .none kV_L_init dc_L_init pm_L_init an_L_init cd_L_init ct_L_init), sl_L_init⟩)
    (c_L_init : PySem.W.codeIn K cd_L_init "Ladder.__init__" = true)
    (k_L_init : PySem.W.keepIn K (.ref f_L_init) = true)
    (a_L_allows : PySem.W.findIn K (.ref C_Ladder) "allows" = some (some (.ref f_L_allows)))
    (i_L_allows : PySem.W.isFn K (.ref f_L_allows) = true)
    (l_L_allows : K.lookup f_L_allows = some ⟨oc_L_allows, od_L_allows, .func (PySem.W.fnOf "allows" "Ladder.allows" (defArgs s_L_allows) (defBody s_L_allows) (defScope s_L_allows) .none kV_L_allows dc_L_allows pm_L_allows an_L_allows cd_L_allows ct_L_allows), sl_L_allows⟩)
    (c_L_allows : PySem.W.codeIn K cd_L_allows "Ladder.allows" = true)
    (k_L_allows : PySem.W.keepIn K (.ref f_L_allows) = true)
    (a_Llets : PySem.W.findIn K (.ref C_Ladder) "_lets" = some (some (.ref f_Llets)))
    (i_Llets : PySem.W.isFn K (.ref f_Llets) = true)
    (l_Llets : K.lookup f_Llets = some ⟨oc_Llets, od_Llets, .func (PySem.W.fnOf "_lets" "Ladder._lets" (defArgs s_Llets) (defBody s_Llets) (defScope s_Llets) .none kV_Llets dc_Llets pm_Llets an_Llets cd_Llets ct_Llets), sl_Llets⟩)
    (c_Llets : PySem.W.codeIn K cd_Llets "Ladder._lets" = true)
    (k_Llets : PySem.W.keepIn K (.ref f_Llets) = true)
    (a_L_gap : PySem.W.findIn K (.ref C_Ladder) "gap" = some (some (.ref f_L_gap)))
    (i_L_gap : PySem.W.isFn K (.ref f_L_gap) = true)
    (l_L_gap : K.lookup f_L_gap = some ⟨oc_L_gap, od_L_gap, .func (PySem.W.fnOf "gap" "Ladder.gap" (defArgs s_L_gap) (defBody s_L_gap) (defScope s_L_gap) .none kV_L_gap dc_L_gap pm_L_gap an_L_gap cd_L_gap ct_L_gap), sl_L_gap⟩)
    (c_L_gap : PySem.W.codeIn K cd_L_gap "Ladder.gap" = true)
    (k_L_gap : PySem.W.keepIn K (.ref f_L_gap) = true)
    (a_L_contains : PySem.W.findIn K (.ref C_Ladder) "__contains__" = some (some (.ref f_L_contains)))
    (i_L_contains : PySem.W.isFn K (.ref f_L_contains) = true)
    (l_L_contains : K.lookup f_L_contains = some ⟨oc_L_contains, od_L_contains, .func (PySem.W.fnOf "__contains__" "Ladder.__contains__" (defArgs s_L_contains) (defBody s_L_contains) (defScope s_L_contains) .none kV_L_contains dc_L_contains pm_L_contains an_L_contains cd_L_contains ct_L_contains), sl_L_contains⟩)
    (c_L_contains : PySem.W.codeIn K cd_L_contains "Ladder.__contains__" = true)
    (k_L_contains : PySem.W.keepIn K (.ref f_L_contains) = true)
    (cr_Ladder_MOST_LEVELS : PySem.W.readsIn K C_Ladder (.type "type") = true)
    (cg_Ladder_MOST_LEVELS : PySem.W.specialIn K (.ref C_Ladder) "__getattribute__" = some (some (.builtin "type.__getattribute__")))
    (cf_Ladder_MOST_LEVELS : PySem.W.findCls K (.ref C_Ladder) (.type "type") "MOST_LEVELS" = some (.val u_Ladder_MOST_LEVELS))
    (cx_Ladder_MOST_LEVELS : RelV (.int 24) u_Ladder_MOST_LEVELS)
    (ai_Game : PySem.W.findIn K (.ref C_Game) "__class__" = some (some (.builtin "object.__class__")))
    (mo_Game : PySem.W.mroIn K C_Game (.type "object") = some true)
    (kit_Game_Game : PySem.W.kitOne K (.ref C_Game) (.ref C_Game) = some true)
    (sm_Game_init : PySem.W.ks_superIn K C_Game C_Game "__init__" = some (some (.ref f_W_init)))
    (st_Game_init : PySem.W.typeIn K (.ref f_W_init) = some (.type "function"))
    (sn_Game_init : PySem.W.fnIn K f_W_init = true)
    (smr_Game : PySem.W.mroIn K C_Game (.ref C_Game) = some true)
    (sm_Game_out : PySem.W.ks_superIn K C_Game C_Game "out" = some (some (.ref f_W_out)))
    (st_Game_out : PySem.W.typeIn K (.ref f_W_out) = some (.type "function"))
    (sn_Game_out : PySem.W.fnIn K f_W_out = true)
    (aN_NoSuchNode : PySem.W.nsIn K mainGlobals "NoSuchNode" = some (some (.ref C_NoSuchNode)))
    (x_NoSuchNode : K.lookup C_NoSuchNode = some (excClassObj nm_NoSuchNode qn_NoSuchNode C_NoSuchNode ns_NoSuchNode bs_NoSuchNode bm_NoSuchNode true sn_NoSuchNode sb_NoSuchNode ab_NoSuchNode co_NoSuchNode dd_NoSuchNode k0_NoSuchNode k1_NoSuchNode k2_NoSuchNode k3_NoSuchNode k5_NoSuchNode "ValueError.__new__"))
    (r_NoSuchNode : PySem.HandSPX.refsVE bm_NoSuchNode = true)
    (sa_NoSuchNode : PySem.W.findIn K (.ref C_NoSuchNode) "__setattr__" = some (some (.builtin "object.__setattr__")))
    (xb_NoSuchNode : PySem.W.subIn K (.ref C_NoSuchNode) (.type "BaseException") = some true)
    (tc_NoSuchNode : PySem.W.typeIn K (.ref C_NoSuchNode) = some (.type "type"))
    (kc_NoSuchNode : PySem.W.keepIn K (.ref C_NoSuchNode) = true)
    (ga_NoSuchNode : PySem.W.findIn K (.ref C_NoSuchNode) "__getattribute__" = some (some (.builtin "BaseException.__getattribute__")))
    (gg_NoSuchNode : PySem.W.findIn K (.ref C_NoSuchNode) "__getattr__" = some none)
    (ac_NoSuchNode : PySem.W.findIn K (.ref C_NoSuchNode) "__class__" = some (some (.builtin "object.__class__")))
    (mo_NoSuchNode : PySem.W.mroIn K C_NoSuchNode (.type "object") = some true)
    (hd_NoSuchNode : PySem.W.hasDictIn K C_NoSuchNode = true)
    (ic_NoSuchNode : PySem.W.isClsIn K C_NoSuchNode = true)
    (no_NoSuchNode : PySem.W.findIn K (.ref C_NoSuchNode) "node" = some none)
    (sv_NoSuchNode : PySem.W.subIn K (.ref C_NoSuchNode) (.type "ValueError") = some true)
    (mr_NoSuchNode : PySem.W.mroIn K C_NoSuchNode (.ref C_NoSuchNode) = some true)
    (sm_NoSuchNode : PySem.W.ks_superIn K C_NoSuchNode C_NoSuchNode "__init__" = some (some (.builtin "ValueError.__init__")))
    (a_NoSuchNode_init : PySem.W.findIn K (.ref C_NoSuchNode) "__init__" = some (some (.ref f_NoSuchNode_init)))
    (t_NoSuchNode_init : PySem.W.typeIn K (.ref f_NoSuchNode_init) = some (.type "function"))
    (l_NoSuchNode_init : K.lookup f_NoSuchNode_init = some ⟨oc_NoSuchNode_init, od_NoSuchNode_init, .func (PySem.W.ksFn "__init__" "NoSuchNode.__init__" (defArgs s_NoSuchNode_init) (defBody s_NoSuchNode_init) (defScope s_NoSuchNode_init) .none kV_NoSuchNode_init dc_NoSuchNode_init pm_NoSuchNode_init an_NoSuchNode_init (.ref cda_NoSuchNode_init) ct_NoSuchNode_init cc_NoSuchNode_init), sl_NoSuchNode_init⟩)
    (c_NoSuchNode_init : PySem.W.codeIn K (.ref cda_NoSuchNode_init) "NoSuchNode.__init__" = true)
    (h_NoSuchNode_init : K.lookup cda_NoSuchNode_init = some ⟨ccl_NoSuchNode_init, cdd_NoSuchNode_init, .fields cvs_NoSuchNode_init, ccs_NoSuchNode_init⟩)
    (v_NoSuchNode_init : cvs_NoSuchNode_init[2]? = some (.str cfi_NoSuchNode_init ctf_NoSuchNode_init))
    (p_NoSuchNode_init : ((P.main.file : Str) == cfi_NoSuchNode_init) = true)
    (e_NoSuchNode_init : K.lookup cc_NoSuchNode_init = some ⟨ecl_NoSuchNode_init, eld_NoSuchNode_init, .cell (some (.ref C_NoSuchNode)), esl_NoSuchNode_init⟩)
    (aN_BadPlacement : PySem.W.nsIn K mainGlobals "BadPlacement" = some (some (.ref C_BadPlacement)))
    (x_BadPlacement : K.lookup C_BadPlacement = some (excClassObj nm_BadPlacement qn_BadPlacement C_BadPlacement ns_BadPlacement bs_BadPlacement bm_BadPlacement true sn_BadPlacement sb_BadPlacement ab_BadPlacement co_BadPlacement dd_BadPlacement k0_BadPlacement k1_BadPlacement k2_BadPlacement k3_BadPlacement k5_BadPlacement "ValueError.__new__"))
    (r_BadPlacement : PySem.HandSPX.refsVE bm_BadPlacement = true)
    (sa_BadPlacement : PySem.W.findIn K (.ref C_BadPlacement) "__setattr__" = some (some (.builtin "object.__setattr__")))
    (xb_BadPlacement : PySem.W.subIn K (.ref C_BadPlacement) (.type "BaseException") = some true)
    (tc_BadPlacement : PySem.W.typeIn K (.ref C_BadPlacement) = some (.type "type"))
    (kc_BadPlacement : PySem.W.keepIn K (.ref C_BadPlacement) = true)
    (ga_BadPlacement : PySem.W.findIn K (.ref C_BadPlacement) "__getattribute__" = some (some (.builtin "BaseException.__getattribute__")))
    (gg_BadPlacement : PySem.W.findIn K (.ref C_BadPlacement) "__getattr__" = some none)
    (ac_BadPlacement : PySem.W.findIn K (.ref C_BadPlacement) "__class__" = some (some (.builtin "object.__class__")))
    (mo_BadPlacement : PySem.W.mroIn K C_BadPlacement (.type "object") = some true)
    (hd_BadPlacement : PySem.W.hasDictIn K C_BadPlacement = true)
    (ic_BadPlacement : PySem.W.isClsIn K C_BadPlacement = true)
    (no_BadPlacement : PySem.W.findIn K (.ref C_BadPlacement) "node" = some none)
    (sv_BadPlacement : PySem.W.subIn K (.ref C_BadPlacement) (.type "ValueError") = some true)
    (mr_BadPlacement : PySem.W.mroIn K C_BadPlacement (.ref C_BadPlacement) = some true)
    (sm_BadPlacement : PySem.W.ks_superIn K C_BadPlacement C_BadPlacement "__init__" = some (some (.builtin "ValueError.__init__")))
    (a_BadPlacement_init : PySem.W.findIn K (.ref C_BadPlacement) "__init__" = some (some (.ref f_BadPlacement_init)))
    (t_BadPlacement_init : PySem.W.typeIn K (.ref f_BadPlacement_init) = some (.type "function"))
    (l_BadPlacement_init : K.lookup f_BadPlacement_init = some ⟨oc_BadPlacement_init, od_BadPlacement_init, .func (PySem.W.ksFn "__init__" "BadPlacement.__init__" (defArgs s_BadPlacement_init) (defBody s_BadPlacement_init) (defScope s_BadPlacement_init) .none kV_BadPlacement_init dc_BadPlacement_init pm_BadPlacement_init an_BadPlacement_init (.ref cda_BadPlacement_init) ct_BadPlacement_init cc_BadPlacement_init), sl_BadPlacement_init⟩)
    (c_BadPlacement_init : PySem.W.codeIn K (.ref cda_BadPlacement_init) "BadPlacement.__init__" = true)
    (h_BadPlacement_init : K.lookup cda_BadPlacement_init = some ⟨ccl_BadPlacement_init, cdd_BadPlacement_init, .fields cvs_BadPlacement_init, ccs_BadPlacement_init⟩)
    (v_BadPlacement_init : cvs_BadPlacement_init[2]? = some (.str cfi_BadPlacement_init ctf_BadPlacement_init))
    (p_BadPlacement_init : ((P.main.file : Str) == cfi_BadPlacement_init) = true)
    (e_BadPlacement_init : K.lookup cc_BadPlacement_init = some ⟨ecl_BadPlacement_init, eld_BadPlacement_init, .cell (some (.ref C_BadPlacement)), esl_BadPlacement_init⟩)
    (aN_NoSuchStep : PySem.W.nsIn K mainGlobals "NoSuchStep" = some (some (.ref C_NoSuchStep)))
    (x_NoSuchStep : K.lookup C_NoSuchStep = some (excClassObj nm_NoSuchStep qn_NoSuchStep C_NoSuchStep ns_NoSuchStep bs_NoSuchStep bm_NoSuchStep true sn_NoSuchStep sb_NoSuchStep ab_NoSuchStep co_NoSuchStep dd_NoSuchStep k0_NoSuchStep k1_NoSuchStep k2_NoSuchStep k3_NoSuchStep k5_NoSuchStep "ValueError.__new__"))
    (r_NoSuchStep : PySem.HandSPX.refsVE bm_NoSuchStep = true)
    (sa_NoSuchStep : PySem.W.findIn K (.ref C_NoSuchStep) "__setattr__" = some (some (.builtin "object.__setattr__")))
    (xb_NoSuchStep : PySem.W.subIn K (.ref C_NoSuchStep) (.type "BaseException") = some true)
    (tc_NoSuchStep : PySem.W.typeIn K (.ref C_NoSuchStep) = some (.type "type"))
    (kc_NoSuchStep : PySem.W.keepIn K (.ref C_NoSuchStep) = true)
    (ga_NoSuchStep : PySem.W.findIn K (.ref C_NoSuchStep) "__getattribute__" = some (some (.builtin "BaseException.__getattribute__")))
    (gg_NoSuchStep : PySem.W.findIn K (.ref C_NoSuchStep) "__getattr__" = some none)
    (ac_NoSuchStep : PySem.W.findIn K (.ref C_NoSuchStep) "__class__" = some (some (.builtin "object.__class__")))
    (mo_NoSuchStep : PySem.W.mroIn K C_NoSuchStep (.type "object") = some true)
    (hd_NoSuchStep : PySem.W.hasDictIn K C_NoSuchStep = true)
    (ic_NoSuchStep : PySem.W.isClsIn K C_NoSuchStep = true)
    (no_NoSuchStep : PySem.W.findIn K (.ref C_NoSuchStep) "step" = some none)
    (sv_NoSuchStep : PySem.W.subIn K (.ref C_NoSuchStep) (.type "ValueError") = some true)
    (mr_NoSuchStep : PySem.W.mroIn K C_NoSuchStep (.ref C_NoSuchStep) = some true)
    (sm_NoSuchStep : PySem.W.ks_superIn K C_NoSuchStep C_NoSuchStep "__init__" = some (some (.builtin "ValueError.__init__")))
    (a_NoSuchStep_init : PySem.W.findIn K (.ref C_NoSuchStep) "__init__" = some (some (.ref f_NoSuchStep_init)))
    (t_NoSuchStep_init : PySem.W.typeIn K (.ref f_NoSuchStep_init) = some (.type "function"))
    (l_NoSuchStep_init : K.lookup f_NoSuchStep_init = some ⟨oc_NoSuchStep_init, od_NoSuchStep_init, .func (PySem.W.ksFn "__init__" "NoSuchStep.__init__" (defArgs s_NoSuchStep_init) (defBody s_NoSuchStep_init) (defScope s_NoSuchStep_init) .none kV_NoSuchStep_init dc_NoSuchStep_init pm_NoSuchStep_init an_NoSuchStep_init (.ref cda_NoSuchStep_init) ct_NoSuchStep_init cc_NoSuchStep_init), sl_NoSuchStep_init⟩)
    (c_NoSuchStep_init : PySem.W.codeIn K (.ref cda_NoSuchStep_init) "NoSuchStep.__init__" = true)
    (h_NoSuchStep_init : K.lookup cda_NoSuchStep_init = some ⟨ccl_NoSuchStep_init, cdd_NoSuchStep_init, .fields cvs_NoSuchStep_init, ccs_NoSuchStep_init⟩)
    (v_NoSuchStep_init : cvs_NoSuchStep_init[2]? = some (.str cfi_NoSuchStep_init ctf_NoSuchStep_init))
    (p_NoSuchStep_init : ((P.main.file : Str) == cfi_NoSuchStep_init) = true)
    (e_NoSuchStep_init : K.lookup cc_NoSuchStep_init = some ⟨ecl_NoSuchStep_init, eld_NoSuchStep_init, .cell (some (.ref C_NoSuchStep)), esl_NoSuchStep_init⟩)
    (aN_TooLarge : PySem.W.nsIn K mainGlobals "TooLarge" = some (some (.ref C_TooLarge)))
    (xP_TooLarge : PySem.W.excIn K C_TooLarge [.type "ValueError", .type "Exception", .type "BaseException", .type "object"] "ValueError.__new__" = true)
    (kc_TooLarge : PySem.W.keepIn K (.ref C_TooLarge) = true)
    (xb_TooLarge : PySem.W.subIn K (.ref C_TooLarge) (.type "BaseException") = some true)
    (tc_TooLarge : PySem.W.typeIn K (.ref C_TooLarge) = some (.type "type"))
    (ic_TooLarge : PySem.W.isClsIn K C_TooLarge = true)
    (ga_TooLarge : PySem.W.findIn K (.ref C_TooLarge) "__getattribute__" = some (some (.builtin "BaseException.__getattribute__")))
    (gg_TooLarge : PySem.W.findIn K (.ref C_TooLarge) "__getattr__" = some none)
    (ac_TooLarge : PySem.W.findIn K (.ref C_TooLarge) "__class__" = some (some (.builtin "object.__class__")))
    (mo_TooLarge : PySem.W.mroIn K C_TooLarge (.type "object") = some true)
    (hd_TooLarge : PySem.W.hasDictIn K C_TooLarge = true)
    (aN_HeightMismatch : PySem.W.nsIn K mainGlobals "HeightMismatch" = some (some (.ref C_HeightMismatch)))
    (xP_HeightMismatch : PySem.W.excIn K C_HeightMismatch [.type "ValueError", .type "Exception", .type "BaseException", .type "object"] "ValueError.__new__" = true)
    (kc_HeightMismatch : PySem.W.keepIn K (.ref C_HeightMismatch) = true)
    (xb_HeightMismatch : PySem.W.subIn K (.ref C_HeightMismatch) (.type "BaseException") = some true)
    (tc_HeightMismatch : PySem.W.typeIn K (.ref C_HeightMismatch) = some (.type "type"))
    (ic_HeightMismatch : PySem.W.isClsIn K C_HeightMismatch = true)
    (ga_HeightMismatch : PySem.W.findIn K (.ref C_HeightMismatch) "__getattribute__" = some (some (.builtin "BaseException.__getattribute__")))
    (gg_HeightMismatch : PySem.W.findIn K (.ref C_HeightMismatch) "__getattr__" = some none)
    (ac_HeightMismatch : PySem.W.findIn K (.ref C_HeightMismatch) "__class__" = some (some (.builtin "object.__class__")))
    (mo_HeightMismatch : PySem.W.mroIn K C_HeightMismatch (.type "object") = some true)
    (hd_HeightMismatch : PySem.W.hasDictIn K C_HeightMismatch = true)
    (aN_BadSize : PySem.W.nsIn K mainGlobals "BadSize" = some (some (.ref C_BadSize)))
    (xP_BadSize : PySem.W.excIn K C_BadSize [.type "ValueError", .type "Exception", .type "BaseException", .type "object"] "ValueError.__new__" = true)
    (kc_BadSize : PySem.W.keepIn K (.ref C_BadSize) = true)
    (xb_BadSize : PySem.W.subIn K (.ref C_BadSize) (.type "BaseException") = some true)
    (tc_BadSize : PySem.W.typeIn K (.ref C_BadSize) = some (.type "type"))
    (ic_BadSize : PySem.W.isClsIn K C_BadSize = true)
    (ga_BadSize : PySem.W.findIn K (.ref C_BadSize) "__getattribute__" = some (some (.builtin "BaseException.__getattribute__")))
    (gg_BadSize : PySem.W.findIn K (.ref C_BadSize) "__getattr__" = some none)
    (ac_BadSize : PySem.W.findIn K (.ref C_BadSize) "__class__" = some (some (.builtin "object.__class__")))
    (mo_BadSize : PySem.W.mroIn K C_BadSize (.type "object") = some true)
    (hd_BadSize : PySem.W.hasDictIn K C_BadSize = true)
    (ag__MOST_LEVELS : PySem.W.nsIn K mainGlobals "_MOST_LEVELS" = some (some u__MOST_LEVELS))
    (rg__MOST_LEVELS : RelV (.int 8) u__MOST_LEVELS)
    (ns_HeightMismatch : PySem.W.subIn K (.ref C_HeightMismatch) (.type "StopIteration") = some false) :
    Txt P K mg ⟨C_Web, C_Game, C_Ladder, C_NoSuchNode, C_BadPlacement, C_NoSuchStep, C_TooLarge, C_HeightMismatch, C_BadSize⟩ := {
    n_len := PySem.W.mg_none_of X G z_len,
    n_abs := PySem.W.mg_none_of X G z_abs,
    n_max := PySem.W.mg_none_of X G z_max,
    n_min := PySem.W.mg_none_of X G z_min,
    n_isinstance := PySem.W.mg_none_of X G z_isinstance,
    n_int := PySem.W.mg_none_of X G z_int,
    n_bool := PySem.W.mg_none_of X G z_bool,
    n_str := PySem.W.mg_none_of X G z_str,
    n_list := PySem.W.mg_none_of X G z_list,
    n_tuple := PySem.W.mg_none_of X G z_tuple,
    n_range := PySem.W.mg_none_of X G z_range,
    n_enumerate := PySem.W.mg_none_of X G z_enumerate,
    n_reversed := PySem.W.mg_none_of X G z_reversed,
    n_zip := PySem.W.mg_none_of X G z_zip,
    n_set := PySem.W.mg_none_of X G z_set,
    n_sorted := PySem.W.mg_none_of X G z_sorted,
    n_any := PySem.W.mg_none_of X G z_any,
    n_all := PySem.W.mg_none_of X G z_all,
    n_ValueError := PySem.W.mg_none_of X G z_ValueError,
    objc := ⟨o_gt, o_tk⟩,
    d_check_height := ⟨_, _, fun_mk (st := s_check_height) l_check_height c_check_height k_check_height, PySem.W.mg_of X G a_check_height, (fun_mk (st := s_check_height) l_check_height c_check_height k_check_height).binds (ps := ["height"]) (fun _ _ _ _ _ _ us hl => match us, hl with | [_], _ => rfl)⟩,
    d_check_same_height := ⟨_, _, fun_mk (st := s_check_same_height) l_check_same_height c_check_same_height k_check_same_height, PySem.W.mg_of X G a_check_same_height, (fun_mk (st := s_check_same_height) l_check_same_height c_check_same_height k_check_same_height).binds (ps := ["one", "other"]) (fun _ _ _ _ _ _ us hl => match us, hl with | [_, _], _ => rfl)⟩,
    d_check_node := ⟨_, _, fun_mk (st := s_check_node) l_check_node c_check_node k_check_node, PySem.W.mg_of X G a_check_node, (fun_mk (st := s_check_node) l_check_node c_check_node k_check_node).binds (ps := ["size", "node"]) (fun _ _ _ _ _ _ us hl => match us, hl with | [_, _], _ => rfl)⟩,
    d_check_step := ⟨_, _, fun_mk (st := s_check_step) l_check_step c_check_step k_check_step, PySem.W.mg_of X G a_check_step, (fun_mk (st := s_check_step) l_check_step c_check_step k_check_step).binds (ps := ["top", "step"]) (fun _ _ _ _ _ _ us hl => match us, hl with | [_, _], _ => rfl)⟩,
    d_check_rank := ⟨_, _, fun_mk (st := s_check_rank) l_check_rank c_check_rank k_check_rank, PySem.W.mg_of X G a_check_rank, (fun_mk (st := s_check_rank) l_check_rank c_check_rank k_check_rank).binds (ps := ["height", "rank"]) (fun _ _ _ _ _ _ us hl => match us, hl with | [_, _], _ => rfl)⟩,
    d_check_row := ⟨_, _, fun_mk (st := s_check_row) l_check_row c_check_row k_check_row, PySem.W.mg_of X G a_check_row, (fun_mk (st := s_check_row) l_check_row c_check_row k_check_row).binds (ps := ["height", "row", "most"]) (fun _ _ _ _ _ _ us hl => match us, hl with | [_, _, _], _ => rfl)⟩,
    d_check_placement := ⟨_, _, fun_mk (st := s_check_placement) l_check_placement c_check_placement k_check_placement, PySem.W.mg_of X G a_check_placement, (fun_mk (st := s_check_placement) l_check_placement c_check_placement k_check_placement).binds (ps := ["game", "ladder", "placement"]) (fun _ _ _ _ _ _ us hl => match us, hl with | [_, _, _], _ => rfl)⟩,
    d_is_allowed := ⟨_, _, fun_mk (st := s_is_allowed) l_is_allowed c_is_allowed k_is_allowed, PySem.W.mg_of X G a_is_allowed, (fun_mk (st := s_is_allowed) l_is_allowed c_is_allowed k_is_allowed).binds (ps := ["ladder", "placement", "edge"]) (fun _ _ _ _ _ _ us hl => match us, hl with | [_, _, _], _ => rfl)⟩,
    d_is_fitting := ⟨_, _, fun_mk (st := s_is_fitting) l_is_fitting c_is_fitting k_is_fitting, PySem.W.mg_of X G a_is_fitting, (fun_mk (st := s_is_fitting) l_is_fitting c_is_fitting k_is_fitting).binds (ps := ["game", "ladder", "placement", "node"]) (fun _ _ _ _ _ _ us hl => match us, hl with | [_, _, _, _], _ => rfl)⟩,
    d_misfits := ⟨_, _, fun_mk (st := s_misfits) l_misfits c_misfits k_misfits, PySem.W.mg_of X G a_misfits, (fun_mk (st := s_misfits) l_misfits c_misfits k_misfits).binds (ps := ["game", "ladder", "placement"]) (fun _ _ _ _ _ _ us hl => match us, hl with | [_, _, _], _ => rfl)⟩,
    d_lift := ⟨_, _, fun_mk (st := s_lift) l_lift c_lift k_lift, PySem.W.mg_of X G a_lift, (fun_mk (st := s_lift) l_lift c_lift k_lift).binds (ps := ["game", "ladder", "placement", "node"]) (fun _ _ _ _ _ _ us hl => match us, hl with | [_, _, _, _], _ => rfl)⟩,
    d_climb := ⟨_, _, fun_mk (st := s_climb) l_climb c_climb k_climb, PySem.W.mg_of X G a_climb, (fun_mk (st := s_climb) l_climb c_climb k_climb).binds (ps := ["game", "ladder"]) (fun _ _ _ _ _ _ us hl => match us, hl with | [_, _], _ => rfl)⟩,
    d_told_nodes := ⟨_, _, fun_mk (st := s_told_nodes) l_told_nodes c_told_nodes k_told_nodes, PySem.W.mg_of X G a_told_nodes, (fun_mk (st := s_told_nodes) l_told_nodes c_told_nodes k_told_nodes).binds (ps := ["game", "ladder"]) (fun _ _ _ _ _ _ us hl => match us, hl with | [_, _], _ => rfl)⟩,
    d_check_count := ⟨_, _, fun_mk (st := s_check_count) l_check_count c_check_count k_check_count, PySem.W.mg_of X G a_check_count, (fun_mk (st := s_check_count) l_check_count c_check_count k_check_count).binds (ps := ["count", "most"]) (fun _ _ _ _ _ _ us hl => match us, hl with | [_, _], _ => rfl)⟩,
    d__check_edges := ⟨_, _, fun_mk (st := s__check_edges) l__check_edges c__check_edges k__check_edges, PySem.W.mg_of X G a__check_edges, (fun_mk (st := s__check_edges) l__check_edges c__check_edges k__check_edges).binds (ps := ["height", "size", "edges"]) (fun _ _ _ _ _ _ us hl => match us, hl with | [_, _, _], _ => rfl)⟩,
    d__check_owners := ⟨_, _, fun_mk (st := s__check_owners) l__check_owners c__check_owners k__check_owners, PySem.W.mg_of X G a__check_owners, (fun_mk (st := s__check_owners) l__check_owners c__check_owners k__check_owners).binds (ps := ["owners"]) (fun _ _ _ _ _ _ us hl => match us, hl with | [_], _ => rfl)⟩,
    d__check_dead_ends := ⟨_, _, fun_mk (st := s__check_dead_ends) l__check_dead_ends c__check_dead_ends k__check_dead_ends, PySem.W.mg_of X G a__check_dead_ends, (fun_mk (st := s__check_dead_ends) l__check_dead_ends c__check_dead_ends k__check_dead_ends).binds (ps := ["size", "edges"]) (fun _ _ _ _ _ _ us hl => match us, hl with | [_, _], _ => rfl)⟩,
    d__counts_from := ⟨_, _, fun_mk (st := s__counts_from) l__counts_from c__counts_from k__counts_from, PySem.W.mg_of X G a__counts_from, (fun_mk (st := s__counts_from) l__counts_from c__counts_from k__counts_from).binds (ps := ["level", "levels"]) (fun _ _ _ _ _ _ us hl => match us, hl with | [_, _], _ => rfl)⟩,
    d_next_marks := ⟨_, _, fun_mk (st := s_next_marks) l_next_marks c_next_marks k_next_marks, PySem.W.mg_of X G a_next_marks, (fun_mk (st := s_next_marks) l_next_marks c_next_marks k_next_marks).binds (ps := ["levels", "marked", "level"]) (fun _ _ _ _ _ _ us hl => match us, hl with | [_, _, _], _ => rfl)⟩,
    d_last_marks := ⟨_, _, fun_mk (st := s_last_marks) l_last_marks c_last_marks k_last_marks, PySem.W.mg_of X G a_last_marks, (fun_mk (st := s_last_marks) l_last_marks c_last_marks k_last_marks).binds (ps := ["levels", "row"]) (fun _ _ _ _ _ _ us hl => match us, hl with | [_, _], _ => rfl)⟩,
    d_holds := ⟨_, _, fun_mk (st := s_holds) l_holds c_holds k_holds, PySem.W.mg_of X G a_holds, (fun_mk (st := s_holds) l_holds c_holds k_holds).binds (ps := ["levels", "row"]) (fun _ _ _ _ _ _ us hl => match us, hl with | [_, _], _ => rfl)⟩,
    d_ends := ⟨_, _, fun_mk (st := s_ends) l_ends c_ends k_ends, PySem.W.mg_of X G a_ends, (fun_mk (st := s_ends) l_ends c_ends k_ends).binds (ps := ["ladder", "row"]) (fun _ _ _ _ _ _ us hl => match us, hl with | [_, _], _ => rfl)⟩,
    d_hold := ⟨_, _, fun_mk (st := s_hold) l_hold c_hold k_hold, PySem.W.mg_of X G a_hold, (fun_mk (st := s_hold) l_hold c_hold k_hold).binds (ps := ["ladder", "row"]) (fun _ _ _ _ _ _ us hl => match us, hl with | [_, _], _ => rfl)⟩,
    d__marks_from_the_back := ⟨_, _, fun_mk (st := s__marks_from_the_back) l__marks_from_the_back c__marks_from_the_back k__marks_from_the_back, PySem.W.mg_of X G a__marks_from_the_back, (fun_mk (st := s__marks_from_the_back) l__marks_from_the_back c__marks_from_the_back k__marks_from_the_back).binds (ps := ["ladder", "row"]) (fun _ _ _ _ _ _ us hl => match us, hl with | [_, _], _ => rfl)⟩,
    d__next_step := ⟨_, _, fun_mk (st := s__next_step) l__next_step c__next_step k__next_step, PySem.W.mg_of X G a__next_step, (fun_mk (st := s__next_step) l__next_step c__next_step k__next_step).binds (ps := ["ladder", "start", "level", "marked"]) (fun _ _ _ _ _ _ us hl => match us, hl with | [_, _, _, _], _ => rfl)⟩,
    d_row_game := ⟨_, _, fun_mk (st := s_row_game) l_row_game c_row_game k_row_game, PySem.W.mg_of X G a_row_game, (fun_mk (st := s_row_game) l_row_game c_row_game k_row_game).binds (ps := ["ladder"]) (fun _ _ _ _ _ _ us hl => match us, hl with | [_], _ => rfl)⟩,
    d_pool := ⟨_, _, fun_mk (st := s_pool) l_pool c_pool k_pool, PySem.W.mg_of X G a_pool, (fun_mk (st := s_pool) l_pool c_pool k_pool).binds (ps := ["script", "k"]) (fun _ _ _ _ _ _ us hl => match us, hl with | [_, _], _ => rfl)⟩,
    d_draw := ⟨_, _, fun_mk (st := s_draw) l_draw c_draw k_draw, PySem.W.mg_of X G a_draw, (fun_mk (st := s_draw) l_draw c_draw k_draw).binds (ps := ["pool", "many"]) (fun _ _ _ _ _ _ us hl => match us, hl with | [_, _], _ => rfl)⟩,
    d_levels := ⟨_, _, fun_mk (st := s_levels) l_levels c_levels k_levels, PySem.W.mg_of X G a_levels, (fun_mk (st := s_levels) l_levels c_levels k_levels).binds (ps := ["pool", "height", "limit"]) (fun _ _ _ _ _ _ us hl => match us, hl with | [_, _, _], _ => rfl)⟩,
    d_row_edges := ⟨_, _, fun_mk (st := s_row_edges) l_row_edges c_row_edges k_row_edges, PySem.W.mg_of X G a_row_edges, (fun_mk (st := s_row_edges) l_row_edges c_row_edges k_row_edges).binds (ps := ["levels"]) (fun _ _ _ _ _ _ us hl => match us, hl with | [_], _ => rfl)⟩,
    d_number := ⟨_, _, fun_mk (st := s_number) l_number c_number k_number, PySem.W.mg_of X G a_number, (fun_mk (st := s_number) l_number c_number k_number).binds (ps := ["value"]) (fun _ _ _ _ _ _ us hl => match us, hl with | [_], _ => rfl)⟩,
    d_same := ⟨_, _, fun_mk (st := s_same) l_same c_same k_same, PySem.W.mg_of X G a_same, (fun_mk (st := s_same) l_same c_same k_same).binds (ps := ["answer", "due"]) (fun _ _ _ _ _ _ us hl => match us, hl with | [_, _], _ => rfl)⟩,
    d_gap := ⟨_, _, fun_mk (st := s_gap) l_gap c_gap k_gap, PySem.W.mg_of X G a_gap, (fun_mk (st := s_gap) l_gap c_gap k_gap).binds (ps := ["levels", "one", "other"]) (fun _ _ _ _ _ _ us hl => match us, hl with | [_, _, _], _ => rfl)⟩,
    d_allows := ⟨_, _, fun_mk (st := s_allows) l_allows c_allows k_allows, PySem.W.mg_of X G a_allows, (fun_mk (st := s_allows) l_allows c_allows k_allows).binds (ps := ["levels", "source", "rank", "target"]) (fun _ _ _ _ _ _ us hl => match us, hl with | [_, _, _, _], _ => rfl)⟩,
    d_last_steps := ⟨_, _, fun_mk (st := s_last_steps) l_last_steps c_last_steps k_last_steps, PySem.W.mg_of X G a_last_steps, (fun_mk (st := s_last_steps) l_last_steps c_last_steps k_last_steps).binds (ps := ["levels", "row"]) (fun _ _ _ _ _ _ us hl => match us, hl with | [_, _], _ => rfl)⟩,
    d_fits := ⟨_, _, fun_mk (st := s_fits) l_fits c_fits k_fits, PySem.W.mg_of X G a_fits, (fun_mk (st := s_fits) l_fits c_fits k_fits).binds (ps := ["letters", "edges", "levels", "places", "node"]) (fun _ _ _ _ _ _ us hl => match us, hl with | [_, _, _, _, _], _ => rfl)⟩,
    d_lw_climb := ⟨_, _, fun_mk (st := s_lw_climb) l_lw_climb c_lw_climb k_lw_climb, PySem.W.mg_of X G a_lw_climb, (fun_mk (st := s_lw_climb) l_lw_climb c_lw_climb k_lw_climb).binds (ps := ["letters", "edges", "levels"]) (fun _ _ _ _ _ _ us hl => match us, hl with | [_, _, _], _ => rfl)⟩,
    d_gaps := ⟨_, _, fun_mk (st := s_gaps) l_gaps c_gaps k_gaps, PySem.W.mg_of X G a_gaps, (fun_mk (st := s_gaps) l_gaps c_gaps k_gaps).binds (ps := ["levels", "steps"]) (fun _ _ _ _ _ _ us hl => match us, hl with | [_, _], _ => rfl)⟩,
    d_any_row := ⟨_, _, fun_mk (st := s_any_row) l_any_row c_any_row k_any_row, PySem.W.mg_of X G a_any_row, (fun_mk (st := s_any_row) l_any_row c_any_row k_any_row).binds (ps := ["pool", "height", "levels"]) (fun _ _ _ _ _ _ us hl => match us, hl with | [_, _, _], _ => rfl)⟩,
    d_due_game := ⟨_, _, fun_mk (st := s_due_game) l_due_game c_due_game k_due_game, PySem.W.mg_of X G a_due_game, (fun_mk (st := s_due_game) l_due_game c_due_game k_due_game).binds (ps := ["game", "height", "letters", "row"]) (fun _ _ _ _ _ _ us hl => match us, hl with | [_, _, _, _], _ => rfl)⟩,
    d_told_at := ⟨_, _, fun_mk (st := s_told_at) l_told_at c_told_at k_told_at, PySem.W.mg_of X G a_told_at, (fun_mk (st := s_told_at) l_told_at c_told_at k_told_at).binds (ps := ["game", "ladder", "places"]) (fun _ _ _ _ _ _ us hl => match us, hl with | [_, _, _], _ => rfl)⟩,
    d_held_at := ⟨_, _, fun_mk (st := s_held_at) l_held_at c_held_at k_held_at, PySem.W.mg_of X G a_held_at, (fun_mk (st := s_held_at) l_held_at c_held_at k_held_at).binds (ps := ["ladder", "levels", "row", "places", "last"]) (fun _ _ _ _ _ _ us hl => match us, hl with | [_, _, _, _, _], _ => rfl)⟩,
    d_told_if_held := ⟨_, _, fun_mk (st := s_told_if_held) l_told_if_held c_told_if_held k_told_if_held, PySem.W.mg_of X G a_told_if_held, (fun_mk (st := s_told_if_held) l_told_if_held c_told_if_held k_told_if_held).binds (ps := ["height", "levels", "row", "last"]) (fun _ _ _ _ _ _ us hl => match us, hl with | [_, _, _, _], _ => rfl)⟩,
    d_given := ⟨_, _, fun_mk (st := s_given) l_given c_given k_given, PySem.W.mg_of X G a_given, (fun_mk (st := s_given) l_given c_given k_given).binds (ps := ["height", "levels", "row", "node"]) (fun _ _ _ _ _ _ us hl => match us, hl with | [_, _, _, _], _ => rfl)⟩,
    d_law := ⟨_, _, fun_mk (st := s_law) l_law c_law k_law, PySem.W.mg_of X G a_law, (fun_mk (st := s_law) l_law c_law k_law).binds (ps := ["script"]) (fun _ _ _ _ _ _ us hl => match us, hl with | [_], _ => rfl)⟩,
    d_lifts := GenIn.none1 (st := s_lifts) 2 l_lifts c_lifts k_lifts (PySem.W.mg_of X G a_lifts) kn_lifts rfl (fun D doc pm an cdv ct us ks hu hk => match us, ks, hu, hk with | [_, _], [_], _, _ => ⟨_, _, _, _, _, _, rfl, rfl, rfl⟩),
    cl_Web := ⟨pg_Web, hd_Web, po_Web, sa_Web⟩,
    mg_Web := PySem.W.mg_of X G aC_Web,
    na_Web_height := na_Web_height,
    na_Web_size := na_Web_size,
    na_Web_edges := na_Web_edges,
    mk_Web := ⟨_, _, fun_mk (st := s_W_init) l_W_init c_W_init k_W_init, ⟨mk_Web, a_W_init, i_W_init, kc_Web⟩, PySem.W.mg_of X G aC_Web, (fun_mk (st := s_W_init) l_W_init c_W_init k_W_init).binds (ps := ["self", "height", "size", "edges"]) (fun _ _ _ _ _ _ us hl => match us, hl with | [_, _, _, _], _ => rfl)⟩,
    mt_W_out := ⟨_, _, fun_mk (st := s_W_out) l_W_out c_W_out k_W_out, ⟨a_W_out, i_W_out, k_W_out⟩, (fun_mk (st := s_W_out) l_W_out c_W_out k_W_out).binds (ps := ["self", "node"]) (fun _ _ _ _ _ _ us hl => match us, hl with | [_, _], _ => rfl)⟩,
    cv_Web_MOST_NODES := ⟨_, _, ⟨cr_Web_MOST_NODES, cg_Web_MOST_NODES⟩, ⟨cf_Web_MOST_NODES, cx_Web_MOST_NODES⟩⟩,
    cv_Web_MOST_EDGES := ⟨_, _, ⟨cr_Web_MOST_EDGES, cg_Web_MOST_EDGES⟩, ⟨cf_Web_MOST_EDGES, cx_Web_MOST_EDGES⟩⟩,
    cl_Game := ⟨pg_Game, hd_Game, po_Game, sa_Game⟩,
    mg_Game := PySem.W.mg_of X G aC_Game,
    na_Game_height := na_Game_height,
    na_Game_size := na_Game_size,
    na_Game_edges := na_Game_edges,
    na_Game_owners := na_Game_owners,
    mk_Game := ⟨⟨_, _, _, _, ⟨⟨_, _, _, l_G_init⟩, ⟨_, rfl, rfl⟩, ⟨_, _, _, _, _, _, h_G_init, v_G_init, p_G_init⟩, ⟨_, _, _, e_G_init⟩, Option.isSome_iff_exists.mp icl_Game, PySem.W.mg_none_of X G z_super, z_top, zt_any⟩, ⟨mk_Game, a_G_init, i_G_init, kc_Game⟩, PySem.W.mg_of X G aC_Game, .all (fun us hl => match us, hl with | [_, _, _, _], _ => rfl), _, _, _, _, _, _, _, _, rfl, l_G_init, c_G_init⟩⟩,
    mt_G_out := ⟨⟨_, _, _, _, ⟨⟨_, _, _, l_G_out⟩, ⟨_, rfl, rfl⟩, ⟨_, _, _, _, _, _, h_G_out, v_G_out, p_G_out⟩, ⟨_, _, _, e_G_out⟩, Option.isSome_iff_exists.mp icl_Game, PySem.W.mg_none_of X G z_super, z_top, zt_any⟩, ⟨a_G_out, i_G_out, k_G_out⟩, .all (fun us hl => match us, hl with | [_, _], _ => rfl), _, _, _, _, _, _, _, _, rfl, l_G_out, c_G_out⟩⟩,
    mt_G_with_owner := ⟨_, _, fun_mk (st := s_G_with_owner) l_G_with_owner c_G_with_owner k_G_with_owner, ⟨a_G_with_owner, i_G_with_owner, k_G_with_owner⟩, (fun_mk (st := s_G_with_owner) l_G_with_owner c_G_with_owner k_G_with_owner).binds (ps := ["self", "node", "owner"]) (fun _ _ _ _ _ _ us hl => match us, hl with | [_, _, _], _ => rfl)⟩,
    cl_Ladder := ⟨pg_Ladder, hd_Ladder, po_Ladder, sa_Ladder⟩,
    mg_Ladder := PySem.W.mg_of X G aC_Ladder,
    na_Ladder_height := na_Ladder_height,
    na_Ladder_levels := na_Ladder_levels,
    na_Ladder_top := na_Ladder_top,
    na_Ladder__counts := na_Ladder__counts,
    mk_Ladder := ⟨_, _, fun_mk (st := s_L_init) l_L_init c_L_init k_L_init, ⟨mk_Ladder, a_L_init, i_L_init, kc_Ladder⟩, PySem.W.mg_of X G aC_Ladder, (fun_mk (st := s_L_init) l_L_init c_L_init k_L_init).binds (ps := ["self", "height", "levels"]) (fun _ _ _ _ _ _ us hl => match us, hl with | [_, _, _], _ => rfl)⟩,
    mt_L_allows := ⟨_, _, fun_mk (st := s_L_allows) l_L_allows c_L_allows k_L_allows, ⟨a_L_allows, i_L_allows, k_L_allows⟩, (fun_mk (st := s_L_allows) l_L_allows c_L_allows k_L_allows).binds (ps := ["self", "source", "rank", "target"]) (fun _ _ _ _ _ _ us hl => match us, hl with | [_, _, _, _], _ => rfl)⟩,
    mt_Llets := ⟨_, _, fun_mk (st := s_Llets) l_Llets c_Llets k_Llets, ⟨a_Llets, i_Llets, k_Llets⟩, (fun_mk (st := s_Llets) l_Llets c_Llets k_Llets).binds (ps := ["self", "source", "rank", "target"]) (fun _ _ _ _ _ _ us hl => match us, hl with | [_, _, _, _], _ => rfl)⟩,
    mt_L_gap := ⟨_, _, fun_mk (st := s_L_gap) l_L_gap c_L_gap k_L_gap, ⟨a_L_gap, i_L_gap, k_L_gap⟩, (fun_mk (st := s_L_gap) l_L_gap c_L_gap k_L_gap).binds (ps := ["self", "one", "other"]) (fun _ _ _ _ _ _ us hl => match us, hl with | [_, _, _], _ => rfl)⟩,
    mt_L_contains := ⟨_, _, fun_mk (st := s_L_contains) l_L_contains c_L_contains k_L_contains, ⟨a_L_contains, i_L_contains, k_L_contains⟩, (fun_mk (st := s_L_contains) l_L_contains c_L_contains k_L_contains).binds (ps := ["self", "row"]) (fun _ _ _ _ _ _ us hl => match us, hl with | [_, _], _ => rfl)⟩,
    cv_Ladder_MOST_LEVELS := ⟨_, _, ⟨cr_Ladder_MOST_LEVELS, cg_Ladder_MOST_LEVELS⟩, ⟨cf_Ladder_MOST_LEVELS, cx_Ladder_MOST_LEVELS⟩⟩,
    ai_Game := ai_Game,
    mo_Game := mo_Game,
    kit_Game_Game := kit_Game_Game,
    su_Game_init := ⟨⟨_, _, sm_Game_init, st_Game_init, sn_Game_init, fun_mk (st := s_W_init) l_W_init c_W_init k_W_init, (fun_mk (st := s_W_init) l_W_init c_W_init k_W_init).binds (ps := ["self", "height", "size", "edges"]) (fun _ _ _ _ _ _ us hl => match us, hl with | [_, _, _, _], _ => rfl)⟩, smr_Game, by decide⟩,
    su_Game_out := ⟨⟨_, _, sm_Game_out, st_Game_out, sn_Game_out, fun_mk (st := s_W_out) l_W_out c_W_out k_W_out, (fun_mk (st := s_W_out) l_W_out c_W_out k_W_out).binds (ps := ["self", "node"]) (fun _ _ _ _ _ _ us hl => match us, hl with | [_, _], _ => rfl)⟩, smr_Game, by decide⟩,
    mg_NoSuchNode := PySem.W.mg_of X G aN_NoSuchNode,
    e_NoSuchNode := { gC := PySem.W.mg_of X G aN_NoSuchNode, T := ⟨⟨_, _, _, _, _, _, _, _, _, _, _, _, _, _, _, x_NoSuchNode, r_NoSuchNode⟩, sa_NoSuchNode, xb_NoSuchNode, tc_NoSuchNode, kc_NoSuchNode⟩, E := ⟨ic_NoSuchNode, ga_NoSuchNode, gg_NoSuchNode, xb_NoSuchNode, ac_NoSuchNode, mo_NoSuchNode, hd_NoSuchNode⟩, X := ⟨ga_NoSuchNode, gg_NoSuchNode, xb_NoSuchNode, hd_NoSuchNode⟩, no := no_NoSuchNode, sm := sm_NoSuchNode, mr := mr_NoSuchNode, sv := sv_NoSuchNode, ini := ⟨_, _, _, _, a_NoSuchNode_init, t_NoSuchNode_init, ⟨⟨_, _, _, l_NoSuchNode_init⟩, ⟨_, rfl, rfl⟩, ⟨_, _, _, _, _, _, h_NoSuchNode_init, v_NoSuchNode_init, p_NoSuchNode_init⟩, ⟨_, _, _, e_NoSuchNode_init⟩, Option.isSome_iff_exists.mp ic_NoSuchNode, PySem.W.mg_none_of X G z_super, z_top, zt_any⟩, .all (fun us hl => match us, hl with | [_, _], _ => rfl), _, _, _, _, _, _, _, _, rfl, l_NoSuchNode_init, c_NoSuchNode_init⟩ },
    mg_BadPlacement := PySem.W.mg_of X G aN_BadPlacement,
    e_BadPlacement := { gC := PySem.W.mg_of X G aN_BadPlacement, T := ⟨⟨_, _, _, _, _, _, _, _, _, _, _, _, _, _, _, x_BadPlacement, r_BadPlacement⟩, sa_BadPlacement, xb_BadPlacement, tc_BadPlacement, kc_BadPlacement⟩, E := ⟨ic_BadPlacement, ga_BadPlacement, gg_BadPlacement, xb_BadPlacement, ac_BadPlacement, mo_BadPlacement, hd_BadPlacement⟩, X := ⟨ga_BadPlacement, gg_BadPlacement, xb_BadPlacement, hd_BadPlacement⟩, no := no_BadPlacement, sm := sm_BadPlacement, mr := mr_BadPlacement, sv := sv_BadPlacement, ini := ⟨_, _, _, _, a_BadPlacement_init, t_BadPlacement_init, ⟨⟨_, _, _, l_BadPlacement_init⟩, ⟨_, rfl, rfl⟩, ⟨_, _, _, _, _, _, h_BadPlacement_init, v_BadPlacement_init, p_BadPlacement_init⟩, ⟨_, _, _, e_BadPlacement_init⟩, Option.isSome_iff_exists.mp ic_BadPlacement, PySem.W.mg_none_of X G z_super, z_top, zt_any⟩, .all (fun us hl => match us, hl with | [_, _], _ => rfl), _, _, _, _, _, _, _, _, rfl, l_BadPlacement_init, c_BadPlacement_init⟩ },
    mg_NoSuchStep := PySem.W.mg_of X G aN_NoSuchStep,
    e_NoSuchStep := { gC := PySem.W.mg_of X G aN_NoSuchStep, T := ⟨⟨_, _, _, _, _, _, _, _, _, _, _, _, _, _, _, x_NoSuchStep, r_NoSuchStep⟩, sa_NoSuchStep, xb_NoSuchStep, tc_NoSuchStep, kc_NoSuchStep⟩, E := ⟨ic_NoSuchStep, ga_NoSuchStep, gg_NoSuchStep, xb_NoSuchStep, ac_NoSuchStep, mo_NoSuchStep, hd_NoSuchStep⟩, X := ⟨ga_NoSuchStep, gg_NoSuchStep, xb_NoSuchStep, hd_NoSuchStep⟩, no := no_NoSuchStep, sm := sm_NoSuchStep, mr := mr_NoSuchStep, sv := sv_NoSuchStep, ini := ⟨_, _, _, _, a_NoSuchStep_init, t_NoSuchStep_init, ⟨⟨_, _, _, l_NoSuchStep_init⟩, ⟨_, rfl, rfl⟩, ⟨_, _, _, _, _, _, h_NoSuchStep_init, v_NoSuchStep_init, p_NoSuchStep_init⟩, ⟨_, _, _, e_NoSuchStep_init⟩, Option.isSome_iff_exists.mp ic_NoSuchStep, PySem.W.mg_none_of X G z_super, z_top, zt_any⟩, .all (fun us hl => match us, hl with | [_, _], _ => rfl), _, _, _, _, _, _, _, _, rfl, l_NoSuchStep_init, c_NoSuchStep_init⟩ },
    mg_TooLarge := PySem.W.mg_of X G aN_TooLarge,
    r_TooLarge := ⟨xP_TooLarge, PySem.W.mg_of X G aN_TooLarge, kc_TooLarge, xb_TooLarge, tc_TooLarge, ⟨ic_TooLarge, ga_TooLarge, gg_TooLarge, xb_TooLarge, ac_TooLarge, mo_TooLarge, hd_TooLarge⟩⟩,
    mg_HeightMismatch := PySem.W.mg_of X G aN_HeightMismatch,
    r_HeightMismatch := ⟨xP_HeightMismatch, PySem.W.mg_of X G aN_HeightMismatch, kc_HeightMismatch, xb_HeightMismatch, tc_HeightMismatch, ⟨ic_HeightMismatch, ga_HeightMismatch, gg_HeightMismatch, xb_HeightMismatch, ac_HeightMismatch, mo_HeightMismatch, hd_HeightMismatch⟩⟩,
    mg_BadSize := PySem.W.mg_of X G aN_BadSize,
    r_BadSize := ⟨xP_BadSize, PySem.W.mg_of X G aN_BadSize, kc_BadSize, xb_BadSize, tc_BadSize, ⟨ic_BadSize, ga_BadSize, gg_BadSize, xb_BadSize, ac_BadSize, mo_BadSize, hd_BadSize⟩⟩,
    gi__MOST_LEVELS := ⟨_, PySem.W.mg_of X G ag__MOST_LEVELS, rg__MOST_LEVELS⟩,
    ns_HeightMismatch := ns_HeightMismatch }
theorem walk {l : PySem.W.OpenLaw} {q : Program} {loose : List Str} {XP : (Str → Option Value) → Heap → Prop} {YP : World → Heap → Prop} {d : DefRec} {K : Params → PySem.W.Frag} (hn : l.most = some 63) (hdf : d.params.defaults = []) (hd : d.name = "law")
    (hY : ∀ (w : World) (h : Heap), YP w h → (K w.params).In h)
    (F : ∀ (w : World) (mg : Str → Option Value) (h : Heap), (K w.params).In h → h.Ns mainGlobals mg → ∃ c, Txt l.prog (K w.params) mg c) :
    PySem.W.WalkO q loose XP YP l.row.toRowW d [] (fun f vs => PySem.call f vs) :=
  L2.walk_of (n := 63) (k := lawLevel) (x := "script") (CX := fun _ => CX0) (sp := fun w => spLaw (K w.params)) hn (by decide) hdf ⟨rfl, by decide, by decide⟩ hY
    (fun w mg fa h KX G hmg => by
      obtain ⟨ζ, T⟩ := F w mg h KX G
      obtain ⟨f, fd, Ff, hm, b⟩ := T.d_law.ex
      rw [hd, hm] at hmg
      cases hmg
      refine ⟨fd, fun s v => ?_, fun base _ _ => ok_law T Ff⟩
      obtain ⟨oc, od, kV, doc, pm, an, cdv, ct, osl, rfl, lk, hcd⟩ := Ff.ex
      exact .of_eq rfl)
    (fun _ _ a ns hl _ hS => ⟨a, ns, rfl, hS, fun _ => rfl⟩) fun _ _ _ _ _ z => z
def loose0 : List PySem.Str := [("_wall" : PySem.Str), ("LadderreachError" : PySem.Str), ("BadHeight" : PySem.Str), ("BadSize" : PySem.Str), ("TooLarge" : PySem.Str), ("HeightMismatch" : PySem.Str), ("GameError" : PySem.Str), ("BadOwners" : PySem.Str), ("BadEdge" : PySem.Str), ("DuplicateEdge" : PySem.Str), ("DeadEnd" : PySem.Str), ("BadLevel" : PySem.Str), ("OutOfRange" : PySem.Str), ("NoSuchNode" : PySem.Str), ("NoSuchStep" : PySem.Str), ("NoSuchRank" : PySem.Str), ("BadPlacement" : PySem.Str), ("check_height" : PySem.Str), ("check_same_height" : PySem.Str), ("check_count" : PySem.Str)]
def loose1 : List PySem.Str := [("check_node" : PySem.Str), ("check_step" : PySem.Str), ("check_rank" : PySem.Str), ("check_row" : PySem.Str), ("check_placement" : PySem.Str), ("is_allowed" : PySem.Str), ("is_fitting" : PySem.Str), ("misfits" : PySem.Str), ("lift" : PySem.Str), ("lifts" : PySem.Str), ("climb" : PySem.Str), ("told_nodes" : PySem.Str), ("Web" : PySem.Str), ("_check_edges" : PySem.Str), ("Game" : PySem.Str), ("_check_owners" : PySem.Str), ("_check_dead_ends" : PySem.Str), ("next_marks" : PySem.Str), ("last_marks" : PySem.Str), ("holds" : PySem.Str)]
def loose2 : List PySem.Str := [("Ladder" : PySem.Str), ("_counts_from" : PySem.Str), ("ends" : PySem.Str), ("hold" : PySem.Str), ("_marks_from_the_back" : PySem.Str), ("_next_step" : PySem.Str), ("_MOST_LEVELS" : PySem.Str), ("row_game" : PySem.Str), ("_law_pool" : PySem.Str), ("_law_draw" : PySem.Str), ("_law_levels" : PySem.Str), ("_law_row_edges" : PySem.Str), ("_law_number" : PySem.Str), ("_law_same" : PySem.Str), ("_law_gap" : PySem.Str), ("_law_allows" : PySem.Str), ("_law_last_steps" : PySem.Str), ("_law_fits" : PySem.Str), ("_law_climb" : PySem.Str), ("_law_gaps" : PySem.Str)]
def loose3 : List PySem.Str := [("_law_any_row" : PySem.Str), ("_law_due_game" : PySem.Str), ("_law_told_at" : PySem.Str), ("_law_held_at" : PySem.Str), ("_law_told_if_held" : PySem.Str), ("_law_given" : PySem.Str)]
def looseNames : List PySem.Str := loose0 ++ loose1 ++ loose2 ++ loose3
end LR
section
open PySem PySem.W PyProof.Rows
local macro_rules
  | `(tactic| o_head ($_ $K $as $e)) => `(tactic| (refine HandSHeadRun.head_any (r := OpenLaw.row PySem.Challenge.rw_ladderreach_k39_whole_held_exactly_if_to) (q := view (OpenLaw.row PySem.Challenge.rw_ladderreach_k39_whole_held_exactly_if_to).prog [77]) (H := kHook $K $as $e) (ob := fun s => List.map (HandSHeadRun.getT s) $as) (M := 20000) (loose := LR.looseNames) (d := HandSHeadRun.topDef (OpenLaw.row PySem.Challenge.rw_ladderreach_k39_whole_held_exactly_if_to).prog 77) (kwd := []) (fun s => LR.ob_tree s) (by kernel_rfl) (fun s => by kernel_rfl) ?hr (by kernel_rfl) (by kernel_rfl) (by kernel_rfl) (by rfl) (by first | assumption | decide +kernel) (by decide +kernel) ⟨rfl, rfl, rfl, rfl, rfl, by decide +kernel⟩ ?hw ?hc; (case hr => (intro w os; kernel_rfl)); (case hw => w_witness2)))
set_option maxRecDepth 100000 in
set_option maxHeartbeats 0 in
theorem PySem.Challenge.cw_ladderreach_k39_whole_held_exactly_if_to_holds : PySem.Challenge.rw_ladderreach_k39_whole_held_exactly_if_to.Holds := by
  w_on; o_law; k_head
  k_fill
  refine LR.walk (l := PySem.Challenge.rw_ladderreach_k39_whole_held_exactly_if_to) (by kernel_rfl) (by kernel_rfl) (by kernel_rfl) (fun w h Y => PySem.W.kIn_of Y) ?F
  case F =>
    intro w mg h KX G
    refine' ⟨_, LR.all_mk (P := PySem.Challenge.rw_ladderreach_k39_whole_held_exactly_if_to.prog) KX G ?z_super ?zt_any ?z_top ?z_len ?z_abs ?z_max ?z_min ?z_isinstance ?z_int ?z_bool ?z_str ?z_list ?z_tuple ?z_range ?z_enumerate ?z_reversed ?z_zip ?z_set ?z_sorted ?z_any ?z_all ?z_ValueError ?o_gt ?o_tk ?a_check_height ?l_check_height ?c_check_height ?k_check_height ?a_check_same_height ?l_check_same_height ?c_check_same_height ?k_check_same_height ?a_check_node ?l_check_node ?c_check_node ?k_check_node ?a_check_step ?l_check_step ?c_check_step ?k_check_step ?a_check_rank ?l_check_rank ?c_check_rank ?k_check_rank ?a_check_row ?l_check_row ?c_check_row ?k_check_row ?a_check_placement ?l_check_placement ?c_check_placement ?k_check_placement ?a_is_allowed ?l_is_allowed ?c_is_allowed ?k_is_allowed ?a_is_fitting ?l_is_fitting ?c_is_fitting ?k_is_fitting ?a_misfits ?l_misfits ?c_misfits ?k_misfits ?a_lift ?l_lift ?c_lift ?k_lift ?a_climb ?l_climb ?c_climb ?k_climb ?a_told_nodes ?l_told_nodes ?c_told_nodes ?k_told_nodes ?a_check_count ?l_check_count ?c_check_count ?k_check_count ?a__check_edges ?l__check_edges ?c__check_edges ?k__check_edges ?a__check_owners ?l__check_owners ?c__check_owners ?k__check_owners ?a__check_dead_ends ?l__check_dead_ends ?c__check_dead_ends ?k__check_dead_ends ?a__counts_from ?l__counts_from ?c__counts_from ?k__counts_from ?a_next_marks ?l_next_marks ?c_next_marks ?k_next_marks ?a_last_marks ?l_last_marks ?c_last_marks ?k_last_marks ?a_holds ?l_holds ?c_holds ?k_holds ?a_ends ?l_ends ?c_ends ?k_ends ?a_hold ?l_hold ?c_hold ?k_hold ?a__marks_from_the_back ?l__marks_from_the_back ?c__marks_from_the_back ?k__marks_from_the_back ?a__next_step ?l__next_step ?c__next_step ?k__next_step ?a_row_game ?l_row_game ?c_row_game ?k_row_game ?a_pool ?l_pool ?c_pool ?k_pool ?a_draw ?l_draw ?c_draw ?k_draw ?a_levels ?l_levels ?c_levels ?k_levels ?a_row_edges ?l_row_edges ?c_row_edges ?k_row_edges ?a_number ?l_number ?c_number ?k_number ?a_same ?l_same ?c_same ?k_same ?a_gap ?l_gap ?c_gap ?k_gap ?a_allows ?l_allows ?c_allows ?k_allows ?a_last_steps ?l_last_steps ?c_last_steps ?k_last_steps ?a_fits ?l_fits ?c_fits ?k_fits ?a_lw_climb ?l_lw_climb ?c_lw_climb ?k_lw_climb ?a_gaps ?l_gaps ?c_gaps ?k_gaps ?a_any_row ?l_any_row ?c_any_row ?k_any_row ?a_due_game ?l_due_game ?c_due_game ?k_due_game ?a_told_at ?l_told_at ?c_told_at ?k_told_at ?a_held_at ?l_held_at ?c_held_at ?k_held_at ?a_told_if_held ?l_told_if_held ?c_told_if_held ?k_told_if_held ?a_given ?l_given ?c_given ?k_given ?a_law ?l_law ?c_law ?k_law ?a_lifts ?l_lifts ?c_lifts ?k_lifts ?kn_lifts ?aC_Web ?pg_Web ?hd_Web ?po_Web ?sa_Web ?na_Web_height ?na_Web_size ?na_Web_edges ?mk_Web ?kc_Web ?a_W_init ?i_W_init ?l_W_init ?c_W_init ?k_W_init ?a_W_out ?i_W_out ?l_W_out ?c_W_out ?k_W_out ?cr_Web_MOST_NODES ?cg_Web_MOST_NODES ?cf_Web_MOST_NODES ?cx_Web_MOST_NODES ?cr_Web_MOST_EDGES ?cg_Web_MOST_EDGES ?cf_Web_MOST_EDGES ?cx_Web_MOST_EDGES ?aC_Game ?pg_Game ?hd_Game ?po_Game ?sa_Game ?na_Game_height ?na_Game_size ?na_Game_edges ?na_Game_owners ?mk_Game ?kc_Game ?a_G_init ?i_G_init ?l_G_init ?c_G_init ?k_G_init ?h_G_init ?v_G_init ?p_G_init ?e_G_init ?icl_Game ?a_G_out ?i_G_out ?l_G_out ?c_G_out ?k_G_out ?h_G_out ?v_G_out ?p_G_out ?e_G_out ?a_G_with_owner ?i_G_with_owner ?l_G_with_owner ?c_G_with_owner ?k_G_with_owner ?aC_Ladder ?pg_Ladder ?hd_Ladder ?po_Ladder ?sa_Ladder ?na_Ladder_height ?na_Ladder_levels ?na_Ladder_top ?na_Ladder__counts ?mk_Ladder ?kc_Ladder ?a_L_init ?i_L_init ?l_L_init ?c_L_init ?k_L_init ?a_L_allows ?i_L_allows ?l_L_allows ?c_L_allows ?k_L_allows ?a_Llets ?i_Llets ?l_Llets ?c_Llets ?k_Llets ?a_L_gap ?i_L_gap ?l_L_gap ?c_L_gap ?k_L_gap ?a_L_contains ?i_L_contains ?l_L_contains ?c_L_contains ?k_L_contains ?cr_Ladder_MOST_LEVELS ?cg_Ladder_MOST_LEVELS ?cf_Ladder_MOST_LEVELS ?cx_Ladder_MOST_LEVELS ?ai_Game ?mo_Game ?kit_Game_Game ?sm_Game_init ?st_Game_init ?sn_Game_init ?smr_Game ?sm_Game_out ?st_Game_out ?sn_Game_out ?aN_NoSuchNode ?x_NoSuchNode ?r_NoSuchNode ?sa_NoSuchNode ?xb_NoSuchNode ?tc_NoSuchNode ?kc_NoSuchNode ?ga_NoSuchNode ?gg_NoSuchNode ?ac_NoSuchNode ?mo_NoSuchNode ?hd_NoSuchNode ?ic_NoSuchNode ?no_NoSuchNode ?sv_NoSuchNode ?mr_NoSuchNode ?sm_NoSuchNode ?a_NoSuchNode_init ?t_NoSuchNode_init ?l_NoSuchNode_init ?c_NoSuchNode_init ?h_NoSuchNode_init ?v_NoSuchNode_init ?p_NoSuchNode_init ?e_NoSuchNode_init ?aN_BadPlacement ?x_BadPlacement ?r_BadPlacement ?sa_BadPlacement ?xb_BadPlacement ?tc_BadPlacement ?kc_BadPlacement ?ga_BadPlacement ?gg_BadPlacement ?ac_BadPlacement ?mo_BadPlacement ?hd_BadPlacement ?ic_BadPlacement ?no_BadPlacement ?sv_BadPlacement ?mr_BadPlacement ?sm_BadPlacement ?a_BadPlacement_init ?t_BadPlacement_init ?l_BadPlacement_init ?c_BadPlacement_init ?h_BadPlacement_init ?v_BadPlacement_init ?p_BadPlacement_init ?e_BadPlacement_init ?aN_NoSuchStep ?x_NoSuchStep ?r_NoSuchStep ?sa_NoSuchStep ?xb_NoSuchStep ?tc_NoSuchStep ?kc_NoSuchStep ?ga_NoSuchStep ?gg_NoSuchStep ?ac_NoSuchStep ?mo_NoSuchStep ?hd_NoSuchStep ?ic_NoSuchStep ?no_NoSuchStep ?sv_NoSuchStep ?mr_NoSuchStep ?sm_NoSuchStep ?a_NoSuchStep_init ?t_NoSuchStep_init ?l_NoSuchStep_init ?c_NoSuchStep_init ?h_NoSuchStep_init ?v_NoSuchStep_init ?p_NoSuchStep_init ?e_NoSuchStep_init ?aN_TooLarge ?xP_TooLarge ?kc_TooLarge ?xb_TooLarge ?tc_TooLarge ?ic_TooLarge ?ga_TooLarge ?gg_TooLarge ?ac_TooLarge ?mo_TooLarge ?hd_TooLarge ?aN_HeightMismatch ?xP_HeightMismatch ?kc_HeightMismatch ?xb_HeightMismatch ?tc_HeightMismatch ?ic_HeightMismatch ?ga_HeightMismatch ?gg_HeightMismatch ?ac_HeightMismatch ?mo_HeightMismatch ?hd_HeightMismatch ?aN_BadSize ?xP_BadSize ?kc_BadSize ?xb_BadSize ?tc_BadSize ?ic_BadSize ?ga_BadSize ?gg_BadSize ?ac_BadSize ?mo_BadSize ?hd_BadSize ?ag__MOST_LEVELS ?rg__MOST_LEVELS ?ns_HeightMismatch⟩
    (case z_super => k_is)
    (case zt_any => k_is)
    (case z_top => first | rfl | decide +kernel)
    (case z_len => k_is)
    (case z_abs => k_is)
    (case z_max => k_is)
    (case z_min => k_is)
    (case z_isinstance => k_is)
    (case z_int => k_is)
    (case z_bool => k_is)
    (case z_str => k_is)
    (case z_list => k_is)
    (case z_tuple => k_is)
    (case z_range => k_is)
    (case z_enumerate => k_is)
    (case z_reversed => k_is)
    (case z_zip => k_is)
    (case z_set => k_is)
    (case z_sorted => k_is)
    (case z_any => k_is)
    (case z_all => k_is)
    (case z_ValueError => k_is)
    (case o_gt => k_is)
    (case o_tk => k_is)
    (case a_check_height => k_is)
    (case l_check_height => k_is)
    (case c_check_height => k_is)
    (case k_check_height => k_is)
    (case a_check_same_height => k_is)
    (case l_check_same_height => k_is)
    (case c_check_same_height => k_is)
    (case k_check_same_height => k_is)
    (case a_check_node => k_is)
    (case l_check_node => k_is)
    (case c_check_node => k_is)
    (case k_check_node => k_is)
    (case a_check_step => k_is)
    (case l_check_step => k_is)
    (case c_check_step => k_is)
    (case k_check_step => k_is)
    (case a_check_rank => k_is)
    (case l_check_rank => k_is)
    (case c_check_rank => k_is)
    (case k_check_rank => k_is)
    (case a_check_row => k_is)
    (case l_check_row => k_is)
    (case c_check_row => k_is)
    (case k_check_row => k_is)
    (case a_check_placement => k_is)
    (case l_check_placement => k_is)
    (case c_check_placement => k_is)
    (case k_check_placement => k_is)
    (case a_is_allowed => k_is)
    (case l_is_allowed => k_is)
    (case c_is_allowed => k_is)
    (case k_is_allowed => k_is)
    (case a_is_fitting => k_is)
    (case l_is_fitting => k_is)
    (case c_is_fitting => k_is)
    (case k_is_fitting => k_is)
    (case a_misfits => k_is)
    (case l_misfits => k_is)
    (case c_misfits => k_is)
    (case k_misfits => k_is)
    (case a_lift => k_is)
    (case l_lift => k_is)
    (case c_lift => k_is)
    (case k_lift => k_is)
    (case a_climb => k_is)
    (case l_climb => k_is)
    (case c_climb => k_is)
    (case k_climb => k_is)
    (case a_told_nodes => k_is)
    (case l_told_nodes => k_is)
    (case c_told_nodes => k_is)
    (case k_told_nodes => k_is)
    (case a_check_count => k_is)
    (case l_check_count => k_is)
    (case c_check_count => k_is)
    (case k_check_count => k_is)
    (case a__check_edges => k_is)
    (case l__check_edges => k_is)
    (case c__check_edges => k_is)
    (case k__check_edges => k_is)
    (case a__check_owners => k_is)
    (case l__check_owners => k_is)
    (case c__check_owners => k_is)
    (case k__check_owners => k_is)
    (case a__check_dead_ends => k_is)
    (case l__check_dead_ends => k_is)
    (case c__check_dead_ends => k_is)
    (case k__check_dead_ends => k_is)
    (case a__counts_from => k_is)
    (case l__counts_from => k_is)
    (case c__counts_from => k_is)
    (case k__counts_from => k_is)
    (case a_next_marks => k_is)
    (case l_next_marks => k_is)
    (case c_next_marks => k_is)
    (case k_next_marks => k_is)
    (case a_last_marks => k_is)
    (case l_last_marks => k_is)
    (case c_last_marks => k_is)
    (case k_last_marks => k_is)
    (case a_holds => k_is)
    (case l_holds => k_is)
    (case c_holds => k_is)
    (case k_holds => k_is)
    (case a_ends => k_is)
    (case l_ends => k_is)
    (case c_ends => k_is)
    (case k_ends => k_is)
    (case a_hold => k_is)
    (case l_hold => k_is)
    (case c_hold => k_is)
    (case k_hold => k_is)
    (case a__marks_from_the_back => k_is)
    (case l__marks_from_the_back => k_is)
    (case c__marks_from_the_back => k_is)
    (case k__marks_from_the_back => k_is)
    (case a__next_step => k_is)
    (case l__next_step => k_is)
    (case c__next_step => k_is)
    (case k__next_step => k_is)
    (case a_row_game => k_is)
    (case l_row_game => k_is)
    (case c_row_game => k_is)
    (case k_row_game => k_is)
    (case a_pool => k_is)
    (case l_pool => k_is)
    (case c_pool => k_is)
    (case k_pool => k_is)
    (case a_draw => k_is)
    (case l_draw => k_is)
    (case c_draw => k_is)
    (case k_draw => k_is)
    (case a_levels => k_is)
    (case l_levels => k_is)
    (case c_levels => k_is)
    (case k_levels => k_is)
    (case a_row_edges => k_is)
    (case l_row_edges => k_is)
    (case c_row_edges => k_is)
    (case k_row_edges => k_is)
    (case a_number => k_is)
    (case l_number => k_is)
    (case c_number => k_is)
    (case k_number => k_is)
    (case a_same => k_is)
    (case l_same => k_is)
    (case c_same => k_is)
    (case k_same => k_is)
    (case a_gap => k_is)
    (case l_gap => k_is)
    (case c_gap => k_is)
    (case k_gap => k_is)
    (case a_allows => k_is)
    (case l_allows => k_is)
    (case c_allows => k_is)
    (case k_allows => k_is)
    (case a_last_steps => k_is)
    (case l_last_steps => k_is)
    (case c_last_steps => k_is)
    (case k_last_steps => k_is)
    (case a_fits => k_is)
    (case l_fits => k_is)
    (case c_fits => k_is)
    (case k_fits => k_is)
    (case a_lw_climb => k_is)
    (case l_lw_climb => k_is)
    (case c_lw_climb => k_is)
    (case k_lw_climb => k_is)
    (case a_gaps => k_is)
    (case l_gaps => k_is)
    (case c_gaps => k_is)
    (case k_gaps => k_is)
    (case a_any_row => k_is)
    (case l_any_row => k_is)
    (case c_any_row => k_is)
    (case k_any_row => k_is)
    (case a_due_game => k_is)
    (case l_due_game => k_is)
    (case c_due_game => k_is)
    (case k_due_game => k_is)
    (case a_told_at => k_is)
    (case l_told_at => k_is)
    (case c_told_at => k_is)
    (case k_told_at => k_is)
    (case a_held_at => k_is)
    (case l_held_at => k_is)
    (case c_held_at => k_is)
    (case k_held_at => k_is)
    (case a_told_if_held => k_is)
    (case l_told_if_held => k_is)
    (case c_told_if_held => k_is)
    (case k_told_if_held => k_is)
    (case a_given => k_is)
    (case l_given => k_is)
    (case c_given => k_is)
    (case k_given => k_is)
    (case a_law => k_is)
    (case l_law => k_is)
    (case c_law => k_is)
    (case k_law => k_is)
    (case a_lifts => k_is)
    (case l_lifts => k_is)
    (case c_lifts => k_is)
    (case k_lifts => k_is)
    (case kn_lifts => k_is)
    (case aC_Web => k_is)
    (case pg_Web => k_is)
    (case hd_Web => k_is)
    (case po_Web => k_is)
    (case sa_Web => k_is)
    (case na_Web_height => k_is)
    (case na_Web_size => k_is)
    (case na_Web_edges => k_is)
    (case mk_Web => k_is)
    (case kc_Web => k_is)
    (case a_W_init => k_is)
    (case i_W_init => k_is)
    (case l_W_init => k_is)
    (case c_W_init => k_is)
    (case k_W_init => k_is)
    (case a_W_out => k_is)
    (case i_W_out => k_is)
    (case l_W_out => k_is)
    (case c_W_out => k_is)
    (case k_W_out => k_is)
    (case cr_Web_MOST_NODES => k_is)
    (case cg_Web_MOST_NODES => k_is)
    (case cf_Web_MOST_NODES => k_is)
    (case cx_Web_MOST_NODES => exact ⟨_, rfl⟩)
    (case cr_Web_MOST_EDGES => k_is)
    (case cg_Web_MOST_EDGES => k_is)
    (case cf_Web_MOST_EDGES => k_is)
    (case cx_Web_MOST_EDGES => exact ⟨_, rfl⟩)
    (case aC_Game => k_is)
    (case pg_Game => k_is)
    (case hd_Game => k_is)
    (case po_Game => k_is)
    (case sa_Game => k_is)
    (case na_Game_height => k_is)
    (case na_Game_size => k_is)
    (case na_Game_edges => k_is)
    (case na_Game_owners => k_is)
    (case mk_Game => k_is)
    (case kc_Game => k_is)
    (case a_G_init => k_is)
    (case i_G_init => k_is)
    (case l_G_init => k_is)
    (case c_G_init => k_is)
    (case k_G_init => k_is)
    (case h_G_init => k_is)
    (case v_G_init => rfl)
    (case p_G_init => first | rfl | decide +kernel)
    (case e_G_init => k_is)
    (case icl_Game => k_is)
    (case a_G_out => k_is)
    (case i_G_out => k_is)
    (case l_G_out => k_is)
    (case c_G_out => k_is)
    (case k_G_out => k_is)
    (case h_G_out => k_is)
    (case v_G_out => rfl)
    (case p_G_out => first | rfl | decide +kernel)
    (case e_G_out => k_is)
    (case a_G_with_owner => k_is)
    (case i_G_with_owner => k_is)
    (case l_G_with_owner => k_is)
    (case c_G_with_owner => k_is)
    (case k_G_with_owner => k_is)
    (case aC_Ladder => k_is)
    (case pg_Ladder => k_is)
    (case hd_Ladder => k_is)
    (case po_Ladder => k_is)
    (case sa_Ladder => k_is)
    (case na_Ladder_height => k_is)
    (case na_Ladder_levels => k_is)
    (case na_Ladder_top => k_is)
    (case na_Ladder__counts => k_is)
    (case mk_Ladder => k_is)
    (case kc_Ladder => k_is)
    (case a_L_init => k_is)
    (case i_L_init => k_is)
    (case l_L_init => k_is)
    (case c_L_init => k_is)
    (case k_L_init => k_is)
    (case a_L_allows => k_is)
    (case i_L_allows => k_is)
    (case l_L_allows => k_is)
    (case c_L_allows => k_is)
    (case k_L_allows => k_is)
    (case a_Llets => k_is)
    (case i_Llets => k_is)
    (case l_Llets => k_is)
    (case c_Llets => k_is)
    (case k_Llets => k_is)
    (case a_L_gap => k_is)
    (case i_L_gap => k_is)
    (case l_L_gap => k_is)
    (case c_L_gap => k_is)
    (case k_L_gap => k_is)
    (case a_L_contains => k_is)
    (case i_L_contains => k_is)
    (case l_L_contains => k_is)
    (case c_L_contains => k_is)
    (case k_L_contains => k_is)
    (case cr_Ladder_MOST_LEVELS => k_is)
    (case cg_Ladder_MOST_LEVELS => k_is)
    (case cf_Ladder_MOST_LEVELS => k_is)
    (case cx_Ladder_MOST_LEVELS => exact ⟨_, rfl⟩)
    (case ai_Game => k_is)
    (case mo_Game => k_is)
    (case kit_Game_Game => first | k_is | kernel_rfl)
    (case sm_Game_init => first | ks_is | kernel_rfl)
    (case st_Game_init => k_is)
    (case sn_Game_init => k_is)
    (case smr_Game => first | k_is | kernel_rfl)
    (case sm_Game_out => first | ks_is | kernel_rfl)
    (case st_Game_out => k_is)
    (case sn_Game_out => k_is)
    (case aN_NoSuchNode => k_is)
    (case x_NoSuchNode => k_is)
    (case r_NoSuchNode => first | rfl | decide +kernel)
    (case sa_NoSuchNode => k_is)
    (case xb_NoSuchNode => k_is)
    (case tc_NoSuchNode => k_is)
    (case kc_NoSuchNode => k_is)
    (case ga_NoSuchNode => k_is)
    (case gg_NoSuchNode => k_is)
    (case ac_NoSuchNode => k_is)
    (case mo_NoSuchNode => k_is)
    (case hd_NoSuchNode => k_is)
    (case ic_NoSuchNode => k_is)
    (case no_NoSuchNode => k_is)
    (case sv_NoSuchNode => k_is)
    (case mr_NoSuchNode => first | k_is | kernel_rfl)
    (case sm_NoSuchNode => first | ks_is | kernel_rfl)
    (case a_NoSuchNode_init => k_is)
    (case t_NoSuchNode_init => k_is)
    (case l_NoSuchNode_init => k_is)
    (case c_NoSuchNode_init => k_is)
    (case h_NoSuchNode_init => k_is)
    (case v_NoSuchNode_init => rfl)
    (case p_NoSuchNode_init => first | rfl | decide +kernel)
    (case e_NoSuchNode_init => k_is)
    (case aN_BadPlacement => k_is)
    (case x_BadPlacement => k_is)
    (case r_BadPlacement => first | rfl | decide +kernel)
    (case sa_BadPlacement => k_is)
    (case xb_BadPlacement => k_is)
    (case tc_BadPlacement => k_is)
    (case kc_BadPlacement => k_is)
    (case ga_BadPlacement => k_is)
    (case gg_BadPlacement => k_is)
    (case ac_BadPlacement => k_is)
    (case mo_BadPlacement => k_is)
    (case hd_BadPlacement => k_is)
    (case ic_BadPlacement => k_is)
    (case no_BadPlacement => k_is)
    (case sv_BadPlacement => k_is)
    (case mr_BadPlacement => first | k_is | kernel_rfl)
    (case sm_BadPlacement => first | ks_is | kernel_rfl)
    (case a_BadPlacement_init => k_is)
    (case t_BadPlacement_init => k_is)
    (case l_BadPlacement_init => k_is)
    (case c_BadPlacement_init => k_is)
    (case h_BadPlacement_init => k_is)
    (case v_BadPlacement_init => rfl)
    (case p_BadPlacement_init => first | rfl | decide +kernel)
    (case e_BadPlacement_init => k_is)
    (case aN_NoSuchStep => k_is)
    (case x_NoSuchStep => k_is)
    (case r_NoSuchStep => first | rfl | decide +kernel)
    (case sa_NoSuchStep => k_is)
    (case xb_NoSuchStep => k_is)
    (case tc_NoSuchStep => k_is)
    (case kc_NoSuchStep => k_is)
    (case ga_NoSuchStep => k_is)
    (case gg_NoSuchStep => k_is)
    (case ac_NoSuchStep => k_is)
    (case mo_NoSuchStep => k_is)
    (case hd_NoSuchStep => k_is)
    (case ic_NoSuchStep => k_is)
    (case no_NoSuchStep => k_is)
    (case sv_NoSuchStep => k_is)
    (case mr_NoSuchStep => first | k_is | kernel_rfl)
    (case sm_NoSuchStep => first | ks_is | kernel_rfl)
    (case a_NoSuchStep_init => k_is)
    (case t_NoSuchStep_init => k_is)
    (case l_NoSuchStep_init => k_is)
    (case c_NoSuchStep_init => k_is)
    (case h_NoSuchStep_init => k_is)
    (case v_NoSuchStep_init => rfl)
    (case p_NoSuchStep_init => first | rfl | decide +kernel)
    (case e_NoSuchStep_init => k_is)
    (case aN_TooLarge => k_is)
    (case xP_TooLarge => k_exc)
    (case kc_TooLarge => k_is)
    (case xb_TooLarge => k_is)
    (case tc_TooLarge => k_is)
    (case ic_TooLarge => k_is)
    (case ga_TooLarge => k_is)
    (case gg_TooLarge => k_is)
    (case ac_TooLarge => k_is)
    (case mo_TooLarge => k_is)
    (case hd_TooLarge => k_is)
    (case aN_HeightMismatch => k_is)
    (case xP_HeightMismatch => k_exc)
    (case kc_HeightMismatch => k_is)
    (case xb_HeightMismatch => k_is)
    (case tc_HeightMismatch => k_is)
    (case ic_HeightMismatch => k_is)
    (case ga_HeightMismatch => k_is)
    (case gg_HeightMismatch => k_is)
    (case ac_HeightMismatch => k_is)
    (case mo_HeightMismatch => k_is)
    (case hd_HeightMismatch => k_is)
    (case aN_BadSize => k_is)
    (case xP_BadSize => k_exc)
    (case kc_BadSize => k_is)
    (case xb_BadSize => k_is)
    (case tc_BadSize => k_is)
    (case ic_BadSize => k_is)
    (case ga_BadSize => k_is)
    (case gg_BadSize => k_is)
    (case ac_BadSize => k_is)
    (case mo_BadSize => k_is)
    (case hd_BadSize => k_is)
    (case ag__MOST_LEVELS => k_is)
    (case rg__MOST_LEVELS => exact ⟨_, rfl⟩)
    (case ns_HeightMismatch => k_is)
end
