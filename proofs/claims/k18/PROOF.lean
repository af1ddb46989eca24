import PyProof.Rows.All
import Wide.All
import OpenK.AllK
import Wide.FinOn
import HandS.ForMost
import HandS.IsInst
import HandS.Conv
import HandS.ClsMeth
import HandS.TupAny
import HandS.Walk
import HandS.RevRange
import KE.KExcSuper
import HandS.ForExc
import HandS.ExcInit
import HandS.ExcIs
import HandS.ExcField
import HandS.TryMany
import HandS.FStr
import HandS.ExcSuper
import KE.KExcIs
import PySem.Challenge.RW_ladderreach_k18_least_and_greatest_steps
set_option Elab.async false
set_option maxRecDepth 100000
set_option linter.all false
set_option maxHeartbeats 4000000
namespace LR
open PySem PySem.Spec PyProof.Rows L2
/-! ## defs, methods, classes that keep a promise -/
structure Cal (P : Program) (w : World) (K : PySem.W.Frag) (mg : Str → Option Value) (base : Heap) (k : Nat) (x : Str) (sp : Sp) : Prop where
  ex : ∃ (f : Addr) (fd : FuncData) (ps : List Str), FnOk P w K mg base CX0 k f fd ps sp ∧ mg x = some (.ref f) ∧ PySem.W.keepIn K (.ref f) = true ∧ Binds K fd ps []
structure Met (P : Program) (w : World) (K : PySem.W.Frag) (mg : Str → Option Value) (base : Heap) (k : Nat) (C : Addr) (m : Str) (sp : Sp) : Prop where
  ex : ∃ (f : Addr) (fd : FuncData) (ps : List Str), Cls K C ∧ Meth K C m f ∧ FnOk P w K mg base CX0 k f fd ps sp ∧ Binds K fd ps []
structure Mak (P : Program) (w : World) (K : PySem.W.Frag) (mg : Str → Option Value) (base : Heap) (k : Nat) (x : Str) (C : Addr) (sp : Sp) : Prop where
  ex : ∃ (f : Addr) (fd : FuncData) (ps : List Str), Mk K C f ∧ FnOk P w K mg base CX0 k f fd ps sp ∧ mg x = some (.ref C) ∧ Binds K fd ps []
section
variable {X : Cx} {k j : Nat} {C : Addr} {x m : Str} {sp : Sp} {p pos apos : Pos} {e o : Expr} {es : List Expr} {ta : TE} {t : TA}
theorem pe_c (c : Cal X.prog X.w X.K X.mg X.base k x sp) (hr : Room j X.A) (hk : k ≤ j) (hg : Gl X x) (ha : PA X (e :: es) t)
    (hdb : (x == ("__debug__" : Str)) = false := by decide) (he : starEach (e :: es) X.env = (false, eval e X.env) :: starEach es X.env := by rfl) (hpl : (backTo pos (starEach es X.env)).any (·.1) = false := by rfl) :
    PE X (.Call (.Name x p) (e :: es) [] pos) (tCall sp [] E0 t) := by
  obtain ⟨f, fd, ps, F, hm, kp, b⟩ := c.ex
  exact pe_call F (hr.mono hk) hg hm kp b .nil pass0 ha hdb he hpl
theorem pe_mk (c : Mak X.prog X.w X.K X.mg X.base k x C sp) (hr : Room j X.A) (hk : k + 1 ≤ j) (hg : Gl X x) (ha : PA X (e :: es) t)
    (hdb : (x == ("__debug__" : Str)) = false := by decide) (he : starEach (e :: es) X.env = (false, eval e X.env) :: starEach es X.env := by rfl) (hpl : (backTo pos (starEach es X.env)).any (·.1) = false := by rfl) :
    PE X (.Call (.Name x p) (e :: es) [] pos) (tMake C sp [] E0 t) := by
  obtain ⟨f, fd, ps, M, F, hm, b⟩ := c.ex
  exact pe_make M F (hr.mono hk) hg hm b .nil pass0 ha hdb he hpl
theorem pe_mt {pl : Sem Bool} (c : Met X.prog X.w X.K X.mg X.base k C m sp) (hr : Room j X.A) (hk : k ≤ j) (he : PE X o ta) (ha : PA X (e :: es) t)
    (hst : starEach (e :: es) X.env = (false, eval e X.env) :: starEach es X.env := by rfl) (hpl : (backTo pos (starEach es X.env)).any (·.1) = false := by rfl)
    (ht : eval (.Call (.Attribute o m apos) (e :: es) [] pos) X.env = (do
      let ov ← eval o X.env
      standAt apos.atName
      let (f, first) ← holding [ov] (getMethod ov m pl)
      callWith pos f first (backTo pos (starEach (e :: es) X.env)) (backToKw pos (keywordEach [] X.env))) := by rfl) :
    PE X (.Call (.Attribute o m apos) (e :: es) [] pos) (tMeth C m sp [] E0 ta t) := by
  obtain ⟨f, fd, ps, hc, hm, F, b⟩ := c.ex
  exact pe_meth (pl := pl) he hc hm F (hr.mono hk) b .nil pass0 ha hst hpl ht
theorem pe_mt0 {pl : Sem Bool} (c : Met X.prog X.w X.K X.mg X.base k C m sp) (hr : Room j X.A) (hk : k ≤ j) (he : PE X o ta)
    (ht : eval (.Call (.Attribute o m apos) [] [] pos) X.env = (do
      let ov ← eval o X.env
      standAt apos.atName
      let (f, first) ← holding [ov] (getMethod ov m pl)
      callWith pos f first (backTo pos (starEach [] X.env)) (backToKw pos (keywordEach [] X.env))) := by rfl) :
    PE X (.Call (.Attribute o m apos) [] [] pos) (tMeth C m sp [] E0 ta tNil) := by
  obtain ⟨f, fd, ps, hc, hm, F, b⟩ := c.ex
  exact pe_meth0 (pl := pl) he hc hm F (hr.mono hk) b .nil pass0 ht
end
structure DefIn (K : PySem.W.Frag) (mg : Str → Option Value) (x : Str) (st : Stmt) (ps : List Str) : Prop where
  ex : ∃ (f : Addr) (fd : FuncData), Fun K x x st f fd ∧ mg x = some (.ref f) ∧ Binds K fd ps []
structure MetIn (K : PySem.W.Frag) (C : Addr) (m qual : Str) (st : Stmt) (ps : List Str) : Prop where
  ex : ∃ (f : Addr) (fd : FuncData), Fun K m qual st f fd ∧ Meth K C m f ∧ Binds K fd ps []
structure MakIn (K : PySem.W.Frag) (mg : Str → Option Value) (x : Str) (C : Addr) (qual : Str) (st : Stmt) (ps : List Str) : Prop where
  ex : ∃ (f : Addr) (fd : FuncData), Fun K "__init__" qual st f fd ∧ Mk K C f ∧ mg x = some (.ref C) ∧ Binds K fd ps []
section
variable {P : Program} {w : World} {K : PySem.W.Frag} {mg : Str → Option Value} {base : Heap}
theorem DefIn.cal {x : Str} {st : Stmt} {N ps : List Str} {k : Nat} {sp : Sp} (D : DefIn K mg x st ps) (S : FnScope N ps (defScope st)) (len : ∀ vs H Q E, sp vs H Q E → vs.length = ps.length)
    (hbody : ∀ (f : Addr) (cdv : Value) (A : Around) (outer : List Env) (s : Shared) (H : Hp) (vs : List V) (Q : VK) (E : XK), Room k (A.deeper (envOfC x (defScope st) s.heap.objs.size f cdv)) → sp vs H Q E →
      ∃ t, PSs (cxOf CX0 P w K mg base N x (defScope st) f cdv A outer s H E).nox (defBody st) t ∧ t { nx := fun _ H' => Q .non H', rt := Q } (start N vs) H) : Cal P w K mg base (k + 1) x sp := by
  obtain ⟨f, fd, F, hm, b⟩ := D.ex
  exact ⟨f, fd, ps, F.ok S len (hbody f), hm, F.kp, b⟩
theorem MetIn.met {C : Addr} {m qual : Str} {st : Stmt} {N ps : List Str} {k : Nat} {sp : Sp} (c : Cls K C) (D : MetIn K C m qual st ps) (S : FnScope N ps (defScope st)) (len : ∀ vs H Q E, sp vs H Q E → vs.length = ps.length)
    (hbody : ∀ (f : Addr) (cdv : Value) (A : Around) (outer : List Env) (s : Shared) (H : Hp) (vs : List V) (Q : VK) (E : XK), Room k (A.deeper (envOfC qual (defScope st) s.heap.objs.size f cdv)) → sp vs H Q E →
      ∃ t, PSs (cxOf CX0 P w K mg base N qual (defScope st) f cdv A outer s H E).nox (defBody st) t ∧ t { nx := fun _ H' => Q .non H', rt := Q } (start N vs) H) : Met P w K mg base (k + 1) C m sp := by
  obtain ⟨f, fd, F, hm, b⟩ := D.ex
  exact ⟨f, fd, ps, c, hm, F.ok S len (hbody f), b⟩
theorem MakIn.mak {C : Addr} {x qual : Str} {st : Stmt} {N ps : List Str} {k : Nat} {sp : Sp} (D : MakIn K mg x C qual st ps) (S : FnScope N ps (defScope st)) (len : ∀ vs H Q E, sp vs H Q E → vs.length = ps.length)
    (hbody : ∀ (f : Addr) (cdv : Value) (A : Around) (outer : List Env) (s : Shared) (H : Hp) (vs : List V) (Q : VK) (E : XK), Room k (A.deeper (envOfC qual (defScope st) s.heap.objs.size f cdv)) → sp vs H Q E →
      ∃ t, PSs (cxOf CX0 P w K mg base N qual (defScope st) f cdv A outer s H E).nox (defBody st) t ∧ t { nx := fun _ H' => Q .non H', rt := Q } (start N vs) H) : Mak P w K mg base (k + 1) x C sp := by
  obtain ⟨f, fd, F, M, hm, b⟩ := D.ex
  exact ⟨f, fd, ps, M, F.ok S len (hbody f), hm, b⟩
end
theorem Cal.mono {P w K mg base j k x sp} (c : Cal P w K mg base j x sp) (h : j ≤ k) : Cal P w K mg base k x sp := by
  obtain ⟨f, fd, ps, F, r⟩ := c.ex
  exact ⟨f, fd, ps, F.mono h, r⟩
theorem Cal.imp {P w K mg base k x sp sp'} (c : Cal P w K mg base k x sp) (h : ∀ vs H Q E, sp' vs H Q E → sp vs H Q E) : Cal P w K mg base k x sp' := by
  obtain ⟨f, fd, ps, F, r⟩ := c.ex
  exact ⟨f, fd, ps, F.imp h, r⟩
/-! ## what the built-in names stand for -/
theorem b_len : bootBuiltins "len" = some (.builtin "len") := by decide +kernel
theorem b_abs : bootBuiltins "abs" = some (.builtin "abs") := by decide +kernel
theorem b_max : bootBuiltins "max" = some (.builtin "max") := by decide +kernel
theorem b_min : bootBuiltins "min" = some (.builtin "min") := by decide +kernel
theorem b_isinstance : bootBuiltins "isinstance" = some (.builtin "isinstance") := by decide +kernel
theorem b_int : bootBuiltins "int" = some (.type "int") := by decide +kernel
theorem b_bool : bootBuiltins "bool" = some (.type "bool") := by decide +kernel
theorem b_str : bootBuiltins "str" = some (.type "str") := by decide +kernel
theorem b_list : bootBuiltins "list" = some (.type "list") := by decide +kernel
theorem b_tuple : bootBuiltins "tuple" = some (.type "tuple") := by decide +kernel
/-! ## heaps -/
/-- all that was tracked stands, but for what is at p -/
def Keep (p : Addr) (H H' : Hp) : Prop := ∀ b, b ≠ p → ∀ o, H b = some o → H' b = some o
theorem Keep.refl {p H} : Keep p H H := fun _ _ _ h => h
theorem Keep.trans {p H H1 H2} (a : Keep p H H1) (b : Keep p H1 H2) : Keep p H H2 := fun c n o h => b c n o (a c n o h)
theorem Keep.upd {p H H' o} (a : Keep p H H') : Keep p H (upd H' p o) := fun c n u h => by rw [upd_ne n]; exact a c n u h
theorem Keep.new {p H H' q o} (a : Keep p H H') (h : H' q = none) : Keep p H (L2.upd H' q o) := fun c n u h1 => by
  rw [upd_ne (ne_of_none (a c n u h1) h)]; exact a c n u h1
theorem Keep.same {p H H' H2} (a : Keep p H H') (b : Same H' H2) : Keep p H H2 := fun c n o h => b c o (a c n o h)
theorem _root_.L2.Same.keep {p H H'} (a : Same H H') : Keep p H H' := fun c _ o h => a c o h
theorem same_new {H q o} (h : H q = none) : Same H (upd H q o) := fun c u h1 => by rw [upd_ne (ne_of_none h1 h)]; exact h1
theorem _root_.L2.Same.new {H H' q o} (a : Same H H') (h : H' q = none) : Same H (upd H' q o) := a.trans (same_new h)
theorem Keep.seq {p a : Addr} {K H H' xs} (k : Keep p H H') (h : SqL K H a xs) (n : a ≠ p) : SqL K H' a xs := by
  rcases h with (h | ⟨o, h⟩) | h
  · exact .inl (.inl (k _ n _ h))
  · exact .inl (.inr ⟨o, k _ n _ h⟩)
  · exact .inr h
theorem Keep.seqT {p a : Addr} {K H H' xs} (k : Keep p H H') (h : SqT K H a xs) (n : a ≠ p) : SqT K H' a xs := by
  rcases h with (h | ⟨o, h⟩) | h
  · exact .inl (.inl (k _ n _ h))
  · exact .inl (.inr ⟨o, k _ n _ h⟩)
  · exact .inr h
theorem _root_.L2.Same.seqT {K H H' a xs} (e : Same H H') (h : SqT K H a xs) : SqT K H' a xs := by
  rcases h with (h | ⟨o, h⟩) | h
  · exact .inl (.inl (e _ _ h))
  · exact .inl (.inr ⟨o, e _ _ h⟩)
  · exact .inr h
/-- a pool of the law: a list of four ints -/
def IsPool (H : Hp) (p : Addr) : Prop := ∃ a b c d : Int, H p = some (.lst [.int a, .int b, .int c, .int d])
theorem IsPool.ne {H p b o} (h : IsPool H p) (hb : H b = some o) (ho : ∀ l, o ≠ .lst l) : b ≠ p := by
  obtain ⟨_, _, _, _, h⟩ := h
  exact ne_of hb h (ho _)
theorem IsPool.same {H H' p} (s : Same H H') (h : IsPool H p) : IsPool H' p := by
  obtain ⟨a, b, c, d, h⟩ := h; exact ⟨a, b, c, d, s _ _ h⟩
theorem IsPool.upd {H p a b c d} : IsPool (upd H p (.lst [.int a, .int b, .int c, .int d])) p := ⟨a, b, c, d, upd_same⟩
theorem Keep.free {p q H H'} (k : Keep p H H') (n : q ≠ p) (h : H' q = none) : H q = none := by
  cases e : H q with
  | none => rfl
  | some o => rw [k q n o e] at h; cases h
theorem IsPool.some {H p} (h : IsPool H p) : ∃ l, H p = some (.lst l) := by
  obtain ⟨_, _, _, _, h⟩ := h; exact ⟨_, h⟩
theorem IsPool.free {H p q} (h : IsPool H p) (hq : H q = none) : q ≠ p := by
  obtain ⟨_, _, _, _, h⟩ := h
  exact (ne_of_none h hq).symm
def spLaw (K : PySem.W.Frag) : Sp := fun vs H Q _ => ∃ (a : Addr) (ns : List Int), vs = [.ref a] ∧ SqL K H a (ns.map V.int) ∧ ∀ H', Q (.bl true) H'
theorem seq_after {K : PySem.W.Frag} {H H' : Hp} {a p : Addr} {xs : List V} (h : SqL K H a xs) (hp : H p = none) (k : Keep p H H') : SqL K H' a xs := by
  rcases h with (h | ⟨o, h⟩) | h
  · exact .inl (.inl (k _ (ne_of_none h hp) _ h))
  · exact .inl (.inr ⟨o, k _ (ne_of_none h hp) _ h⟩)
  · exact .inr h
theorem map_get {ls : List Int} {i : Nat} {x : V} (h : (ls.map V.int)[i]? = some x) : ∃ l, ls[i]? = some l ∧ x = .int l := by
  rw [List.getElem?_map] at h
  obtain ⟨l, el, e⟩ := Option.map_eq_some_iff.mp h
  exact ⟨l, el, e.symm⟩
theorem get_map {ls : List Int} {i : Nat} {l : Int} (h : ls[i]? = some l) : (ls.map V.int)[i]? = some (.int l) := by
  rw [List.getElem?_map, h]; rfl
/-- a statement, then the rest, with a word between them -/
def tCut (t u : TS) : TS := fun D σ H => ∃ Mid : L2.St → Hp → Prop, t { D with nx := Mid } σ H ∧ ∀ σ' H', Mid σ' H' → u D σ' H'
theorem pss_cut {X : Cx} {st : Stmt} {rest : List Stmt} {t u : TS} (h1 : PS X st t) (h2 : PSs X rest u) : PSs X (st :: rest) (tCut t u) := by
  refine ⟨fun pins s σ H D I h => ?_⟩
  obtain ⟨Mid, hm, hu⟩ := h
  refine wpAny_execs_cons (thn (h1.run pins s σ H { D with nx := Mid } I hm) fun f s1 q => ?_)
  cases f with
  | next =>
    obtain ⟨σ', H', I', q⟩ := q
    exact h2.run pins s1 σ' H' D I' (hu σ' H' q)
  | ret v => exact q
  | brk => exact q
  | cont => exact q
theorem lc_yes {Q : Bool → Hp → Prop} {σ : L2.St} {H : Hp} (h : Q true H) : tYes σ H Q := h
theorem ite_b {c : Bool} {A B : Prop} (h1 : c = true → A) (h2 : c = false → B) : if c = true then A else B := by
  cases c with
  | true => exact h1 rfl
  | false => exact iteF (h2 rfl)
end LR

set_option Elab.async false
set_option maxRecDepth 100000
set_option linter.all false
set_option maxHeartbeats 4000000
namespace LR
open PySem PySem.Spec PyProof.Rows L2
/-! ## data of the law, as they lie in the heap -/
inductive Dt where
  | non | bl (b : Bool) | int (i : Int) | str (x : Str) | lst (l : List Dt) | tup (l : List Dt)
mutual
inductive At (H : Hp) : V → Dt → Prop
  | non : At H .non .non
  | bl (b : Bool) : At H (.bl b) (.bl b)
  | int (i : Int) : At H (.int i) (.int i)
  | str (x : Str) : At H (.str x) (.str x)
  | lst {p : Addr} {xs : List V} {ds : List Dt} (h : H p = some (.lst xs)) (a : Ats H xs ds) (z : xs.length ≤ 100000) : At H (.ref p) (.lst ds)
  | tup {p : Addr} {xs : List V} {ds : List Dt} (h : H p = some (.tup xs)) (a : Ats H xs ds) (z : xs.length ≤ 100000) : At H (.ref p) (.tup ds)
inductive Ats (H : Hp) : List V → List Dt → Prop
  | nil : Ats H [] []
  | cons {x : V} {d : Dt} {xs : List V} {ds : List Dt} (h : At H x d) (t : Ats H xs ds) : Ats H (x :: xs) (d :: ds)
end
mutual
def dep : Dt → Nat
  | .lst l => deps l + 1
  | .tup l => deps l + 1
  | _ => 0
def deps : List Dt → Nat
  | [] => 0
  | d :: r => max (dep d) (deps r)
end
theorem deps_mem {d : Dt} : ∀ {l : List Dt}, d ∈ l → dep d ≤ deps l
  | e :: r, h => by
    rw [deps]
    rcases List.mem_cons.mp h with rfl | h
    · exact Nat.le_max_left _ _
    · exact Nat.le_trans (deps_mem h) (Nat.le_max_right _ _)
theorem deps_ints : ∀ l : List Int, deps (l.map Dt.int) = 0
  | [] => rfl
  | i :: r => by rw [List.map_cons, deps, deps_ints r]; rfl
theorem Ats.length {H : Hp} {xs ds} (h : Ats H xs ds) : xs.length = ds.length := by
  revert ds; induction xs with
  | nil => intro ds h; cases h; rfl
  | cons x xs ih => intro ds h; cases h with | cons a t => rw [List.length_cons, List.length_cons, ih t]
theorem Ats.get {H : Hp} : ∀ {xs ds} (h : Ats H xs ds) {i : Nat} {x : V}, xs[i]? = some x → ∃ d, ds[i]? = some d ∧ At H x d := by
  intro xs; induction xs with
  | nil => intro ds h i x e; simp at e
  | cons y xs ih => 
    intro ds h i x e
    cases h with
    | cons a t =>
      cases i with
      | zero => exact ⟨_, rfl, by simp at e; subst e; exact a⟩
      | succ i => exact ih t (by simpa using e)
theorem Ats.getD {H : Hp} {xs ds} (h : Ats H xs ds) {i : Nat} {d : Dt} (e : ds[i]? = some d) : ∃ x, xs[i]? = some x ∧ At H x d := by
  have hl := h.length
  have hi : i < xs.length := by rw [hl]; exact (List.getElem?_eq_some_iff.mp e).1
  obtain ⟨d', e', a⟩ := h.get (List.getElem?_eq_getElem hi)
  rw [e] at e'; cases e'
  exact ⟨_, List.getElem?_eq_getElem hi, a⟩
theorem ats_ints (H : Hp) : ∀ l : List Int, Ats H (l.map V.int) (l.map Dt.int)
  | [] => .nil
  | i :: r => .cons (.int i) (ats_ints H r)
mutual
theorem At.same {H H' : Hp} (s : Same H H') : ∀ {x d}, At H x d → At H' x d
  | _, _, .non => .non
  | _, _, .bl b => .bl b
  | _, _, .int i => .int i
  | _, _, .str x => .str x
  | _, _, .lst h a z => .lst (s _ _ h) (a.same s) z
  | _, _, .tup h a z => .tup (s _ _ h) (a.same s) z
theorem Ats.same {H H' : Hp} (s : Same H H') : ∀ {xs ds}, Ats H xs ds → Ats H' xs ds
  | _, _, .nil => .nil
  | _, _, .cons h t => .cons (h.same s) (t.same s)
end
theorem ats_ints_eq {l m : List Int} (h : l.map Dt.int = m.map Dt.int) : l = m := by
  induction l generalizing m with
  | nil => cases m with
    | nil => rfl
    | cons => simp at h
  | cons x l ih => cases m with
    | nil => simp at h
    | cons y m => 
      simp only [List.map_cons, List.cons.injEq, Dt.int.injEq] at h
      rw [h.1, ih h.2]
def ty : Dt → String
  | .non => "NoneType" | .bl _ => "bool" | .int _ => "int" | .str _ => "str" | .lst _ => "list" | .tup _ => "tuple"
def isL : Dt → Bool | .lst _ => true | _ => false
def isU : Dt → Bool | .tup _ => true | _ => false
def isB : Dt → Bool | .bl _ => true | _ => false
def isI : Dt → Bool | .int _ => true | .bl _ => true | _ => false
def isN : Dt → Bool | .int _ => true | _ => false
def isS : Dt → Bool | .str _ => true | _ => false
theorem At.tyX {K H x d} (h : At H x d) : TyX K H x (.type (ty d)) := by
  cases h with
  | non => exact .base .non
  | bl b => exact .base (.bl b)
  | int i => exact .base (.int i)
  | str x => exact .base (.str x)
  | lst h _ _ => exact .base (.lst h)
  | tup h _ _ => exact .base (.tup h)
theorem kitL (d : Dt) : kitB (ty d) "list" = some (isL d) := by
  cases d with
  | non => exact (by decide +kernel : kitB "NoneType" "list" = some false)
  | bl b => exact (by decide +kernel : kitB "bool" "list" = some false)
  | int i => exact (by decide +kernel : kitB "int" "list" = some false)
  | str x => exact (by decide +kernel : kitB "str" "list" = some false)
  | lst l => exact (by decide +kernel : kitB "list" "list" = some true)
  | tup l => exact (by decide +kernel : kitB "tuple" "list" = some false)

theorem kitU (d : Dt) : kitB (ty d) "tuple" = some (isU d) := by
  cases d with
  | non => exact (by decide +kernel : kitB "NoneType" "tuple" = some false)
  | bl b => exact (by decide +kernel : kitB "bool" "tuple" = some false)
  | int i => exact (by decide +kernel : kitB "int" "tuple" = some false)
  | str x => exact (by decide +kernel : kitB "str" "tuple" = some false)
  | lst l => exact (by decide +kernel : kitB "list" "tuple" = some false)
  | tup l => exact (by decide +kernel : kitB "tuple" "tuple" = some true)

theorem kitBo (d : Dt) : kitB (ty d) "bool" = some (isB d) := by
  cases d with
  | non => exact (by decide +kernel : kitB "NoneType" "bool" = some false)
  | bl b => exact (by decide +kernel : kitB "bool" "bool" = some true)
  | int i => exact (by decide +kernel : kitB "int" "bool" = some false)
  | str x => exact (by decide +kernel : kitB "str" "bool" = some false)
  | lst l => exact (by decide +kernel : kitB "list" "bool" = some false)
  | tup l => exact (by decide +kernel : kitB "tuple" "bool" = some false)

theorem kitI (d : Dt) : kitB (ty d) "int" = some (isI d) := by
  cases d with
  | non => exact (by decide +kernel : kitB "NoneType" "int" = some false)
  | bl b => exact (by decide +kernel : kitB "bool" "int" = some true)
  | int i => exact (by decide +kernel : kitB "int" "int" = some true)
  | str x => exact (by decide +kernel : kitB "str" "int" = some false)
  | lst l => exact (by decide +kernel : kitB "list" "int" = some false)
  | tup l => exact (by decide +kernel : kitB "tuple" "int" = some false)

theorem kitS (d : Dt) : kitB (ty d) "str" = some (isS d) := by
  cases d with
  | non => exact (by decide +kernel : kitB "NoneType" "str" = some false)
  | bl b => exact (by decide +kernel : kitB "bool" "str" = some false)
  | int i => exact (by decide +kernel : kitB "int" "str" = some false)
  | str x => exact (by decide +kernel : kitB "str" "str" = some true)
  | lst l => exact (by decide +kernel : kitB "list" "str" = some false)
  | tup l => exact (by decide +kernel : kitB "tuple" "str" = some false)

theorem isi {K H x d T b} {Q : VK} (a : At H x d) (hb : kitB (ty d) T = some b) (q : Q (.bl b) H) : rIsi K [x, .ty T] H Q := ⟨x, .ty T, _, _, b, rfl, .ty T, a.tyX, kit_ty hb, q⟩
end LR

set_option Elab.async false
set_option maxRecDepth 100000
set_option linter.all false
set_option maxHeartbeats 4000000
namespace LR
open PySem PySem.Spec PyProof.Rows L2
/-! ## the mathematics of a ladder -/
def cnt (lv : Int) (l : List Int) : Int := ((l.filter (fun x => decide (lv ≤ x))).length : Int)
/-- levels of at least lv below step i -/
def cn (ls : List Int) (lv : Int) (i : Nat) : Int := cnt lv (ls.take i)
def cnL (ls : List Int) (lv : Int) (n : Nat) : List V := (List.range n).map fun i => V.int (cn ls lv i)
theorem cnL_get {ls lv n i} (h : i < n) : (cnL ls lv n)[i]? = some (V.int (cn ls lv i)) := by
  unfold cnL; rw [List.getElem?_map, List.getElem?_range h]; rfl
theorem cnL_length {ls lv n} : (cnL ls lv n).length = n := by unfold cnL; rw [List.length_map, List.length_range]
theorem cnL_succ {ls lv n} : cnL ls lv (n + 1) = cnL ls lv n ++ [V.int (cn ls lv n)] := by
  unfold cnL; rw [List.range_succ, List.map_append]; rfl
theorem cn_succ {ls : List Int} {lv : Int} {i : Nat} {z : Int} (h : ls[i]? = some z) : cn ls lv (i + 1) = cn ls lv i + (if lv ≤ z then 1 else 0) := by
  unfold cn cnt
  rw [List.take_succ, h, List.filter_append, List.length_append]
  simp only [Option.toList]
  by_cases c : lv ≤ z
  · simp [c]
  · simp [c]
def lfs (h : Int) (tl : Addr) (n : Int) (tc : Addr) : List (Str × V) := [("height", .int h), ("levels", .ref tl), ("top", .int n), ("_counts", .ref tc)]
/-- what lies in the heap of the tuple of counts -/
def Counts (H : Hp) (ls : List Int) (tc : Addr) (h : Int) : Prop := ∃ cs : List Addr, H tc = some (.tup (cs.map V.ref)) ∧ cs.length = (h + 1).toNat ∧ ∀ (j : Nat) (a : Addr), cs[j]? = some a → H a = some (.tup (cnL ls (j + 1) (ls.length + 1)))
/-- a ladder of height h and row ls stands at x -/
def LadderAt (C : Addr) (H : Hp) (x : Addr) (h : Int) (ls : List Int) : Prop := ∃ dx tl tc, H x = some (.ins C dx (lfs h tl ls.length tc)) ∧ H tl = some (.tup (ls.map V.int)) ∧ Counts H ls tc h
theorem LadderAt.same {C H H' x h ls} (s : Same H H') (a : LadderAt C H x h ls) : LadderAt C H' x h ls := by
  obtain ⟨dx, tl, tc, h1, h2, cs, h3, h4, h5⟩ := a
  exact ⟨dx, tl, tc, s _ _ h1, s _ _ h2, cs, s _ _ h3, h4, fun j a e => s _ _ (h5 j a e)⟩
theorem LadderAt.keep {C H H' x h ls p} (s : Keep p H H') (hp : ∃ l, H p = some (.lst l)) (a : LadderAt C H x h ls) : LadderAt C H' x h ls := by
  obtain ⟨l, hp⟩ := hp
  obtain ⟨dx, tl, tc, h1, h2, cs, h3, h4, h5⟩ := a
  have k : ∀ b o, H b = some o → (∀ l, o ≠ .lst l) → H' b = some o := fun b o e n => s _ (ne_of e hp (n _)) _ e
  exact ⟨dx, tl, tc, k _ _ h1 (fun l z => by cases z), k _ _ h2 (fun l z => by cases z), cs, k _ _ h3 (fun l z => by cases z), h4, fun j a e => k _ _ (h5 j a e) (fun l z => by cases z)⟩
/-- what the ladder answers: an edge of rank p from u to w -/
def alw (ls : List Int) (u p w : Int) : Bool := if p % 2 = 0 then decide (cn ls (p / 2 + 1) w.toNat ≤ cn ls (p / 2 + 1) u.toNat) else decide (cn ls (p / 2 + 1) w.toNat < cn ls (p / 2 + 1) u.toNat)
/-! ## the mathematics of allowed edges -/
theorem cn_le_succ (ls : List Int) (lv : Int) (i : Nat) : cn ls lv i ≤ cn ls lv (i + 1) := by
  cases h : ls[i]? with
  | none =>
    have hl : ls.length ≤ i := List.getElem?_eq_none_iff.mp h
    unfold cn
    rw [List.take_of_length_le hl, List.take_of_length_le (by omega)]
    exact Int.le_refl _
  | some z =>
    rw [cn_succ h]
    split <;> omega
theorem cn_mono (ls : List Int) (lv : Int) {i k : Nat} (h : i ≤ k) : cn ls lv i ≤ cn ls lv k := by
  induction h with
  | refl => exact Int.le_refl _
  | step _ ih => exact Int.le_trans ih (cn_le_succ _ _ _)
/-- equal counts: no level of at least lv between -/
theorem cn_eq (ls : List Int) (lv : Int) {i k : Nat} (h : i ≤ k) : cn ls lv k ≤ cn ls lv i ↔ ∀ (m : Nat) (z : Int), i ≤ m → m < k → ls[m]? = some z → z < lv := by
  induction h with
  | refl => exact ⟨fun _ m z a b => by omega, fun _ => Int.le_refl _⟩
  | @step k hk ih =>
    have m1 := cn_mono ls lv hk
    have m2 := cn_le_succ ls lv k
    show cn ls lv (k + 1) ≤ cn ls lv i ↔ ∀ (m : Nat) (z : Int), i ≤ m → m < k + 1 → ls[m]? = some z → z < lv
    constructor
    · intro c m z a b e
      by_cases q : m < k
      · exact ih.mp (by omega) m z a q e
      · have : m = k := by omega
        subst this
        have e2 := cn_succ (lv := lv) e
        by_cases q2 : lv ≤ z
        · rw [if_pos q2] at e2; omega
        · omega
    · intro c
      have c1 := ih.mpr fun m z a b e => c m z a (by omega) e
      cases e : ls[k]? with
      | none =>
        have hl : ls.length ≤ k := List.getElem?_eq_none_iff.mp e
        have : cn ls lv (k + 1) = cn ls lv k := by
          unfold cn
          rw [List.take_of_length_le hl, List.take_of_length_le (by omega)]
        omega
      | some z =>
        have e2 := cn_succ (lv := lv) e
        have := c k z hk (by omega) e
        rw [if_neg (by omega)] at e2
        omega
/-- what is allowed never leads above in a higher count -/
theorem alw_count {ls : List Int} {u p v lv : Int} (h : alw ls u p v = true) (hl : p / 2 + 1 ≤ lv) : cn ls lv v.toNat ≤ cn ls lv u.toNat := by
  by_cases c : v.toNat ≤ u.toNat
  · exact cn_mono _ _ c
  have c : u.toNat ≤ v.toNat := by omega
  unfold alw at h
  have hle : cn ls (p / 2 + 1) v.toNat ≤ cn ls (p / 2 + 1) u.toNat := by
    split at h
    · exact of_decide_eq_true h
    · have := of_decide_eq_true h; omega
  rw [cn_eq _ _ c] at hle ⊢
  intro m z a b e
  have := hle m z a b e
  omega
theorem alw_step {ls : List Int} {u p v : Int} : alw ls u p v = true ↔ (p % 2 = 0 → cn ls (p / 2 + 1) v.toNat ≤ cn ls (p / 2 + 1) u.toNat) ∧ (¬ p % 2 = 0 → cn ls (p / 2 + 1) v.toNat < cn ls (p / 2 + 1) u.toNat) := by
  unfold alw
  split
  · rename_i c; exact ⟨fun h => ⟨fun _ => of_decide_eq_true h, fun q => absurd c q⟩, fun h => decide_eq_true (h.1 c)⟩
  · rename_i c; exact ⟨fun h => ⟨fun q => absurd q c, fun _ => of_decide_eq_true h⟩, fun h => decide_eq_true (h.2 c)⟩
theorem alw_trans {ls : List Int} {u p v q w : Int} (h1 : alw ls u p v = true) (h2 : alw ls v q w = true) : alw ls u (max p q) w = true := by
  by_cases c : p ≤ q
  · rw [Int.max_eq_right c]
    have k := alw_count h1 (lv := q / 2 + 1) (by omega)
    rw [alw_step] at h2 ⊢
    exact ⟨fun e => Int.le_trans (h2.1 e) k, fun e => Int.lt_of_lt_of_le (h2.2 e) k⟩
  · rw [Int.max_eq_left (by omega)]
    have k := alw_count h2 (lv := p / 2 + 1) (by omega)
    rw [alw_step] at h1 ⊢
    exact ⟨fun e => Int.le_trans k (h1.1 e), fun e => Int.lt_of_le_of_lt k (h1.2 e)⟩
theorem alw_loop {ls : List Int} {u p : Int} (h : alw ls u p u = true) : p % 2 = 0 := by
  rw [alw_step] at h
  apply Classical.byContradiction
  intro c
  exact absurd (h.2 c) (Int.lt_irrefl _)
/-- g is the greatest level from place lo to hi, 0 if there is none -/
def IsGap (ls : List Int) (lo hi : Nat) (g : Int) : Prop := 0 ≤ g ∧ (∀ (m : Nat) (z : Int), lo ≤ m → m < hi → ls[m]? = some z → z ≤ g) ∧ (g = 0 ∨ ∃ m : Nat, lo ≤ m ∧ m < hi ∧ ls[m]? = some g)
theorem IsGap.le {ls : List Int} {lo hi : Nat} {g j : Int} (h : IsGap ls lo hi g) (hj : 0 ≤ j) : g ≤ j ↔ ∀ (m : Nat) (z : Int), lo ≤ m → m < hi → ls[m]? = some z → z < j + 1 := by
  constructor
  · intro c m z a b e
    have := h.2.1 m z a b e
    omega
  · intro c
    rcases h.2.2 with e | ⟨m, a, b, e⟩
    · omega
    · have := c m g a b e
      omega
/-- what the law says of an edge is what the ladder answers -/
theorem alw_gap {ls : List Int} {u p v g : Int} (hu : 0 ≤ u) (hv : 0 ≤ v) (hp : 0 ≤ p) (h : IsGap ls (min u.toNat v.toNat) (max u.toNat v.toNat) g) :
    alw ls u p v = if p % 2 = 0 then (decide (v ≤ u) || decide (2 * g ≤ p)) else (decide (v < u) && decide (p < 2 * g)) := by
  rw [Bool.eq_iff_iff, alw_step]
  by_cases c : v ≤ u
  · have e1 : min u.toNat v.toNat = v.toNat := by omega
    have e2 : max u.toNat v.toNat = u.toNat := by omega
    rw [e1, e2] at h
    have m1 := cn_mono ls (p / 2 + 1) (show v.toNat ≤ u.toNat by omega)
    have k := cn_eq ls (p / 2 + 1) (show v.toNat ≤ u.toNat by omega)
    rw [← h.le (by omega)] at k
    split
    · rename_i e
      simp only [decide_eq_true c, Bool.true_or]
      exact ⟨fun _ => trivial, fun _ => ⟨fun _ => m1, fun q => absurd e q⟩⟩
    · rename_i e
      rw [Bool.and_eq_true, decide_eq_true_eq, decide_eq_true_eq]
      constructor
      · intro q
        have q := q.2 e
        have hg : ¬ g ≤ p / 2 := fun z => by have := k.mpr z; omega
        refine ⟨?_, by omega⟩
        rcases Int.lt_or_eq_of_le c with z | z
        · exact z
        · subst z; omega
      · intro ⟨q1, q2⟩
        have hg : ¬ g ≤ p / 2 := by omega
        refine ⟨fun z => absurd z e, fun _ => ?_⟩
        have : ¬ cn ls (p / 2 + 1) u.toNat ≤ cn ls (p / 2 + 1) v.toNat := fun z => hg (k.mp z)
        omega
  · have e1 : min u.toNat v.toNat = u.toNat := by omega
    have e2 : max u.toNat v.toNat = v.toNat := by omega
    rw [e1, e2] at h
    have m1 := cn_mono ls (p / 2 + 1) (show u.toNat ≤ v.toNat by omega)
    have k := cn_eq ls (p / 2 + 1) (show u.toNat ≤ v.toNat by omega)
    rw [← h.le (by omega)] at k
    split
    · rename_i e
      simp only [decide_eq_false c, Bool.false_or, decide_eq_true_eq]
      exact ⟨fun q => by have := k.mp (q.1 e); omega, fun q => ⟨fun _ => k.mpr (by omega), fun z => absurd e z⟩⟩
    · rename_i e
      have c2 : ¬ v < u := by omega
      simp only [decide_eq_false c2, Bool.false_and]
      exact ⟨fun q => by have := q.2 e; omega, fun q => by cases q⟩
/-- places and ranks of a walk of allowed edges -/
def Path (ls : List Int) (h : Int) (pl rk : List Int) : Prop := pl.length = rk.length + 1 ∧ (∀ z ∈ pl, 0 ≤ z ∧ z ≤ ls.length) ∧ (∀ r ∈ rk, 0 ≤ r ∧ r ≤ 2 * h) ∧ ∀ (i : Nat) (u p v : Int), pl[i]? = some u → rk[i]? = some p → pl[i + 1]? = some v → alw ls u p v = true
theorem Path.add {ls : List Int} {h : Int} {pl rk : List Int} {u p v : Int} (a : Path ls h (pl ++ [u]) rk) (hp : 0 ≤ p ∧ p ≤ 2 * h) (hv : 0 ≤ v ∧ v ≤ ls.length) (e : alw ls u p v = true) : Path ls h (pl ++ [u] ++ [v]) (rk ++ [p]) := by
  obtain ⟨a1, a2, a3, a4⟩ := a
  have a1' : pl.length = rk.length := by simpa using a1
  refine ⟨by simp [a1'], fun z hz => ?_, fun r hr => ?_, fun i u' p' v' h1 h2 h3 => ?_⟩
  · rcases List.mem_append.mp hz with q | q
    · exact a2 z q
    · have : z = v := by simpa using q
      rw [this]; exact hv
  · rcases List.mem_append.mp hr with q | q
    · exact a3 r q
    · have : r = p := by simpa using q
      rw [this]; exact hp
  · have hi : i < rk.length + 1 := by
      have := (List.getElem?_eq_some_iff.mp h2).1
      simpa using this
    by_cases q : i < rk.length
    · rw [List.getElem?_append_left (by simp; omega)] at h1 h3
      rw [List.getElem?_append_left q] at h2
      exact a4 i u' p' v' h1 h2 h3
    · have : i = rk.length := by omega
      subst this
      rw [List.getElem?_append_left (by simp; omega), ← a1', List.getElem?_append_right (Nat.le_refl _)] at h1
      rw [List.getElem?_append_right (Nat.le_refl _)] at h2
      rw [List.getElem?_append_right (by simp; omega)] at h3
      simp [a1'] at h1 h2 h3
      rw [← h1, ← h2, ← h3]; exact e
end LR

set_option Elab.async false
set_option maxRecDepth 100000
set_option linter.all false
set_option maxHeartbeats 4000000
namespace LR
open PySem PySem.Spec PyProof.Rows L2
def oV : Option Int → V
  | none => .non
  | some k => .int k
def oD : Option Int → Dt
  | none => .non
  | some k => .int k
theorem at_o (H : Hp) (o : Option Int) : At H (oV o) (oD o) := by
  cases o with
  | none => exact .non
  | some k => exact .int k
/-- o is the least step from which rank p is allowed to w -/
def LeastIs (ls : List Int) (p w : Int) (o : Option Int) : Prop := (∀ k, o = some k → 0 ≤ k ∧ k ≤ ls.length) ∧ ∀ u : Int, 0 ≤ u → u ≤ ls.length → (alw ls u p w = true ↔ ∃ k, o = some k ∧ k ≤ u)
def GreatestIs (ls : List Int) (u p : Int) (o : Option Int) : Prop := (∀ k, o = some k → 0 ≤ k ∧ k ≤ ls.length) ∧ ∀ w : Int, 0 ≤ w → w ≤ ls.length → (alw ls u p w = true ↔ ∃ k, o = some k ∧ w ≤ k)
theorem LeastIs.one {ls p w o o'} (a : LeastIs ls p w o) (b : LeastIs ls p w o') : o = o' := by
  have key : ∀ {x y : Option Int}, LeastIs ls p w x → LeastIs ls p w y → ∀ k, x = some k → ∃ j, y = some j ∧ j ≤ k := fun a b k e => by
    obtain ⟨k0, k1⟩ := a.1 k e
    exact (b.2 k k0 k1).mp ((a.2 k k0 k1).mpr ⟨k, e, Int.le_refl _⟩)
  cases o with
  | none => cases o' with
    | none => rfl
    | some k => obtain ⟨j, e, _⟩ := key b a k rfl; cases e
  | some k => 
    obtain ⟨j, e, h⟩ := key a b k rfl
    subst e
    obtain ⟨i, e, h2⟩ := key b a j rfl
    cases e
    rw [Int.le_antisymm h h2]
theorem GreatestIs.one {ls u p o o'} (a : GreatestIs ls u p o) (b : GreatestIs ls u p o') : o = o' := by
  have key : ∀ {x y : Option Int}, GreatestIs ls u p x → GreatestIs ls u p y → ∀ k, x = some k → ∃ j, y = some j ∧ k ≤ j := fun a b k e => by
    obtain ⟨k0, k1⟩ := a.1 k e
    exact (b.2 k k0 k1).mp ((a.2 k k0 k1).mpr ⟨k, e, Int.le_refl _⟩)
  cases o with
  | none => cases o' with
    | none => rfl
    | some k => obtain ⟨j, e, _⟩ := key b a k rfl; cases e
  | some k =>
    obtain ⟨j, e, h⟩ := key a b k rfl
    subst e
    obtain ⟨i, e, h2⟩ := key b a j rfl
    cases e
    rw [Int.le_antisymm h h2]
/-- what is allowed, level by level -/
theorem alw_lv {ls : List Int} {u p w : Int} (hu : 0 ≤ u) (hw : 0 ≤ w) : alw ls u p w = true ↔
    if p % 2 = 0 then w ≤ u ∨ ∀ (m : Nat) (z : Int), u ≤ m → (m : Int) < w → ls[m]? = some z → z < p / 2 + 1
    else w < u ∧ ∃ (m : Nat) (z : Int), w ≤ m ∧ (m : Int) < u ∧ ls[m]? = some z ∧ p / 2 + 1 ≤ z := by
  rw [alw_step]
  split
  · rename_i e
    by_cases c : w ≤ u
    · exact ⟨fun _ => .inl c, fun _ => ⟨fun _ => cn_mono _ _ (by omega), fun q => absurd e q⟩⟩
    · have k := cn_eq ls (p / 2 + 1) (show u.toNat ≤ w.toNat by omega)
      constructor
      · intro h
        exact .inr fun m z a b e2 => k.mp (h.1 e) m z (by omega) (by omega) e2
      · rintro (h | h)
        · exact absurd h c
        · exact ⟨fun _ => k.mpr fun m z a b e2 => h m z (by omega) (by omega) e2, fun q => absurd e q⟩
  · rename_i e
    by_cases c : w < u
    · have k := cn_eq ls (p / 2 + 1) (show w.toNat ≤ u.toNat by omega)
      constructor
      · intro h
        refine ⟨c, Classical.byContradiction fun q => ?_⟩
        have : cn ls (p / 2 + 1) u.toNat ≤ cn ls (p / 2 + 1) w.toNat := k.mpr fun m z a b e2 => by
          apply Classical.byContradiction
          intro q2
          exact q ⟨m, z, by omega, by omega, e2, by omega⟩
        have := h.2 e
        omega
      · rintro ⟨_, m, z, a, b, e2, h⟩
        refine ⟨fun q => absurd q e, fun _ => ?_⟩
        have : ¬ cn ls (p / 2 + 1) u.toNat ≤ cn ls (p / 2 + 1) w.toNat := fun q => by
          have := k.mp q m z (by omega) (by omega) e2
          omega
        omega
    · have := cn_mono ls (p / 2 + 1) (show u.toNat ≤ w.toNat by omega)
      exact ⟨fun h => by have := h.2 e; omega, fun h => absurd h.1 c⟩
theorem alw_up {ls : List Int} {u u' p w : Int} (h : alw ls u p w = true) (le : u ≤ u') : alw ls u' p w = true := by
  have m := cn_mono ls (p / 2 + 1) (show u.toNat ≤ u'.toNat by omega)
  rw [alw_step] at h ⊢
  exact ⟨fun e => Int.le_trans (h.1 e) m, fun e => Int.lt_of_lt_of_le (h.2 e) m⟩
theorem alw_down {ls : List Int} {u p w w' : Int} (h : alw ls u p w = true) (le : w' ≤ w) : alw ls u p w' = true := by
  have m := cn_mono ls (p / 2 + 1) (show w'.toNat ≤ w.toNat by omega)
  rw [alw_step] at h ⊢
  exact ⟨fun e => Int.le_trans m (h.1 e), fun e => Int.lt_of_le_of_lt m (h.2 e)⟩
/-- the first step that does, or none -/
theorem least_found {ls : List Int} {p w : Int} {k : Nat} (hk : k ≤ ls.length) (h : alw ls k p w = true) (hn : ∀ j : Nat, j < k → alw ls j p w = false) : LeastIs ls p w (some (k : Int)) := by
  refine ⟨fun j e => by cases e; omega, fun u u0 u1 => ⟨fun q => ⟨k, rfl, ?_⟩, fun ⟨j, e, le⟩ => ?_⟩⟩
  · apply Classical.byContradiction
    intro c
    have := hn u.toNat (by omega)
    rw [Int.toNat_of_nonneg u0, q] at this
    cases this
  · cases e; exact alw_up h le
theorem least_none {ls : List Int} {p w : Int} (hn : ∀ j : Nat, j ≤ ls.length → alw ls j p w = false) : LeastIs ls p w none := by
  refine ⟨fun j e => (by cases e), fun u u0 u1 => ⟨fun q => ?_, fun ⟨j, e, le⟩ => (by cases e)⟩⟩
  have := hn u.toNat (by omega)
  rw [Int.toNat_of_nonneg u0, q] at this
  cases this
theorem greatest_found {ls : List Int} {u p : Int} {k : Nat} (hk : k ≤ ls.length) (h : alw ls u p k = true) (hn : ∀ j : Nat, k < j → j ≤ ls.length → alw ls u p j = false) : GreatestIs ls u p (some (k : Int)) := by
  refine ⟨fun j e => by cases e; omega, fun w u0 u1 => ⟨fun q => ⟨k, rfl, ?_⟩, fun ⟨j, e, le⟩ => ?_⟩⟩
  · apply Classical.byContradiction
    intro c
    have := hn w.toNat (by omega) (by omega)
    rw [Int.toNat_of_nonneg u0, q] at this
    cases this
  · cases e; exact alw_down h le
theorem greatest_none {ls : List Int} {u p : Int} (hn : ∀ j : Nat, j ≤ ls.length → alw ls u p j = false) : GreatestIs ls u p none := by
  refine ⟨fun j e => (by cases e), fun w u0 u1 => ⟨fun q => ?_, fun ⟨j, e, le⟩ => (by cases e)⟩⟩
  have := hn w.toNat (by omega)
  rw [Int.toNat_of_nonneg u0, q] at this
  cases this
end LR

set_option Elab.async false
set_option maxRecDepth 100000
set_option linter.all false
set_option maxHeartbeats 4000000
namespace LR
open PySem PySem.Spec PyProof.Rows L2
/-! ## defs that say super(): the cell __class__ stands in the written part -/
structure CScope (N P : List Str) (sc : Scope) : Prop where
  kind : sc.kind = .function
  co : sc.isCoroutine = false
  gen : sc.isGenerator = false
  nd : N.Nodup
  pre : N.take P.length = P
  par : ∀ x ∈ P, sc.names.lookup x = some .local
  nocell : ∀ y ∈ sc.names, y.2 ≠ .cell
  free : ∀ y ∈ sc.names, y.2 = .free → y.1 = "__class__"
def cxC (CX : CXT) (P : Program) (w : World) (K : PySem.W.Frag) (mg : Str → Option Value) (base : Heap) (N : List Str) (qual : Str) (scope : Scope) (f : Addr) (cd : Value) (cc : Addr) (A : Around) (outer : List Env) (s : Shared) (H : Hp) (E : XK) : Cx where
  prog := P
  w := w
  K := K
  mg := mg
  base := base
  A := A.deeper (PySem.W.ksEnv qual scope s.heap.objs.size f cd cc)
  N := N
  s_0 := s
  H_0 := H
  env := PySem.W.ksEnv qual scope s.heap.objs.size f cd cc
  outer := outer
  stack := PySem.W.ksEnv qual scope s.heap.objs.size f cd cc :: outer
  ex := []
  calm := true
  fn := fun _ => false
  pn := []
  xe := fun e s' => wpAny (model P w) (A.deeper (PySem.W.ksEnv qual scope s.heap.objs.size f cd cc)) (leaving (PySem.W.ksEnv qual scope s.heap.objs.size f cd cc) e) (fun _ s'' => CX outer H s E e s'') (fun e' s'' => CX outer H s E e' s'') s'
/-! ### statements at the def's own node -/
structure NE (X : Cx) (body : List Stmt) (e : Expr) (t : TE) : Prop where
  run : ∀ (pins : List (Addr × Obj)) (s : Shared) (σ : L2.St) (H : Hp) (Q : VK), Inv X pins σ H s → t σ H Q → PySem.wpAt (model X.prog X.w) X.A (.func body X.env) (eval e X.env) (EP X pins σ Q) X.xe s
structure NS (X : Cx) (body : List Stmt) (st : Stmt) (t : TS) : Prop where
  run : ∀ (pins : List (Addr × Obj)) (s : Shared) (σ : L2.St) (H : Hp) (D : Ends), Inv X pins σ H s → t D σ H → PySem.wpAt (model X.prog X.w) X.A (.func body X.env) (exec st X.env) (SP X pins D) X.xe s
structure NSs (X : Cx) (body : List Stmt) (st : List Stmt) (t : TS) : Prop where
  run : ∀ (pins : List (Addr × Obj)) (s : Shared) (σ : L2.St) (H : Hp) (D : Ends), Inv X pins σ H s → t D σ H → PySem.wpAt (model X.prog X.w) X.A (.func body X.env) (execs st X.env) (SP X pins D) X.xe s
section
variable {X : Cx} {body : List Stmt} {st : Stmt} {rest : List Stmt} {t u : TS} {e : Expr} {te : TE} {pos : Pos}
theorem nss_ps (h : PSs X rest t) : NSs X body rest t := ⟨fun pins s σ H D I q => wpAt_of_wpAny (h.run pins s σ H D I q)⟩
theorem ns_ps (h : PS X st t) : NS X body st t := ⟨fun pins s σ H D I q => wpAt_of_wpAny (h.run pins s σ H D I q)⟩
theorem nss_cons (h1 : NS X body st t) (h2 : NSs X body rest u) : NSs X body (st :: rest) (tSeq t u) := by
  refine ⟨fun pins s σ H D I h => ?_⟩
  refine PySem.ks_wpAt_execs_cons (PySem.ks_wpAt_mono (h1.run pins s σ H { D with nx := u D } I h) (fun f s1 q => ?_) fun _ _ z => z)
  cases f with
  | next =>
    obtain ⟨σ', H', I', q⟩ := q
    exact h2.run pins s1 σ' H' D I' q
  | ret v => exact q
  | brk => exact q
  | cont => exact q
theorem nss_nil : NSs X body [] tNext := nss_ps pss_nil
theorem nss_one (h : NS X body st t) : NSs X body [st] (tSeq t tNext) := nss_cons h nss_nil
theorem ns_expr (h : NE X body e te) (hi : interactive X.env = false := by rfl) (hs : swapsWith e none pos.line X.env = pure false := by rfl) : NS X body (.Expr e pos) (tDrop te) := by
  refine ⟨fun pins s σ H D I q => ?_⟩
  refine PySem.ks_wpAt_Expr_any (PySem.ks_wpAt_mono (h.run pins s σ H _ I q) (fun v s1 hh => ?_) fun _ _ z => z) hi hs
  obtain ⟨x, H1, I1, r1, q1⟩ := hh
  exact ⟨σ, H1, I1, q1⟩
theorem ns_ret (h : NE X body e te) : NS X body (.Return (some e) pos) (tRet te) := by
  refine ⟨fun pins s σ H D I q => ?_⟩
  refine PySem.ks_wpAt_Return_some (PySem.ks_wpAt_mono (h.run pins s σ H _ I q) (fun v s1 hh => ?_) fun _ _ z => z)
  obtain ⟨x, H1, I1, r1, q1⟩ := hh
  exact ⟨x, σ, H1, I1, r1, q1⟩
end
theorem lk_mem {l : List (Str × Value)} {y : Str} {u : Value} (nd : (l.map (·.1)).Nodup) (h : (y, u) ∈ l) : l.lookup y = some u := by
  induction l with
  | nil => cases h
  | cons p r ih =>
    obtain ⟨z, v⟩ := p
    have hz : ((z, v) :: r).map (·.1) = z :: r.map (·.1) := rfl
    rw [hz] at nd
    obtain ⟨n1, n2⟩ := List.nodup_cons.mp nd
    rcases List.mem_cons.mp h with q | q
    · cases q
      simp [List.lookup]
    · have ne : (y == z) = false := by
        simp only [beq_eq_false_iff_ne, ne_eq]
        intro e; subst e
        exact n1 (List.mem_map_of_mem (f := (·.1)) q)
      simp only [List.lookup, ne]
      exact ih n2 q
theorem nodup_rev {α : Type} : ∀ {l : List α}, l.Nodup → l.reverse.Nodup := fun {l} h => by
  unfold List.Nodup at h ⊢
  rw [List.pairwise_reverse]
  exact h.imp fun a b => a b.symm
theorem zip_lk {ps : List Str} {us : List Value} {i : Nat} {y : Str} {u : Value} (nd : ps.Nodup) (hl : us.length = ps.length) (h1 : ps[i]? = some y) (h2 : us[i]? = some u) : (ps.zip us).reverse.lookup y = some u := by
  refine lk_mem ?_ ?_
  · rw [List.map_reverse]
    refine nodup_rev ?_
    have : (ps.zip us).map (·.1) = ps := List.map_fst_zip (by omega)
    rw [this]; exact nd
  · rw [List.mem_reverse]
    refine List.mem_of_getElem? (i := i) ?_
    rw [List.getElem?_zip_eq_some]; exact ⟨h1, h2⟩
section
variable {CX : CXT} {P : Program} {w : World} {K : PySem.W.Frag} {mg : Str → Option Value} {base : Heap} {k : Nat} {f cc D : Addr} {name qual : Str} {params : Arguments} {body : List Stmt} {scope : Scope} {dV kV doc pm cdv ct oc cl : Value} {an od cld : Option Addr}
    {osl csl : Array (Option Value)} {N ps : List Str} {sp : Sp}
theorem fn_ofC (lk : K.lookup f = some ⟨oc, od, .func (PySem.W.ksFn name qual params body scope dV kV doc pm an cdv ct cc), osl⟩) (lc : K.lookup cc = some ⟨cl, cld, .cell (some (.ref D)), csl⟩) (hcd : PySem.W.codeIn K cdv qual = true) (S : CScope N ps scope)
    (len : ∀ vs H Q E, sp vs H Q E → vs.length = ps.length)
    (hbody : ∀ (A : Around) (outer : List Env) (s : Shared) (H : Hp) (vs : List V) (Q : VK) (E : XK), Room k (A.deeper (PySem.W.ksEnv qual scope s.heap.objs.size f cdv cc)) → sp vs H Q E →
      ∃ t, NSs (cxC CX P w K mg base N qual scope f cdv cc A outer s H E) body body t ∧ t { nx := fun _ H' => Q .non H', rt := Q } (L2.start N vs) H) :
    FnOk P w K mg base CX (k + 1) f (PySem.W.ksFn name qual params body scope dV kV doc pm an cdv ct cc) ps sp := by
  refine ⟨len, fun A outer s H args us vs Q E hr e0 hb r hsp => ?_⟩
  have hl := len _ _ _ _ hsp
  have hlu : us.length = ps.length := by rw [← hl]; exact r.length.symm
  have KX : K.In s.heap := e0.mod.kin.keeps fun b o e => (e0.bs b o e).1
  have lim : s.heap.NoLimit := e0.mod.nolimit.keeps fun b o e => (e0.bs b o e).1
  have hloc : ∀ y ∈ ps.zip us, scope.names.lookup y.1 = some .local := fun ⟨n, v⟩ hy => S.par n (List.of_mem_zip hy).1
  have ndP : ps.Nodup := by rw [← S.pre]; exact S.nd.sublist (List.take_sublist _ _)
  have hpl : ps.length ≤ N.length := by have := congrArg List.length S.pre; rw [List.length_take] at this; omega
  refine PySem.ks_codeAny_call_defAt (fd := PySem.W.ksFn name qual params body scope dV kV doc pm an cdv ct cc) (body := body) (binds := ps.zip us) hr.depth (KX _ _ lk) rfl lim (PySem.W.codeRec_of KX hcd) rfl hb S.nocell hloc (fun h₀ hns hk => ?_) S.co S.gen S.kind
  obtain ⟨t, ht, hq⟩ := hbody A outer s H vs Q E (hr.deeper _) hsp
  have noA : ∀ b : Addr, b ∉ (cxC CX P w K mg base N qual scope f cdv cc A outer s H E).ex := fun b z => absurd (show b ∈ ([] : List Addr) from z) (by simp)
  have hcells : ∀ (x : Str) (c : Addr), (cxC CX P w K mg base N qual scope f cdv cc A outer s H E).env.cells.lookup x = some c → x = "__class__" ∧ c = cc := fun x c h => by
    have h : List.lookup x [(("__class__" : Str), cc)] = some c := h
    simp only [List.lookup] at h
    split at h
    · rename_i e
      exact ⟨by simpa using e, (Option.some.inj h).symm⟩
    · cases h
  have hcc : base.get? cc = some ⟨cl, cld, .cell (some (.ref D)), csl⟩ := e0.mod.kin _ _ lc
  have I : Inv (cxC CX P w K mg base N qual scope f cdv cc A outer s H E) [] (start N vs) H { s with heap := h₀, toks := s.toks + (ps.zip us).length } := by
    refine ⟨⟨e0.mod, S.kind, rfl, rfl, Nat.le_refl _, fun y z c h1 h2 => ?_, fun y hy => ?_, fun y c hf _ => absurd hf (by show ¬ false = true; decide), fun _ => hr.hd, Around.frames_deeper e0.frames, .inr ⟨rfl, rfl⟩, fun b z => absurd z (noA b), e0.bs, e0.bsz, fun b _ _ => noA b, fun b z => absurd z (noA b), e0.funs, e0.frf⟩,
      rfl, e0.bare, Un.kept hk, ⟨_, hns, fun i y v h1 h2 h3 => ?_⟩, fun y c h => ?_, e0.hok.fresh (Nat.le_refl _), fun y c h => ?_, fun p hp => absurd (show p ∈ ([] : List (Addr × Obj)) from hp) (by simp), e0.hok.kept hk, ?_⟩
    · rw [(hcells _ _ h1).1, (hcells _ _ h2).1]
    · have hy : scope.names.lookup y = some .cell ∨ scope.names.lookup y = some .free := hy
      rcases hy with hy | hy
      · exact absurd rfl (S.nocell _ (PySem.mem_of_lookup hy))
      · have e := S.free _ (PySem.mem_of_lookup hy) rfl
        have e : y = "__class__" := e
        subst e
        exact ⟨cc, rfl⟩
    · have hi : i < vs.length := by
        unfold L2.start at h2
        by_cases hi : i < vs.length
        · exact hi
        · rw [List.getElem?_append_right (by simpa using hi)] at h2
          rw [List.getElem?_replicate] at h2
          split at h2 <;> cases h2
      have ha : vs[i]? = some v := by
        unfold L2.start at h2
        rw [List.getElem?_append_left (by simpa using hi), List.getElem?_map] at h2
        cases e : vs[i]? with
        | none => rw [e] at h2; cases h2
        | some a => rw [e] at h2; cases h2; rfl
      obtain ⟨u, hu, rv⟩ := r.get ha
      have hp : ps[i]? = some y := by
        rw [← S.pre, List.getElem?_take_of_lt (by omega)]; exact h1
      exact ⟨u, rv, .inl ⟨S.par y (List.mem_of_getElem? hp), zip_lk ndP hlu hp hu⟩⟩
    · rw [(hcells _ _ h).2]
      exact ⟨_, _, hk _ _ (KX _ _ lc), rfl⟩
    · rw [(hcells _ _ h).2]
      exact (e0.bs _ _ hcc).2
    · unfold L2.start
      show _ = N.length
      rw [List.length_append, List.length_map, List.length_replicate]
      omega
  refine PySem.ks_wpAt_mono (ht.run [] _ (start N vs) H _ I hq) (fun fl s' hs => ?_) fun e s' hs => hs
  have fin : ∀ {σ' : L2.St} {H' : Hp} {v : V} {u : Value}, Inv (cxC CX P w K mg base N qual scope f cdv cc A outer s H E) [] σ' H' s' → RelV v u → Q v H' → CE outer P w H s Q u s' :=
    fun {σ' H' v u} J rv q => ⟨v, H', J.os, J.bare, J.base, J.hok, rv, q⟩
  cases fl with
  | ret u =>
    obtain ⟨v, σ', H', J, rv, q⟩ := hs
    exact fin J rv q
  | next =>
    obtain ⟨σ', H', J, q⟩ := hs
    exact fin (v := V.non) (u := Value.none) J rfl q
  | brk =>
    obtain ⟨_, _, _, q⟩ := hs
    exact False.elim q
  | cont =>
    obtain ⟨_, _, _, q⟩ := hs
    exact False.elim q
end
end LR

set_option Elab.async false
set_option maxRecDepth 100000
set_option linter.all false
set_option maxHeartbeats 4000000
namespace LR
open PySem PySem.Spec PyProof.Rows L2
/-- what the written part says of a def with super(), standing at f, of the class at D -/
structure SupIn (prog : Program) (K : PySem.W.Frag) (mg : Str → Option Value) (f cc cda D : Addr) (fd : FuncData) (me : Str) : Prop where
  fn : ∃ oc od osl, K.lookup f = some ⟨oc, od, .func fd, osl⟩
  head : ∃ ar : Arg, (fd.params.posonlyargs ++ fd.params.args).head? = some ar ∧ ar.arg = me
  code : ∃ (ccl : Value) (cdd : Option Addr) (vs : Array Value) (ccs : Array (Option Value)) (file : Str) (tf : Tok), K.lookup cda = some ⟨ccl, cdd, .fields vs, ccs⟩ ∧ vs[2]? = some (.str file tf) ∧ ((prog.main.file : Str) == file) = true
  cell : ∃ cl cld csl, K.lookup cc = some ⟨cl, cld, .cell (some (.ref D)), csl⟩
  cls : ∃ cd, PySem.W.clsIn K D = some cd
  sup : mg "super" = none
  top : (prog.main.scope.names.lookup ("super" : Str)).isSome = false
  any : PySem.W.nsIn K cStatics "thirdparty.any" = some none
theorem b_super : bootBuiltins "super" = some (.type "super") := by first | decide +kernel | rfl | kernel_rfl
theorem pin_newA {X : Cx} {pins : List (Addr × Obj)} {σ : L2.St} {H : Hp} {s : Shared} {o : Obj} {h' : Heap} {a : Addr} {t' : Nat} (I : Inv X pins σ H s) (k : ∀ b u, s.heap.get? b = some u → h'.get? b = some u) (ha : s.heap.objs.size ≤ a) (ho : h'.get? a = some o) (hc : ∀ v, o.data ≠ .cell v) :
    Inv X ((a, o) :: pins) σ H { s with heap := h', toks := t' } := ClX.pin_new I k ha ho hc
section
variable {X : Cx} {pins : List (Addr × Obj)} {σ : L2.St} {H : Hp} {s : Shared} {body : List Stmt} {f cc cda D C x : Addr} {fd : FuncData} {self attr : Str} {p0 p1 : Pos} {whole : Sem Value} {Q : Value → Shared → Prop} {i : Nat}
theorem super_base (S : SupIn X.prog X.K X.mg f cc cda D fd self) (I : Inv X pins σ H s) {ox : Obj} (hx : s.heap.get? x = some ox) (hxc : ox.cls = .ref C) (hnc : ∀ c, ox.data ≠ .cls c) (hsub : PySem.W.mroIn X.K C (.ref D) = some true)
    (hi : X.N[i]? = some self) (hσ : σ[i]? = some (some (.ref x))) (hka : X.env.kindOf self = some .local)
    (hks : X.env.kindOf "super" = some .globalImplicit) (hkc : X.env.kindOf "__class__" = some .free) (hfu : X.env.func = some f) (hco : X.env.code = .ref cda) (hcl : X.env.cells.lookup ("__class__" : Str) = some cc)
    (hat : (attr == ("__class__" : Str)) = false)
    (h : ∀ (so : Addr) (h' : Heap), h'.get? so = some (PySem.W.ks_superObj D x C) → Inv X ((so, PySem.W.ks_superObj D x C) :: pins) σ H { s with heap := h' } → (∀ b u, s.heap.get? b = some u → h'.get? b = some u) → Q (.ref so) { s with heap := h' }) {E : Value → Shared → Prop} :
    PySem.wpAt (model X.prog X.w) X.A (.func body X.env) (attributeBase (.Call (.Name "super" p0) [] [] p1) attr X.env whole) Q E s := by
  obtain ⟨oc, od, osl, hf⟩ := S.fn
  obtain ⟨ar, hp, har⟩ := S.head
  obtain ⟨ccl, cdd, vs, ccs, file, tf, hcode, hvs, hfile⟩ := S.code
  obtain ⟨cl, cld, csl, hcell⟩ := S.cell
  obtain ⟨cdD, hD⟩ := S.cls
  have KX := I.kIn
  obtain ⟨oD, hD1, hD2⟩ : ∃ oD, s.heap.get? D = some oD ∧ oD.data = .cls cdD := by
    unfold PySem.W.clsIn at hD
    split at hD
    · rename_i c d cd' sl ho
      cases hD
      exact ⟨_, KX _ _ ho, rfl⟩
    · cases hD
  subst har
  have kind := I.ok.kind
  obtain ⟨mb, hb1, hb2⟩ := I.mod.blt
  refine PySem.ks_wpAt_super_base (env := X.env) hks hkc hat hfu (KX _ _ hf) rfl hp hco (KX _ _ hcode) rfl hvs hfile S.top ?_
  refine PySem.W.ks_loadName_global kind hks (Calls.loadGlobal_builtin (by rw [I.ok.glob]; exact I.mod.glob.keeps I.bk) S.sup (by rw [I.ok.blt]; exact hb1.keeps I.bk) ((hb2 _ (by decide)).trans b_super) ⟨rfl, ?_⟩)
  refine wpAny_loadName_free kind hkc hcl ⟨_, KX _ _ hcell, rfl⟩ ?_
  obtain ⟨m, hns, hloc⟩ := id I.loc
  obtain ⟨u, ru, hlook⟩ := hloc i _ _ hi hσ (.inl hka)
  obtain rfl : u = Value.ref x := ru
  rcases hlook with ⟨_, hm⟩ | ⟨hk, _⟩
  · refine wpAny_loadName_local kind hka hns hm ?_
    obtain ⟨hh, g, d, t, os⟩ := s
    refine PySem.ks_wpAny_isType_cls hD1 hD2 ⟨rfl, ?_⟩
    refine PySem.ks_wpAny_call_super hD1 hD2 hx hxc hnc (PySem.W.looks_mroIn KX hsub) (fun h' e k => ?_)
    exact h _ h' e (pin_newA (t' := t) I k (Nat.le_refl _) e (fun v z => by cases z)) k
  · rw [hka] at hk
    rcases hk with hk | hk <;> cases hk
end
/-! ### super().__init__(..) where the built-in's __init__ is meant -/
section
open PySem.W
variable {prog : Program} {w : World} {A : Around} {E : Value → Shared → Prop} {h : Heap} {g : Array GenState} {d : Drawn} {t : Nat} {os : OsState}
variable {nm q : Str} {C N : Addr} {bs bm : List Value} {hdct : Bool} {sn : List Str} {sub : List Value} {ab : Bool} {col : Option Bool} {dd : Option Addr} {k0 k1 k2 k3 k5 : Option Value}
theorem call_mwVE {u e t0 : Addr} {rest : List Value} {Q : Value → Shared → Prop}
    (hC : h.get? C = some (excClassObj nm q C N bs bm hdct sn sub ab col dd k0 k1 k2 k3 k5 "ValueError.__new__")) (he : h.get? e = some (HandSPX.excO C t0)) (hu : h.get? u = some (kxs_mw "ValueError.__init__" e)) (hrest : rest.length ≤ sizeLine)
    (hq : ∀ h' t1, (∀ b o, b ≠ e → h.get? b = some o → h'.get? b = some o) → h'.get? e = some (HandSPX.excO C t1) → Q .none ⟨h', g, d, t, os⟩) :
    wpAny (model prog w) A (call (.ref u) rest) Q E ⟨h, g, d, t, os⟩ := by
  refine wpAny_call (codeAny_of_tree ?_)
  show wpAny _ A.in1 (callAny (.ref u) ⟨rest, []⟩) _ _ _
  simp only [callAny]
  refine wpAny_bind (wpAny_load hu ?_)
  simp only [kxs_mw, show (Value.type "method-wrapper" == Value.type "method" || Value.type "method-wrapper" == Value.type "builtin_function_or_method" || Value.type "method-wrapper" == Value.type "method-wrapper") = true by decide, if_true]
  refine KFB.if_so (by decide) ?_
  refine wpAny_bind (ESX.check_bound F.excBase_ValueError hC he rfl ?_)
  refine wpAny_bind (wpAny_pure (wpAny_pure ?_))
  refine ⟨Code.quiet_builtin _ (by decide +kernel), codeAny_builtin F.excBase_ValueError.initEntry ?_⟩
  rw [Around.under_plainId F.excBase_ValueError.init.plain _]
  wp_walk
  refine hq _ h.objs.size (fun b o hb ho => ?_) ?_
  · rw [Heap.get?_update_other _ _ (Ne.symm hb)]
    exact Heap.get?_push_of_some _ ho
  · rw [Heap.get?_update_self _ (Heap.get?_push_of_some _ he) rfl]
    rfl
end
section
variable {X : Cx} {body : List Stmt} {f cc cda D C : Addr} {fd : FuncData} {me m : Str} {p0 p1 pos apos : Pos} {i : Nat} {e : Expr} {es : List Expr} {ta : TA} {pl : Sem Bool}
/-- super().__init__(e, ..) in an exception's own __init__: nothing of it is told -/
def tSupV (C : Addr) (i : Nat) (ta : TA) : TE := fun σ H Q => ∃ x : Addr, σ[i]? = some (some (.ref x)) ∧ H x = some (exo x C none) ∧ ta σ H fun vs H1 => vs.length ≤ 1000 ∧ H1 x = some (exo x C none) ∧ Q .non H1
theorem ne_supV (S : SupIn X.prog X.K X.mg f cc cda C fd me) (T : OexC X.K C) (hm : PySem.W.ks_superIn X.K C C "__init__" = some (some (.builtin "ValueError.__init__"))) (hsub : PySem.W.mroIn X.K C (.ref C) = some true) (hB : PySem.W.subIn X.K (.ref C) (.type "ValueError") = some true)
    (ha : PA X (e :: es) ta)
    (hi : X.N[i]? = some me := by rfl) (hka : X.env.kindOf me = some .local := by rfl)
    (hks : X.env.kindOf "super" = some .globalImplicit := by rfl) (hkc : X.env.kindOf "__class__" = some .free := by rfl) (hfu : X.env.func = some f := by rfl) (hco : X.env.code = .ref cda := by rfl) (hcl : X.env.cells.lookup ("__class__" : Str) = some cc := by rfl)
    (hst : starEach (e :: es) X.env = (false, eval e X.env) :: starEach es X.env := by rfl) (hpl : (backTo pos (starEach es X.env)).any (·.1) = false := by rfl)
    (ht : eval (.Call (.Attribute (.Call (.Name "super" p0) [] [] p1) "__init__" apos) (e :: es) [] pos) X.env = (do
      let ov ← attributeBase (.Call (.Name "super" p0) [] [] p1) "__init__" X.env (eval (.Call (.Name "super" p0) [] [] p1) X.env)
      standAt apos.atName
      let (f, first) ← holding [ov] (getMethod ov "__init__" pl)
      callWith pos f first (backTo pos (starEach (e :: es) X.env)) []) := by rfl) :
    NE X body (.Call (.Attribute (.Call (.Name "super" p0) [] [] p1) "__init__" apos) (e :: es) [] pos) (tSupV C i ta) := by
  refine ⟨fun pins s σ H Q I h => ?_⟩
  obtain ⟨x, hσ, hx, q⟩ := h
  obtain ⟨t1, hox⟩ := exo_at I.hok hx
  refine PySem.ks_wpAt_MethodCall (pl := pl) (super_base S I hox rfl (fun c z => by cases z) hsub hi hσ hka hks hkc hfu hco hcl (by decide) (fun so h' hso J k => ?_)) ht
  have KX := J.kIn
  have hox' := k _ _ hox
  have IA : PySem.W.InstAt h' x { cls := .ref C, dict := none, data := .fields #[.ref t1, .none, .none, .none, .bool false, .none] } C none := ⟨hox', rfl, rfl, trivial⟩
  cases hc : PySem.W.clsIn X.K C with
  | none => unfold PySem.W.ks_superIn at hm; rw [hc] at hm; cases hm
  | some cd =>
    unfold PySem.W.ks_superIn at hm
    rw [hc] at hm
    obtain ⟨hh, g, d, t, os⟩ := s
    refine PySem.W.kxs_getMethod PySem.W.kxs_ValueError hso (PySem.W.looks_opaque KX S.any) (l₀ := cd.mro) (fun A Q E s k q => wpAny_bind ((PySem.W.looks_clsIn KX hc) A _ E s k (wpAny_pure q))) rfl KX hm (IA.type.andThen (PySem.W.looks_subIn KX hB)) (PySem.W.ks_ne KX IA hc) (by decide) ?_
    have J2 := pin_newA (t' := t + 1) J (fun b u z => Heap.get?_push_of_some (PySem.W.kxs_mw "ValueError.__init__" x) z) (Nat.le_refl _) (Heap.get?_push_at rfl rfl) (fun v z => by cases z)
    rw [hst]
    refine PySem.W.kxs_callWith (i := "ValueError.__init__") (x := x) (by show (false || (backTo pos (starEach es X.env)).any (·.1)) = false; rw [hpl]; rfl) ?_
    have ha' := fun pins s H Q I q => ha.run pos pins s σ H Q I q
    rw [hst] at ha'
    refine PySem.Calls.evalArgs_plain (thn (ha' _ _ H _ J2 q) fun us s3 ⟨vs, H1, I3, rv, hl, hx1, q1⟩ => ⟨ClX.pin_at I3, ?_⟩)
    have I4 := ClX.unpin (ClX.unpin I3)
    obtain ⟨t2, hox2⟩ := exo_at I4.hok hx1
    obtain ⟨nm, qn, N, bs, bm, sn, sub, ab, col, dd, k0, k1, k2, k3, k5, hC, hbm⟩ := T.cls
    have hmw := ClX.pin_at I3
    obtain ⟨hp, g3, d3, t3, os3⟩ := s3
    refine call_mwVE (I4.kIn _ _ hC) hox2 hmw ?_ (fun h5 t5 k5 hx5 => ?_)
    · have := rv.length
      show us.length ≤ sizeLine
      rw [← this, sizeLine_eq]; omega
    · have J5 := I4.write (t' := t3) (x := x) (e := x) (o := exo x C none) (by rw [hx1]; exact True.intro) (.inl rfl) k5 ⟨_, hx5⟩ (exo_ok hx5)
      have eu : upd H1 x (exo x C none) = H1 := by
        funext b
        by_cases hb : b = x
        · rw [hb, upd_same, hx1]
        · rw [upd_ne hb]
      rw [eu] at J5
      exact ⟨.non, H1, J5, rfl, q1⟩
end
end LR

set_option Elab.async false
set_option maxRecDepth 100000
set_option linter.all false
set_option maxHeartbeats 4000000
namespace LR
open PySem PySem.Spec PyProof.Rows L2
/-! ## isinstance of an error that a suite holds -/
/-- the error's own dict (if it has one) is known -/
def DictKnown (H : Hp) : Option Addr → Prop
  | none => True
  | some dd => ∃ fs, H dd = some (.xd fs)
structure ErrC (K : PySem.W.Frag) (C : Addr) : Prop where
  cl : (PySem.W.clsIn K C).isSome = true
  ga : PySem.W.findIn K (.ref C) "__getattribute__" = some (some (.builtin "BaseException.__getattribute__"))
  gg : PySem.W.findIn K (.ref C) "__getattr__" = some none
  sb : PySem.W.subIn K (.ref C) (.type "BaseException") = some true
  ac : PySem.W.findIn K (.ref C) "__class__" = some (some (.builtin "object.__class__"))
  mo : PySem.W.mroIn K C (.type "object") = some true
  hd : PySem.W.hasDictIn K C = true
/-- .. and of the built-in object -/
structure ObjC (K : PySem.W.Frag) : Prop where
  gt : PySem.W.specialIn K (.builtin "object.__class__") "__get__" = some (some (.builtin "getset_descriptor.__get__"))
  tk : PySem.W.takesIn K (.builtin "object.__class__") = some true
def rIsX (K : PySem.W.Frag) (cls : Value) (a : Addr) (d : Option Addr) : List V → Hp → VK → Prop := fun xs H Q => ∃ C : Addr, cls = .ref C ∧ ErrC K C ∧ DictKnown H d ∧
  ((∃ (c : V) (cv : Value) (b : Bool), xs = [.ref a, c] ∧ ClsV c cv ∧ PySem.W.kitOne K (.ref C) cv = some b ∧ Q (.bl b) H) ∨
    ∃ (tp : Addr) (cs : List V) (us : List Value) (b : Bool), xs = [.ref a, .ref tp] ∧ H tp = some (.tup cs) ∧ Paired ClsV cs us ∧ PySem.W.kitAny K (.ref C) us = some b ∧ Q (.bl b) H)
theorem call_isX {X : Cx} {a : Addr} {cls : Value} {d : Option Addr} {oe : Obj} {pn : List (Addr × Obj)} (O : ObjC X.K) (hz : Zc cls d oe) (hf : ∃ vs, oe.data = .fields vs) :
    CallR (X.suite a ((a, oe) :: pn)) (.builtin "isinstance") (rIsX X.K cls a d) := by
  intro pins s σ H xs us Q I r h
  obtain ⟨C, rfl, E, hd, h⟩ := h
  obtain ⟨hget, _⟩ := I.pin (a, oe) (List.mem_append.mpr (.inl List.mem_cons_self))
  obtain ⟨fv, hfv⟩ := hf
  have nc : PySem.W.notCls oe = true := by unfold PySem.W.notCls; rw [hfv] <;> rfl
  have J : ∃ od, PySem.W.InstAt s.heap a oe C od := by
    cases d with
    | none => exact ⟨none, hget, hz.1, nc, by rw [hz.2]; trivial⟩
    | some dd =>
      obtain ⟨fs, hdd⟩ := hd
      obtain ⟨mA, hns, _⟩ := (show ObjOk X.prog X.w H s.heap dd (.xd fs) from I.hok dd _ hdd)
      obtain ⟨od, ho, _⟩ := lookIn_ns hns
      exact ⟨some od, hget, hz.1, nc, by rw [hz.2]; exact ho⟩
  obtain ⟨od, J⟩ := J
  have Z := PySem.W.kitx_exc (x := a) (ox := oe) (od := od) E.cl E.ga E.gg E.sb E.ac O.gt O.tk E.mo
  rcases h with ⟨c, cv, b, rfl, kc, e, q⟩ | ⟨tp, cs, ws, b, rfl, hT, kc, e, q⟩
  · cases r with
    | cons rx rr =>
      cases rr with
      | cons rt rn =>
        cases rn
        cases rx
        have ec := kc.eq rt
        subst ec
        exact PySem.W.kia_one Z I.kIn J e (fun z => nomatch z) fun tk => ⟨.bl b, H, I.tok tk, rfl, q⟩
  · cases r with
    | cons rx rr =>
      cases rr with
      | cons rt rn =>
        cases rn
        cases rx
        cases rt
        obtain ⟨_, its, rv, o, h1, h2, n, h3⟩ := (show ObjOk X.prog X.w H s.heap tp (.tup cs) from I.hok tp _ hT)
        have e3 := ClsV.all kc rv
        subst e3
        obtain ⟨oc, od', dt, sl⟩ := o
        simp only at h2 h3
        subst h2 h3
        exact PySem.W.kia_tup Z I.kIn J h1 e (fun z => nomatch z) fun tk => ⟨.bl b, H, I.tok tk, rfl, q⟩
theorem b_ValueError : bootBuiltins "ValueError" = some (.type "ValueError") := by decide +kernel
/-! ## try with several clauses, each with a name or without -/
abbrev Clause := Value × Option Nat × (Addr → Value → Option Addr → TS)
/-- a suite that holds the error in slot i leaves the slot empty -/
def emptied (i : Nat) (D : Ends) : Ends := { nx := fun σ H => D.nx (σ.set i none) H, rt := D.rt, bk := fun σ H => D.bk (σ.set i none) H, ct := fun σ H => D.ct (σ.set i none) H }
def wCl (K : PySem.W.Frag) (Wout : WX) (D : Ends) : List Clause → WX
  | [] => Wout
  | (c, none, ts) :: r => fun cls d σ H => ∃ b, PySem.W.exmOne K cls c = some b ∧ (b = true → ∀ a, H a = none → ts a cls d D σ H) ∧ (b = false → wCl K Wout D r cls d σ H)
  | (c, some i, ts) :: r => fun cls d σ H => ∃ b, PySem.W.exmOne K cls c = some b ∧ (b = true → ∀ a, H a = none → ts a cls d (emptied i D) (σ.set i (some (.ref a))) H) ∧ (b = false → wCl K Wout D r cls d σ H)
def SuiteOk (X : Cx) (body : List Stmt) (ts : Addr → Value → Option Addr → TS) : Prop :=
  ∀ (a : Addr) (oe : Obj) (cls : Value) (d : Option Addr) (pn : List (Addr × Obj)), Zc cls d oe → (∃ vs, oe.data = .fields vs) → PSs (X.suite a ((a, oe) :: pn)) body (ts a cls d)
inductive ClOk (X : Cx) : List ExceptHandler → List Clause → Prop
  | nil : ClOk X [] []
  | bare {x : Str} {c : Value} {ts} {b₀ : Stmt} {suite : List Stmt} {np pos' : Pos} {hds l} (hc : Names X x c) (hsu : SuiteOk X (b₀ :: suite) ts) (r : ClOk X hds l) :
      ClOk X (.ExceptHandler (some (.Name x np)) none (b₀ :: suite) pos' :: hds) ((c, none, ts) :: l)
  | held {x n : Str} {i : Nat} {c : Value} {ts} {b₀ : Stmt} {suite : List Stmt} {np pos' : Pos} {hds l} (hi : X.N[i]? = some n) (hln : X.env.kindOf n = some .local) (hc : Names X x c) (hsu : SuiteOk X (b₀ :: suite) ts) (r : ClOk X hds l) :
      ClOk X (.ExceptHandler (some (.Name x np)) (some n) (b₀ :: suite) pos' :: hds) ((c, some i, ts) :: l)
section
variable {X : Cx} {body : List Stmt} {h₀ : ExceptHandler} {hds : List ExceptHandler} {l : List Clause} {pos : Pos} {tb : WX → TS} {Wout : WX}
theorem ps_try_any (hs : X.stack = X.env :: X.outer) (hf : X.env.frame = some X.env.locals) (hN : X.N.Nodup) (tk : Takes X Wout)
    (hb : ∀ (W : WX) (pn : List (Addr × Obj)) (xe : Value → Shared → Prop), Takes (X.tr pn xe) W → PassesOwn (model X.prog X.w) X.A X.env xe → PSs (X.tr pn xe) body (tb W))
    (hh : ClOk X (h₀ :: hds) l) : PS X (.Try body (h₀ :: hds) [] [] pos) (fun D σ H => tb (wCl X.K Wout D l) D σ H) := by
  refine ⟨fun pins s σ H D I h => ?_⟩
  have ok := I.ok
  have fr1 : X.A.frames = some (X.env :: X.outer) := ok.frames.trans (congrArg some hs)
  refine wpAny_Try_except ?_
  -- what the body's error meets: the frame's note, then the clauses
  let meets : Value → Shared → Prop := fun e s₁ => wpAny (model X.prog X.w) X.A (noteFrame e X.env) (fun _ s₂ => wpAny (model X.prog X.w) X.A (setFlight e none) (fun _ s₃ => wpAny (model X.prog X.w) X.A (handleBy e X.env (h₀ :: hds)) (SP X pins D) X.xe s₃) X.xe s₂) X.xe s₁
  have caught : ∀ u s', XE (X.tr (X.pn ++ pins) meets) (wCl X.K Wout D l) u s' → meets u s' := by
    intro u s' xx
    obtain ⟨a, B, sI, pins', σ', H', cls, d, rfl, J', nb, up, sky, na, os, ag, w⟩ := xx
    have J : Inv X pins σ' H' sI := J'.ofTry ok
    refine Sky.land Zc.steady fr1 hf (L := X.env.locals) (by rw [← hs]; exact sky) fun h3 fl3 up3 => ?_
    have J3 : Inv X pins σ' H' { s' with heap := h3 } := J.landed nb fl3.1 (up.trans up3) os ag
    obtain ⟨oe3, vs3, he3, hz3, hd3⟩ := fl3.there
    have out : a ∉ frs (X.env :: X.outer) := fun hm => by
      obtain ⟨_, o', e', hnf⟩ := fl3.2.2.1.mem hm
      rw [he3] at e'; cases e'
      exact hnf _ hd3
    have nL : a ≠ X.env.locals := fun z => out (List.mem_filterMap.mpr ⟨X.env, .head _, by rw [hf, z]⟩)
    have nF : a ∉ X.fs := fun hm => by
      obtain ⟨e, he, q⟩ := List.mem_filterMap.mp hm
      exact out (List.mem_filterMap.mpr ⟨e, .tail _ he, q⟩)
    have S3 := J3.suite he3 hd3 na nL nF
    have LT : PySem.W.Looks (model X.prog X.w) h3 (typeOf (.ref a)) cls := fun A Q E s k q => wpAny_typeOf_ref (k _ _ he3) (by rw [hz3.1]; exact q)
    have test : ∀ {x : Str} {np : Pos} {c : Value} {Q : Value → Shared → Prop} {E : Value → Shared → Prop}, Names X x c → Q c { s' with heap := h3 } → wpAny (model X.prog X.w) (X.A.mark (some (.ref a))) (eval (.Name x np) X.env) Q E { s' with heap := h3 } := by
      intro x np c Q E hc q
      obtain ⟨hg, hdbg, hm | ⟨hm, hv, hnn⟩⟩ := hc
      · exact ld_glob (X := X.suite a ((a, oe3) :: (X.pn ++ pins))) S3 hg hm q hdbg
      · exact ld_blt (X := X.suite a ((a, oe3) :: (X.pn ++ pins))) S3 hg hm hv q hnn hdbg
    -- the clauses one after the other
    have go : ∀ (hs1 : List ExceptHandler) (l1 : List Clause), ClOk X hs1 l1 → wCl X.K Wout D l1 cls d σ' H' → wpAny (model X.prog X.w) X.A (handleBy (.ref a) X.env hs1) (SP X pins D) X.xe { s' with heap := h3 } := by
      intro hs1 l1 hk
      induction hk with
      | nil =>
        intro w
        refine wpAny_handleBy_nil ?_
        have again := fl3
        obtain ⟨_, _, _, oe, fvs, T, oT, ts', he, hz, hd, h1, hr⟩ := again
        unfold PySem.passOn
        refine wpAny_bind (wpAny_field he hd h1 ?_)
        rw [if_neg (show ¬ ((Value.ref T == Value.none) = true) from by simp)]
        have onward : wpAny (model X.prog X.w) X.A (setFlight (.ref a) X.env.frame) (fun _ s4 => wpAny (model X.prog X.w) X.A (throw (.ref a) : Sem Flow) (SP X pins D) X.xe s4) X.xe { s' with heap := h3 } := by
          rw [hf]
          exact HandSPX.setFlight_upZ fl3 fun h4 hh4 up4 => wpAny_throw (tk _ _ ⟨a, B, sI, pins, σ', H', cls, d, rfl, J, nb, (up.trans up3).trans up4, .inr (.inr (by rw [hs]; exact hh4)), na, os, ag, w⟩)
        first
          | exact wpAny_bind (wpAny_pure (wpAny_bind onward))
          | exact wpAny_bind onward
      | bare hc hsu r ih =>
        rintro ⟨b, hb1, yes, no⟩
        refine wpAny_handleBy_cons (codeAny_handlers_test ?_) (by intro q; cases q)
        refine test hc ((PySem.W.exm_one (M := model X.prog X.w) J3.kIn LT hb1).here ?_)
        cases b with
        | false => exact ih (no rfl)
        | true =>
          refine codeAny_handlers_suite (HandSPX.lands_againZ fl3 fun h4 fl4 up4 => ?_)
          obtain ⟨oe4, vs4, he4, hz4, hd4⟩ := fl4.there
          have S4 := (show Inv X pins σ' H' { s' with heap := h4 } from J.landed nb fl4.1 ((up.trans up3).trans up4) os ag).suite he4 hd4 na nL nF
          refine wpAny_mono ((hsu a oe4 cls d (X.pn ++ pins) hz4 ⟨_, hd4⟩).run [] _ _ H' _ S4 (yes rfl a na)) (fun f s6 hsp => ?_) (fun _ _ z => False.elim z)
          cases f with
          | ret u => obtain ⟨v6, σ6, H6, S6, r6, q6⟩ := hsp; exact ⟨_, _, _, S6.unsuite ok, r6, q6⟩
          | next => obtain ⟨σ6, H6, S6, q6⟩ := hsp; exact ⟨_, _, S6.unsuite ok, q6⟩
          | brk => obtain ⟨σ6, H6, S6, q6⟩ := hsp; exact ⟨_, _, S6.unsuite ok, q6⟩
          | cont => obtain ⟨σ6, H6, S6, q6⟩ := hsp; exact ⟨_, _, S6.unsuite ok, q6⟩
      | @held _ n i _ _ _ _ _ _ _ _ hi hln hc hsu r ih =>
        rintro ⟨b, hb1, yes, no⟩
        refine wpAny_handleBy_cons (codeAny_handlers_test ?_) (by intro q; cases q)
        refine test hc ((PySem.W.exm_one (M := model X.prog X.w) J3.kIn LT hb1).here ?_)
        cases b with
        | false => exact ih (no rfl)
        | true =>
          refine codeAny_handlers_suite_as (HandSPX.lands_againZ fl3 fun h4 fl4 up4 => ?_)
          obtain ⟨oe4, vs4, he4, hz4, hd4⟩ := fl4.there
          have S4 := (show Inv X pins σ' H' { s' with heap := h4 } from J.landed nb fl4.1 ((up.trans up3).trans up4) os ag).suite he4 hd4 na nL nF
          refine store_ok (X := X.suite a ((a, oe4) :: (X.pn ++ pins))) (v := .ref a) S4 hN hi (.inl hln) rfl (fun s5 S5 => ?_) (.inr hln)
          refine wpAny_mono ((hsu a oe4 cls d (X.pn ++ pins) hz4 ⟨_, hd4⟩).run [] s5 _ H' _ S5 (yes rfl a na)) (fun f s6 hsp => ?_) (fun _ _ z => False.elim z)
          have leave : ∀ {σ6 : L2.St} {H6 : Hp} {Q : Shared → Prop} {p : Pos}, Inv (X.suite a ((a, oe4) :: (X.pn ++ pins))) [] σ6 H6 s6 → (∀ s7, Inv X pins (σ6.set i none) H6 s7 → Q s7) →
              wpAny (model X.prog X.w) X.A (do bindName X.env n .none; unbindBehindTheSuite X.env n p) (fun _ s7 => Q s7) X.xe s6 := fun S6 hq => gone_ok (S6.unsuite ok) hN hi hln hq
          cases f with
          | ret u => obtain ⟨v6, σ6, H6, S6, r6, q6⟩ := hsp; exact leave S6 fun s7 J7 => ⟨_, _, _, J7, r6, q6⟩
          | next => obtain ⟨σ6, H6, S6, q6⟩ := hsp; exact leave S6 fun s7 J7 => ⟨_, _, J7, q6⟩
          | brk => obtain ⟨σ6, H6, S6, q6⟩ := hsp; exact leave S6 fun s7 J7 => ⟨_, _, J7, q6⟩
          | cont => obtain ⟨σ6, H6, S6, q6⟩ := hsp; exact leave S6 fun s7 J7 => ⟨_, _, J7, q6⟩
    exact go _ _ hh w
  refine wpAny_mono ((hb (wCl X.K Wout D l) (X.pn ++ pins) meets caught PassesOwn.looking).run [] s σ H D (I.toTry _) h) (fun f s1 hsp => ?_) (fun e s1 he => he)
  cases f with
  | next => obtain ⟨σ', H', J', q⟩ := hsp; exact wpAny_execs_nil ⟨σ', H', J'.ofTry ok, q⟩
  | brk => obtain ⟨σ', H', J', q⟩ := hsp; exact ⟨σ', H', J'.ofTry ok, q⟩
  | cont => obtain ⟨σ', H', J', q⟩ := hsp; exact ⟨σ', H', J'.ofTry ok, q⟩
  | ret u => obtain ⟨v, σ', H', J', r, q⟩ := hsp; exact ⟨v, σ', H', J'.ofTry ok, r, q⟩
end
end LR

set_option Elab.async false
set_option maxRecDepth 100000
set_option linter.all false
set_option maxHeartbeats 4000000
namespace LR
open PySem PySem.Spec PyProof.Rows L2
/-! ## f-strings of which nothing is told -/
section
variable {σ : L2.St} {H : Hp} {ts : List TE} {acc a : Str} {n i : Nat} {v : Int} {Q : Str → Hp → Prop}
theorem js_c (hn : n ≤ 100000) (hacc : acc.length ≤ n) (ha : a.length ≤ 1000) (k : ∀ acc' : Str, acc'.length ≤ n + 1000 → tJs ts acc' σ H Q) : tJs (tC (.str a) :: ts) acc σ H Q := by
  have hl : (acc ++ a).length ≤ n + 1000 := by rw [Str.length_append]; omega
  exact ⟨a, rfl, Nat.le_trans hl (by rw [sizeLine_eq]; omega), k _ hl⟩
theorem js_v {te : TE} (hn : n ≤ 100000) (hacc : acc.length ≤ n) (hv : v.natAbs.log2 < 1920) (he : ∀ Q : VK, Q (.int v) H → te σ H Q) (k : ∀ acc' : Str, acc'.length ≤ n + 1921 → tJs ts acc' σ H Q) : tJs (tFmt te :: ts) acc σ H Q := by
  have hy := PyProof.Rows.int_text_len_1921 hv
  have hl : (acc ++ Str.ofString (toString v)).length ≤ n + 1921 := by rw [Str.length_append]; omega
  refine he _ (.inr ⟨v, rfl, hv, Str.ofString (toString v), rfl, Nat.le_trans hl (by rw [sizeLine_eq]; omega), k _ hl⟩)
end
theorem log_small {v : Int} (h : v.natAbs < 2 ^ 1900) : v.natAbs.log2 < 1920 := by
  by_cases c : v.natAbs = 0
  · rw [c]; decide
  · exact Nat.lt_of_lt_of_le ((Nat.log2_lt c).mpr h) (by decide)
/-! ## an error class of the program with one field, made by its own __init__ -/
structure ErrIn (prog : Program) (K : PySem.W.Frag) (mg : Str → Option Value) (x : Str) (C : Addr) (qual : Str) (st : Stmt) (fld : Str) : Prop where
  gC : mg x = some (.ref C)
  T : OexC K C
  E : ErrC K C
  X : XfC K C
  no : PySem.W.findIn K (.ref C) fld = some none
  ini : ∃ (f cc cda : Addr) (fd : FuncData), PySem.W.findIn K (.ref C) "__init__" = some (some (.ref f)) ∧ PySem.W.typeIn K (.ref f) = some (.type "function") ∧ SupIn prog K mg f cc cda C fd "self" ∧ Binds K fd ["self", fld] [] ∧
    ∃ (oc : Value) (od an : Option Addr) (kV doc pm ct : Value) (osl : Array (Option Value)), fd = PySem.W.ksFn "__init__" qual (defArgs st) (defBody st) (defScope st) .none kV doc pm an (.ref cda) ct cc ∧ K.lookup f = some ⟨oc, od, .func fd, osl⟩ ∧ PySem.W.codeIn K (.ref cda) qual = true
  sm : PySem.W.ks_superIn K C C "__init__" = some (some (.builtin "ValueError.__init__"))
  mr : PySem.W.mroIn K C (.ref C) = some true
  sv : PySem.W.subIn K (.ref C) (.type "ValueError") = some true
/-- what its __init__ does -/
def spErr (C : Addr) (fld : Str) : Sp := fun vs H Q _ => ∃ (a : Addr) (v : Int), vs = [.ref a, .int v] ∧ H a = some (exo a C none) ∧ v.natAbs < 2 ^ 1900 ∧ ∀ dx, H dx = none → dx ≠ a → Q .non (upd (upd H dx (exd dx [(fld, .int v)])) a (exo a C (some dx)))
/-- such a class, ready to be raised -/
structure ErrOk (P : Program) (w : World) (K : PySem.W.Frag) (mg : Str → Option Value) (base : Heap) (x : Str) (C : Addr) (fld : Str) : Prop where
  gC : mg x = some (.ref C)
  T : OexC K C
  fn : ∃ (f : Addr) (fd : FuncData), PySem.W.findIn K (.ref C) "__init__" = some (some (.ref f)) ∧ PySem.W.typeIn K (.ref f) = some (.type "function") ∧ FnOk P w K mg base CX0 1 f fd ["self", fld] (spErr C fld) ∧ Binds K fd ["self", fld] []
section
variable {P : Program} {w : World} {K : PySem.W.Frag} {mg : Str → Option Value} {base : Heap}
theorem ErrIn.ok {x qual : Str} {C : Addr} {st : Stmt} {fld : Str} {N : List Str} (D : ErrIn P K mg x C qual st fld) (S : CScope N ["self", fld] (defScope st))
    (hbody : ∀ (f cc cda : Addr) (fd : FuncData) (A : Around) (outer : List Env) (s : Shared) (H : Hp) (vs : List V) (Q : VK) (E : XK), SupIn P K mg f cc cda C fd "self" → Room 0 (A.deeper (PySem.W.ksEnv qual (defScope st) s.heap.objs.size f (.ref cda) cc)) → spErr C fld vs H Q E →
      ∃ t, NSs (cxC CX0 P w K mg base N qual (defScope st) f (.ref cda) cc A outer s H E) (defBody st) (defBody st) t ∧ t { nx := fun _ H' => Q .non H', rt := Q } (L2.start N vs) H) : ErrOk P w K mg base x C fld := by
  obtain ⟨f, cc, cda, fd, i1, i2, S1, b, oc, od, an, kV, doc, pm, ct, osl, rfl, lk, hcd⟩ := D.ini
  obtain ⟨cl, cld, csl, hcell⟩ := S1.cell
  refine ⟨D.gC, D.T, f, _, i1, i2, fn_ofC lk hcell hcd S (fun vs H Q E h => ?_) (fun A outer s H vs Q E hr h => hbody f cc cda _ A outer s H vs Q E S1 hr h), b⟩
  obtain ⟨a, v, rfl, _⟩ := h; rfl
end
section
variable {X : Cx} {C : Addr} {x fld : Str} {e : Expr} {es : List Expr} {p pos pos2 : Pos} {ta : TA} {k : Nat}
/-- C(v): the error is made, its dict d holds the field -/
def tMkE (C : Addr) (fld : Str) (ta : TA) : L2.St → Hp → XK → Prop := tMkO C (spErr C fld) [] ta
theorem pmk_err (D : ErrOk X.prog X.w X.K X.mg X.base x C fld) (hr : Room k X.A) (hk : 2 ≤ k) (ha : PA X (e :: es) ta) (hg : Gl X x) (hdb : (x == ("__debug__" : Str)) = false := by decide)
    (he : starEach (e :: es) X.env = (false, eval e X.env) :: starEach es X.env := by rfl) (hpl : (backTo pos (starEach es X.env)).any (·.1) = false := by rfl) : PMk X (.Call (.Name x p) (e :: es) [] pos) (tMkE C fld ta) := by
  obtain ⟨f, fd, i1, i2, F, b⟩ := D.fn
  exact pmk_oex D.T i1 i2 F (hr.mono hk) b .nil pass0 hg D.gC ha hdb he hpl
/-- what a made error asks -/
theorem mkE {C : Addr} {fld : Str} {v : Int} {H : Hp} {Q : XK} (hv : v.natAbs < 2 ^ 1900) (h : ∀ d, H d = none → Q (.ref C) (some d) (upd H d (.xd [(fld, .int v)]))) :
    ([V.int v] : List V).length ≤ 1000 ∧ ∀ a, H a = none → spErr C fld (.ref a :: ([V.int v] ++ [])) (upd H a (exo a C none))
      (fun v' H2 => v' = .non ∧ ∃ (d : Addr) (fs : List (Str × V)), H2 a = some (exo a C (some d)) ∧ H2 d = some (exd d fs) ∧ H d = none ∧ Q (.ref C) (some d) (upd (L2.del H2 a) d (.xd fs))) (fun _ _ _ => False) := by
  refine ⟨by show 1 ≤ 1000; decide, fun a ha => ⟨a, v, rfl, upd_same, hv, fun dx h1 h2 => ⟨rfl, dx, [(fld, .int v)], upd_same, ?_, ?_, ?_⟩⟩⟩
  · rw [upd_ne h2, upd_same]
  · rw [upd_ne h2] at h1; exact h1
  · have hd : H dx = none := by rw [upd_ne h2] at h1; exact h1
    have e : upd (L2.del (upd (upd (upd H a (exo a C none)) dx (exd dx [(fld, .int v)])) a (exo a C (some dx))) a) dx (.xd [(fld, .int v)]) = upd H dx (.xd [(fld, .int v)]) := by
      funext b
      by_cases c1 : b = dx
      · rw [c1, upd_same, upd_same]
      · rw [upd_ne c1, upd_ne c1]
        by_cases c2 : b = a
        · rw [c2, del_same, ha]
        · rw [del_ne c2, upd_ne c2, upd_ne c1, upd_ne c2]
    rw [e]
    exact h dx hd
end
end LR

set_option Elab.async false
set_option maxRecDepth 100000
set_option linter.all false
set_option maxHeartbeats 4000000
namespace LR
open PySem PySem.Spec PyProof.Rows L2
/-! ## defs, methods, classes whose calls may raise -/
structure CalX (P : Program) (w : World) (K : PySem.W.Frag) (mg : Str → Option Value) (base : Heap) (k : Nat) (x : Str) (sp : Sp) : Prop where
  ex : ∃ (f : Addr) (fd : FuncData) (ps : List Str), FnOk P w K mg base (L2.CX P w) k f fd ps sp ∧ mg x = some (.ref f) ∧ PySem.W.keepIn K (.ref f) = true ∧ Binds K fd ps []
structure MetX (P : Program) (w : World) (K : PySem.W.Frag) (mg : Str → Option Value) (base : Heap) (k : Nat) (C : Addr) (m : Str) (sp : Sp) : Prop where
  ex : ∃ (f : Addr) (fd : FuncData) (ps : List Str), Cls K C ∧ Meth K C m f ∧ FnOk P w K mg base (L2.CX P w) k f fd ps sp ∧ Binds K fd ps []
structure MakX (P : Program) (w : World) (K : PySem.W.Frag) (mg : Str → Option Value) (base : Heap) (k : Nat) (x : Str) (C : Addr) (sp : Sp) : Prop where
  ex : ∃ (f : Addr) (fd : FuncData) (ps : List Str), Mk K C f ∧ FnOk P w K mg base (L2.CX P w) k f fd ps sp ∧ mg x = some (.ref C) ∧ Binds K fd ps []
def tCallT (sp : Sp) (W : WX) (t : TA) : TE := fun σ H Q => t σ H fun vs H1 => sp vs H1 Q (WE W σ)
def tMethT (C : Addr) (m : Str) (sp : Sp) (W : WX) (ta : TE) (t : TA) : TE := fun σ H Q => ta σ H fun x H1 => ∃ a dx fs, x = .ref a ∧ H1 a = some (.ins C dx fs) ∧ fs.lookup m = none ∧ t σ H1 fun vs H2 => sp (x :: vs) H2 Q (WE W σ)
def tMakeT (C : Addr) (sp : Sp) (W : WX) (t : TA) : TE := fun σ H Q => t σ H fun vs H1 => ∀ x dx, H1 x = none → H1 dx = none → dx ≠ x → sp (.ref x :: vs) (upd (upd H1 dx (.own x)) x (.ins C dx [])) (fun v H2 => v = .non ∧ Q (.ref x) H2) (WE W σ)
section
variable {X : Cx} {k j : Nat} {C : Addr} {x m : Str} {sp : Sp} {W : WX} {p pos apos : Pos} {e o : Expr} {es : List Expr} {ta : TE} {t : TA}
theorem pe_cT (c : CalX X.prog X.w X.K X.mg X.base k x sp) (hr : Room j X.A) (hk : k ≤ j) (tk : Takes X W) (hg : Gl X x) (ha : PA X (e :: es) t)
    (hdb : (x == ("__debug__" : Str)) = false := by decide) (he : starEach (e :: es) X.env = (false, eval e X.env) :: starEach es X.env := by rfl) (hpl : (backTo pos (starEach es X.env)).any (·.1) = false := by rfl) :
    PE X (.Call (.Name x p) (e :: es) [] pos) (tCallT sp W t) := by
  obtain ⟨f, fd, ps, F, hm, kp, b⟩ := c.ex
  exact pe_callS F (hr.mono hk) hg hm kp b (passAt tk) ha hdb he hpl
theorem pe_mtT {pl : Sem Bool} (c : MetX X.prog X.w X.K X.mg X.base k C m sp) (hr : Room j X.A) (hk : k ≤ j) (tk : Takes X W) (he : PE X o ta) (ha : PA X (e :: es) t)
    (hst : starEach (e :: es) X.env = (false, eval e X.env) :: starEach es X.env := by rfl) (hpl : (backTo pos (starEach es X.env)).any (·.1) = false := by rfl)
    (ht : eval (.Call (.Attribute o m apos) (e :: es) [] pos) X.env = (do
      let ov ← eval o X.env
      standAt apos.atName
      let (f, first) ← holding [ov] (getMethod ov m pl)
      callWith pos f first (backTo pos (starEach (e :: es) X.env)) (backToKw pos (keywordEach [] X.env))) := by rfl) :
    PE X (.Call (.Attribute o m apos) (e :: es) [] pos) (tMethT C m sp W ta t) := by
  obtain ⟨f, fd, ps, hc, hm, F, b⟩ := c.ex
  refine ⟨fun pins s σ H Q I h => PySem.W.methodCall_KW (pl := pl) (thn (he.run pins s σ H _ I h) fun u s1 hh => ?_) ht⟩
  obtain ⟨y, H1, I1, ry, a, dx, fs, rfl, ea, l, q⟩ := hh
  cases (show u = Value.ref a from ry)
  refine getmeth_ok I1 ea hc hm l (PySem.W.callWith_K (first := [.ref a]) (h₀ := X.base) I.ok.mod.kin hm.kp (thn (ha.run pos pins s1 σ H1 _ I1 q) fun us s2 h2 => ?_) hst hpl)
  obtain ⟨vs, H2, I2, r, q2⟩ := h2
  exact ⟨I2.kIn, run_fnS (E := WE W) F (hr.mono hk) b (passAt tk σ) I2 (.cons (show RelV (V.ref a) (.ref a) from rfl) r) q2⟩
theorem pe_mt0T {pl : Sem Bool} (c : MetX X.prog X.w X.K X.mg X.base k C m sp) (hr : Room j X.A) (hk : k ≤ j) (tk : Takes X W) (he : PE X o ta)
    (ht : eval (.Call (.Attribute o m apos) [] [] pos) X.env = (do
      let ov ← eval o X.env
      standAt apos.atName
      let (f, first) ← holding [ov] (getMethod ov m pl)
      callWith pos f first (backTo pos (starEach [] X.env)) (backToKw pos (keywordEach [] X.env))) := by rfl) :
    PE X (.Call (.Attribute o m apos) [] [] pos) (tMethT C m sp W ta tNil) := by
  obtain ⟨f, fd, ps, hc, hm, F, b⟩ := c.ex
  refine ⟨fun pins s σ H Q I h => PySem.W.methodCall_KW (pl := pl) (thn (he.run pins s σ H _ I h) fun u s1 hh => ?_) ht⟩
  obtain ⟨y, H1, I1, ry, a, dx, fs, rfl, ea, l, q⟩ := hh
  cases (show u = Value.ref a from ry)
  exact getmeth_ok I1 ea hc hm l (PySem.W.callWith_K0 (first := [.ref a]) I1.kIn hm.kp (run_fnS (E := WE W) (us := [.ref a]) F (hr.mono hk) b (passAt tk σ) I1 (.cons (show RelV (V.ref a) (.ref a) from rfl) .nil) q))
theorem run_mkT {pins : List (Addr × Obj)} {σ : L2.St} {H : Hp} {s : Shared} {Q : VK} {us : List Value} {vs : List V} {f : Addr} {fd : FuncData} {ps : List Str} (M : Mk X.K C f) (F : FnOk X.prog X.w X.K X.mg X.base (L2.CX X.prog X.w) k f fd ps sp) (hr : Room (k + 1) X.A) (b : Binds X.K fd ps []) (tk : Takes X W)
    (I : Inv X pins σ H s) (r : Vals vs us)
    (h : ∀ x dx, H x = none → H dx = none → dx ≠ x → sp (.ref x :: vs) (upd (upd H dx (.own x)) x (.ins C dx [])) (fun v H2 => v = .non ∧ Q (.ref x) H2) (WE W σ)) :
    wpAny (model X.prog X.w) X.A (call (.ref C) us) (EP X pins σ Q) X.xe s := by
  have hq := h (s.heap.objs.size + 1) s.heap.objs.size (I.hok.fresh (Nat.le_succ _)) (I.hok.fresh (Nat.le_refl _)) (Nat.ne_of_lt (Nat.lt_succ_self _))
  have J := Inv.made (C := C) I
  have r2 : Vals (V.ref (s.heap.objs.size + 1) :: vs) (Value.ref (s.heap.objs.size + 1) :: us) := .cons rfl r
  have hl := r2.length.symm.trans (F.len _ _ _ _ hq)
  have bb := b _ _ J.kIn (by rw [List.append_nil]; exact hl)
  rw [List.append_nil] at bb
  refine wpAny_call (make_map (f := f) I.kIn M.makes M.init (beq_iff_eq.mp M.fn) (codeAny_mono (F.run _ X.stack _ _ _ _ _ _ (WE W σ) (hr.make C us []) (J.env0.make C us []) bb r2 hq) fun rr s' hq' => ?_))
  cases rr with
  | error e => exact passAt tk σ pins _ _ e s' J hq'
  | ok fl =>
    cases fl with
    | ret u =>
      obtain ⟨v, H', I3, rv, ev, q3⟩ := J.after hq'
      subst ev
      exact ⟨rv, V.ref (s.heap.objs.size + 1), H', I3, rfl, q3⟩
    | next => exact hq'.elim
    | brk => exact hq'.elim
    | cont => exact hq'.elim
theorem pe_mkT (c : MakX X.prog X.w X.K X.mg X.base k x C sp) (hr : Room j X.A) (hk : k + 1 ≤ j) (tk : Takes X W) (hg : Gl X x) (ha : PA X (e :: es) t)
    (hdb : (x == ("__debug__" : Str)) = false := by decide) (he : starEach (e :: es) X.env = (false, eval e X.env) :: starEach es X.env := by rfl) (hpl : (backTo pos (starEach es X.env)).any (·.1) = false := by rfl) :
    PE X (.Call (.Name x p) (e :: es) [] pos) (tMakeT C sp W t) := by
  obtain ⟨f, fd, ps, M, F, hm, b⟩ := c.ex
  refine ⟨fun pins s σ H Q I h => wpAny_Call_Name_kw (ld_glob I hg hm ?_ hdb)⟩
  refine PySem.W.callWith_K (h₀ := X.base) I.ok.mod.kin M.kp (thn (ha.run pos pins s σ H _ I h) fun us s1 hh => ?_) he hpl
  obtain ⟨vs, H1, I1, r, q⟩ := hh
  exact ⟨I1.kIn, run_mkT M F (hr.mono hk) b tk I1 r q⟩
end
section
variable {P : Program} {w : World} {K : PySem.W.Frag} {mg : Str → Option Value} {base : Heap}
theorem DefIn.calX {x : Str} {st : Stmt} {N ps : List Str} {k : Nat} {sp : Sp} (D : DefIn K mg x st ps) (S : FnScope N ps (defScope st)) (len : ∀ vs H Q E, sp vs H Q E → vs.length = ps.length)
    (hbody : ∀ (f : Addr) (cdv : Value) (A : Around) (outer : List Env) (s : Shared) (H : Hp) (vs : List V) (Q : VK) (E : XK), Room k (A.deeper (envOfC x (defScope st) s.heap.objs.size f cdv)) → sp vs H Q E →
      ∃ t, PSs (cxOf (L2.CX P w) P w K mg base N x (defScope st) f cdv A outer s H E) (defBody st) t ∧ t { nx := fun _ H' => Q .non H', rt := Q } (L2.start N vs) H) : CalX P w K mg base (k + 1) x sp := by
  obtain ⟨f, fd, F, hm, b⟩ := D.ex
  exact ⟨f, fd, ps, F.okX S len (hbody f), hm, F.kp, b⟩
theorem MetIn.metX {C : Addr} {m qual : Str} {st : Stmt} {N ps : List Str} {k : Nat} {sp : Sp} (c : Cls K C) (D : MetIn K C m qual st ps) (S : FnScope N ps (defScope st)) (len : ∀ vs H Q E, sp vs H Q E → vs.length = ps.length)
    (hbody : ∀ (f : Addr) (cdv : Value) (A : Around) (outer : List Env) (s : Shared) (H : Hp) (vs : List V) (Q : VK) (E : XK), Room k (A.deeper (envOfC qual (defScope st) s.heap.objs.size f cdv)) → sp vs H Q E →
      ∃ t, PSs (cxOf (L2.CX P w) P w K mg base N qual (defScope st) f cdv A outer s H E) (defBody st) t ∧ t { nx := fun _ H' => Q .non H', rt := Q } (L2.start N vs) H) : MetX P w K mg base (k + 1) C m sp := by
  obtain ⟨f, fd, F, hm, b⟩ := D.ex
  exact ⟨f, fd, ps, c, hm, F.okX S len (hbody f), b⟩
theorem MakIn.makX {C : Addr} {x qual : Str} {st : Stmt} {N ps : List Str} {k : Nat} {sp : Sp} (D : MakIn K mg x C qual st ps) (S : FnScope N ps (defScope st)) (len : ∀ vs H Q E, sp vs H Q E → vs.length = ps.length)
    (hbody : ∀ (f : Addr) (cdv : Value) (A : Around) (outer : List Env) (s : Shared) (H : Hp) (vs : List V) (Q : VK) (E : XK), Room k (A.deeper (envOfC qual (defScope st) s.heap.objs.size f cdv)) → sp vs H Q E →
      ∃ t, PSs (cxOf (L2.CX P w) P w K mg base N qual (defScope st) f cdv A outer s H E) (defBody st) t ∧ t { nx := fun _ H' => Q .non H', rt := Q } (L2.start N vs) H) : MakX P w K mg base (k + 1) x C sp := by
  obtain ⟨f, fd, F, M, hm, b⟩ := D.ex
  exact ⟨f, fd, ps, M, F.okX S len (hbody f), hm, b⟩
end
end LR

set_option Elab.async false
set_option maxRecDepth 100000
set_option linter.all false
set_option maxHeartbeats 4000000
namespace LR
open PySem PySem.Spec PyProof.Rows L2
def topS (i : Nat) : Stmt := PySem.Challenge.pw_ladderreach_k18_least_and_greatest_steps.main.body.getD i (.Pass ⟨0, 0, 0, 0⟩)
abbrev s_check_height : Stmt := topS 16
abbrev N_check_height : List Str := ["height"]
theorem sc_check_height : FnScope N_check_height ["height"] (defScope s_check_height) := ⟨rfl, rfl, rfl, by decide +kernel, rfl, by decide +kernel, by decide +kernel⟩
abbrev s_check_row : Stmt := topS 20
abbrev N_check_row : List Str := ["height", "row", "most", "index", "level"]
theorem sc_check_row : FnScope N_check_row ["height", "row", "most"] (defScope s_check_row) := ⟨rfl, rfl, rfl, by decide +kernel, rfl, by decide +kernel, by decide +kernel⟩
abbrev s_check_step : Stmt := topS 18
abbrev N_check_step : List Str := ["top", "step"]
theorem sc_check_step : FnScope N_check_step ["top", "step"] (defScope s_check_step) := ⟨rfl, rfl, rfl, by decide +kernel, rfl, by decide +kernel, by decide +kernel⟩
abbrev s_check_rank : Stmt := topS 19
abbrev N_check_rank : List Str := ["height", "rank"]
theorem sc_check_rank : FnScope N_check_rank ["height", "rank"] (defScope s_check_rank) := ⟨rfl, rfl, rfl, by decide +kernel, rfl, by decide +kernel, by decide +kernel⟩
abbrev s__counts_from : Stmt := topS 27
abbrev N__counts_from : List Str := ["level", "levels", "counts", "other"]
theorem sc__counts_from : FnScope N__counts_from ["level", "levels"] (defScope s__counts_from) := ⟨rfl, rfl, rfl, by decide +kernel, rfl, by decide +kernel, by decide +kernel⟩
abbrev s_pool : Stmt := topS 29
abbrev N_pool : List Str := ["script", "k", "cell"]
theorem sc_pool : FnScope N_pool ["script", "k"] (defScope s_pool) := ⟨rfl, rfl, rfl, by decide +kernel, rfl, by decide +kernel, by decide +kernel⟩
abbrev s_draw : Stmt := topS 30
abbrev N_draw : List Str := ["pool", "many", "value", "mixed"]
theorem sc_draw : FnScope N_draw ["pool", "many"] (defScope s_draw) := ⟨rfl, rfl, rfl, by decide +kernel, rfl, by decide +kernel, by decide +kernel⟩
abbrev s_levels : Stmt := topS 31
abbrev N_levels : List Str := ["pool", "height", "limit", "size", "index"]
theorem sc_levels : FnScope N_levels ["pool", "height", "limit"] (defScope s_levels) := ⟨rfl, rfl, rfl, by decide +kernel, rfl, by decide +kernel, by decide +kernel⟩
abbrev s_number : Stmt := topS 32
abbrev N_number : List Str := ["value"]
theorem sc_number : FnScope N_number ["value"] (defScope s_number) := ⟨rfl, rfl, rfl, by decide +kernel, rfl, by decide +kernel, by decide +kernel⟩
abbrev s_same : Stmt := topS 33
abbrev N_same : List Str := ["answer", "due", "k"]
theorem sc_same : FnScope N_same ["answer", "due"] (defScope s_same) := ⟨rfl, rfl, rfl, by decide +kernel, rfl, by decide +kernel, by decide +kernel⟩
abbrev s_wild : Stmt := topS 34
abbrev N_wild : List Str := ["pool", "floor", "ceiling", "value", "far"]
theorem sc_wild : FnScope N_wild ["pool", "floor", "ceiling"] (defScope s_wild) := ⟨rfl, rfl, rfl, by decide +kernel, rfl, by decide +kernel, by decide +kernel⟩
abbrev s_lowest : Stmt := topS 35
abbrev N_lowest : List Str := ["levels", "rank", "goal", "step", "turn", "k"]
theorem sc_lowest : FnScope N_lowest ["levels", "rank", "goal"] (defScope s_lowest) := ⟨rfl, rfl, rfl, by decide +kernel, rfl, by decide +kernel, by decide +kernel⟩
abbrev s_highest : Stmt := topS 36
abbrev N_highest : List Str := ["levels", "source", "rank", "step", "k", "turn"]
theorem sc_highest : FnScope N_highest ["levels", "source", "rank"] (defScope s_highest) := ⟨rfl, rfl, rfl, by decide +kernel, rfl, by decide +kernel, by decide +kernel⟩
abbrev s_asked : Stmt := topS 37
abbrev N_asked : List Str := ["made", "way", "one", "two", "answer", "e", "above"]
theorem sc_asked : FnScope N_asked ["made", "way", "one", "two"] (defScope s_asked) := ⟨rfl, rfl, rfl, by decide +kernel, rfl, by decide +kernel, by decide +kernel⟩
abbrev s_least_due : Stmt := topS 38
abbrev N_least_due : List Str := ["levels", "height", "rank", "goal"]
theorem sc_least_due : FnScope N_least_due ["levels", "height", "rank", "goal"] (defScope s_least_due) := ⟨rfl, rfl, rfl, by decide +kernel, rfl, by decide +kernel, by decide +kernel⟩
abbrev s_greatest_due : Stmt := topS 39
abbrev N_greatest_due : List Str := ["levels", "height", "source", "rank"]
theorem sc_greatest_due : FnScope N_greatest_due ["levels", "height", "source", "rank"] (defScope s_greatest_due) := ⟨rfl, rfl, rfl, by decide +kernel, rfl, by decide +kernel, by decide +kernel⟩
abbrev s_sides : Stmt := topS 40
abbrev N_sides : List Str := ["made", "levels", "rank", "goal", "source", "under", "upper", "step", "due"]
theorem sc_sides : FnScope N_sides ["made", "levels", "rank", "goal", "source", "under", "upper"] (defScope s_sides) := ⟨rfl, rfl, rfl, by decide +kernel, rfl, by decide +kernel, by decide +kernel⟩
abbrev s_law : Stmt := topS 41
abbrev N_law : List Str := ["script", "pool", "height", "limit", "levels", "handed", "made", "turn", "rank", "goal", "source", "under", "upper"]
theorem sc_law : FnScope N_law ["script"] (defScope s_law) := ⟨rfl, rfl, rfl, by decide +kernel, rfl, by decide +kernel, by decide +kernel⟩
abbrev s_L_init : Stmt := inClass (topS 26) 1
abbrev N_L_init : List Str := ["self", "height", "levels", "level"]
theorem sc_L_init : FnScope N_L_init ["self", "height", "levels"] (defScope s_L_init) := ⟨rfl, rfl, rfl, by decide +kernel, rfl, by decide +kernel, by decide +kernel⟩
abbrev s_L_allows : Stmt := inClass (topS 26) 10
abbrev N_L_allows : List Str := ["self", "source", "rank", "target"]
theorem sc_L_allows : FnScope N_L_allows ["self", "source", "rank", "target"] (defScope s_L_allows) := ⟨rfl, rfl, rfl, by decide +kernel, rfl, by decide +kernel, by decide +kernel⟩
abbrev s_L_least : Stmt := inClass (topS 26) 11
abbrev N_L_least : List Str := ["self", "rank", "target", "step"]
theorem sc_L_least : FnScope N_L_least ["self", "rank", "target"] (defScope s_L_least) := ⟨rfl, rfl, rfl, by decide +kernel, rfl, by decide +kernel, by decide +kernel⟩
abbrev s_L_greatest : Stmt := inClass (topS 26) 12
abbrev N_L_greatest : List Str := ["self", "source", "rank", "step"]
theorem sc_L_greatest : FnScope N_L_greatest ["self", "source", "rank"] (defScope s_L_greatest) := ⟨rfl, rfl, rfl, by decide +kernel, rfl, by decide +kernel, by decide +kernel⟩
abbrev s_Llets : Stmt := inClass (topS 26) 15
abbrev N_Llets : List Str := ["self", "source", "rank", "target", "counts"]
theorem sc_Llets : FnScope N_Llets ["self", "source", "rank", "target"] (defScope s_Llets) := ⟨rfl, rfl, rfl, by decide +kernel, rfl, by decide +kernel, by decide +kernel⟩
abbrev s_NoSuchStep_init : Stmt := inClass (topS 10) 0
abbrev N_NoSuchStep_init : List Str := ["self", "step"]
theorem csc_NoSuchStep_init : CScope N_NoSuchStep_init ["self", "step"] (defScope s_NoSuchStep_init) := ⟨rfl, rfl, rfl, by decide +kernel, rfl, by decide +kernel, by decide +kernel, by decide +kernel⟩
abbrev s_NoSuchRank_init : Stmt := inClass (topS 11) 0
abbrev N_NoSuchRank_init : List Str := ["self", "rank"]
theorem csc_NoSuchRank_init : CScope N_NoSuchRank_init ["self", "rank"] (defScope s_NoSuchRank_init) := ⟨rfl, rfl, rfl, by decide +kernel, rfl, by decide +kernel, by decide +kernel, by decide +kernel⟩
structure Cs where
  Ladder : Addr
  NoSuchStep : Addr
  NoSuchRank : Addr
  OutOfRange : Addr
  LadderreachError : Addr
  NoSuchLevel : Addr
  NoSuchNode : Addr
  NoSuchState : Addr
  NoSuchLetter : Addr
  GameError : Addr
structure Txt (P : Program) (K : PySem.W.Frag) (mg : Str → Option Value) (ζ : Cs) : Prop where
  n_len : mg "len" = none
  n_abs : mg "abs" = none
  n_max : mg "max" = none
  n_min : mg "min" = none
  n_isinstance : mg "isinstance" = none
  n_int : mg "int" = none
  n_bool : mg "bool" = none
  n_str : mg "str" = none
  n_list : mg "list" = none
  n_tuple : mg "tuple" = none
  n_range : mg "range" = none
  n_enumerate : mg "enumerate" = none
  n_reversed : mg "reversed" = none
  n_ValueError : mg "ValueError" = none
  objc : ObjC K
  d_check_height : DefIn K mg "check_height" s_check_height ["height"]
  d_check_row : DefIn K mg "check_row" s_check_row ["height", "row", "most"]
  d_check_step : DefIn K mg "check_step" s_check_step ["top", "step"]
  d_check_rank : DefIn K mg "check_rank" s_check_rank ["height", "rank"]
  d__counts_from : DefIn K mg "_counts_from" s__counts_from ["level", "levels"]
  d_pool : DefIn K mg "_law_pool" s_pool ["script", "k"]
  d_draw : DefIn K mg "_law_draw" s_draw ["pool", "many"]
  d_levels : DefIn K mg "_law_levels" s_levels ["pool", "height", "limit"]
  d_number : DefIn K mg "_law_number" s_number ["value"]
  d_same : DefIn K mg "_law_same" s_same ["answer", "due"]
  d_wild : DefIn K mg "_law_wild" s_wild ["pool", "floor", "ceiling"]
  d_lowest : DefIn K mg "_law_lowest" s_lowest ["levels", "rank", "goal"]
  d_highest : DefIn K mg "_law_highest" s_highest ["levels", "source", "rank"]
  d_asked : DefIn K mg "_law_asked" s_asked ["made", "way", "one", "two"]
  d_least_due : DefIn K mg "_law_least_due" s_least_due ["levels", "height", "rank", "goal"]
  d_greatest_due : DefIn K mg "_law_greatest_due" s_greatest_due ["levels", "height", "source", "rank"]
  d_sides : DefIn K mg "_law_sides" s_sides ["made", "levels", "rank", "goal", "source", "under", "upper"]
  d_law : DefIn K mg "law" s_law ["script"]
  cl_Ladder : Cls K ζ.Ladder
  mg_Ladder : mg "Ladder" = some (.ref ζ.Ladder)
  na_Ladder_height : NoAttr K ζ.Ladder "height"
  na_Ladder_levels : NoAttr K ζ.Ladder "levels"
  na_Ladder_top : NoAttr K ζ.Ladder "top"
  na_Ladder__counts : NoAttr K ζ.Ladder "_counts"
  mk_Ladder : MakIn K mg "Ladder" ζ.Ladder "Ladder.__init__" s_L_init ["self", "height", "levels"]
  mt_L_allows : MetIn K ζ.Ladder "allows" "Ladder.allows" s_L_allows ["self", "source", "rank", "target"]
  mt_L_least : MetIn K ζ.Ladder "least" "Ladder.least" s_L_least ["self", "rank", "target"]
  mt_L_greatest : MetIn K ζ.Ladder "greatest" "Ladder.greatest" s_L_greatest ["self", "source", "rank"]
  mt_Llets : MetIn K ζ.Ladder "_lets" "Ladder._lets" s_Llets ["self", "source", "rank", "target"]
  cv_Ladder_MOST_LEVELS : ∃ mc u, ClX.CRead K ζ.Ladder mc ∧ ClX.CVal K ζ.Ladder mc "MOST_LEVELS" (.int 24) u
  e_NoSuchStep : ErrIn P K mg "NoSuchStep" ζ.NoSuchStep "NoSuchStep.__init__" s_NoSuchStep_init "step"
  mg_NoSuchStep : mg "NoSuchStep" = some (.ref ζ.NoSuchStep)
  e_NoSuchRank : ErrIn P K mg "NoSuchRank" ζ.NoSuchRank "NoSuchRank.__init__" s_NoSuchRank_init "rank"
  mg_NoSuchRank : mg "NoSuchRank" = some (.ref ζ.NoSuchRank)
  mg_OutOfRange : mg "OutOfRange" = some (.ref ζ.OutOfRange)
  mg_LadderreachError : mg "LadderreachError" = some (.ref ζ.LadderreachError)
  mg_NoSuchLevel : mg "NoSuchLevel" = some (.ref ζ.NoSuchLevel)
  mg_NoSuchNode : mg "NoSuchNode" = some (.ref ζ.NoSuchNode)
  mg_NoSuchState : mg "NoSuchState" = some (.ref ζ.NoSuchState)
  mg_NoSuchLetter : mg "NoSuchLetter" = some (.ref ζ.NoSuchLetter)
  mg_GameError : mg "GameError" = some (.ref ζ.GameError)
  kit_NoSuchStep_OutOfRange : PySem.W.kitOne K (.ref ζ.NoSuchStep) (.ref ζ.OutOfRange) = some true
  kit_NoSuchStep_LadderreachError : PySem.W.kitOne K (.ref ζ.NoSuchStep) (.ref ζ.LadderreachError) = some true
  kit_NoSuchStep_ValueError : PySem.W.kitOne K (.ref ζ.NoSuchStep) (.type "ValueError") = some true
  kit_NoSuchStep_NoSuchRank : PySem.W.kitOne K (.ref ζ.NoSuchStep) (.ref ζ.NoSuchRank) = some false
  kit_NoSuchStep_NoSuchLevel : PySem.W.kitOne K (.ref ζ.NoSuchStep) (.ref ζ.NoSuchLevel) = some false
  kit_NoSuchStep_NoSuchNode : PySem.W.kitOne K (.ref ζ.NoSuchStep) (.ref ζ.NoSuchNode) = some false
  kit_NoSuchStep_NoSuchState : PySem.W.kitOne K (.ref ζ.NoSuchStep) (.ref ζ.NoSuchState) = some false
  kit_NoSuchStep_NoSuchLetter : PySem.W.kitOne K (.ref ζ.NoSuchStep) (.ref ζ.NoSuchLetter) = some false
  kit_NoSuchStep_GameError : PySem.W.kitOne K (.ref ζ.NoSuchStep) (.ref ζ.GameError) = some false
  kit_NoSuchRank_OutOfRange : PySem.W.kitOne K (.ref ζ.NoSuchRank) (.ref ζ.OutOfRange) = some true
  kit_NoSuchRank_LadderreachError : PySem.W.kitOne K (.ref ζ.NoSuchRank) (.ref ζ.LadderreachError) = some true
  kit_NoSuchRank_ValueError : PySem.W.kitOne K (.ref ζ.NoSuchRank) (.type "ValueError") = some true
  kit_NoSuchRank_NoSuchStep : PySem.W.kitOne K (.ref ζ.NoSuchRank) (.ref ζ.NoSuchStep) = some false
  kit_NoSuchRank_NoSuchLevel : PySem.W.kitOne K (.ref ζ.NoSuchRank) (.ref ζ.NoSuchLevel) = some false
  kit_NoSuchRank_NoSuchNode : PySem.W.kitOne K (.ref ζ.NoSuchRank) (.ref ζ.NoSuchNode) = some false
  kit_NoSuchRank_NoSuchState : PySem.W.kitOne K (.ref ζ.NoSuchRank) (.ref ζ.NoSuchState) = some false
  kit_NoSuchRank_NoSuchLetter : PySem.W.kitOne K (.ref ζ.NoSuchRank) (.ref ζ.NoSuchLetter) = some false
  kit_NoSuchRank_GameError : PySem.W.kitOne K (.ref ζ.NoSuchRank) (.ref ζ.GameError) = some false
  exm_NoSuchStep_NoSuchStep : PySem.W.exmOne K (.ref ζ.NoSuchStep) (.ref ζ.NoSuchStep) = some true
  exm_NoSuchRank_NoSuchStep : PySem.W.exmOne K (.ref ζ.NoSuchRank) (.ref ζ.NoSuchStep) = some false
  exm_NoSuchRank_NoSuchRank : PySem.W.exmOne K (.ref ζ.NoSuchRank) (.ref ζ.NoSuchRank) = some true
end LR

set_option Elab.async false
set_option maxRecDepth 100000
set_option linter.all false
set_option maxHeartbeats 4000000
namespace LR
open PySem PySem.Spec PyProof.Rows L2
section
variable {P : Program} {w : World} {K : PySem.W.Frag} {mg : Str → Option Value} {base : Heap} {ζ : Cs}
theorem err_NoSuchStep (T : Txt P K mg ζ) : ErrOk P w K mg base "NoSuchStep" ζ.NoSuchStep "step" := by
  refine T.e_NoSuchStep.ok csc_NoSuchStep_init (fun f cc cda fd A outer s H vs Q E S hr h => ⟨_, nss_cons (ns_expr (ne_supV (i := 0) S T.e_NoSuchStep.T T.e_NoSuchStep.sm T.e_NoSuchStep.mr T.e_NoSuchStep.sv (pa_cons (pe_joined (PJ.cons (pe_str) (PJ.cons (pe_fmt (pv 1)) (PJ.nil)))) pa_nil)))
   (nss_ps (pss_one (ps_ost (pv 0) (pv 1)))), ?_⟩)
  obtain ⟨a, v, rfl, ha, hv, kk⟩ := h
  refine ⟨a, rfl, ha, js_c (n := 0) (by decide) (Nat.zero_le _) (by decide +kernel) fun acc h => js_v (n := 1000) (by decide) h (log_small hv) (fun Q q => ⟨_, rfl, q⟩) fun acc h => ⟨by show 1 ≤ 1000; decide, ha, ?_⟩⟩
  exact ⟨_, rfl, _, rfl, a, ζ.NoSuchStep, rfl, T.e_NoSuchStep.T, T.e_NoSuchStep.no, .inl ⟨ha, kk⟩⟩
theorem err_NoSuchRank (T : Txt P K mg ζ) : ErrOk P w K mg base "NoSuchRank" ζ.NoSuchRank "rank" := by
  refine T.e_NoSuchRank.ok csc_NoSuchRank_init (fun f cc cda fd A outer s H vs Q E S hr h => ⟨_, nss_cons (ns_expr (ne_supV (i := 0) S T.e_NoSuchRank.T T.e_NoSuchRank.sm T.e_NoSuchRank.mr T.e_NoSuchRank.sv (pa_cons (pe_joined (PJ.cons (pe_str) (PJ.cons (pe_fmt (pv 1)) (PJ.nil)))) pa_nil)))
   (nss_ps (pss_one (ps_ost (pv 0) (pv 1)))), ?_⟩)
  obtain ⟨a, v, rfl, ha, hv, kk⟩ := h
  refine ⟨a, rfl, ha, js_c (n := 0) (by decide) (Nat.zero_le _) (by decide +kernel) fun acc h => js_v (n := 1000) (by decide) h (log_small hv) (fun Q q => ⟨_, rfl, q⟩) fun acc h => ⟨by show 1 ≤ 1000; decide, ha, ?_⟩⟩
  exact ⟨_, rfl, _, rfl, a, ζ.NoSuchRank, rfl, T.e_NoSuchRank.T, T.e_NoSuchRank.no, .inl ⟨ha, kk⟩⟩
end
end LR

set_option Elab.async false
set_option maxRecDepth 100000
set_option linter.all false
set_option maxHeartbeats 4000000
namespace LR
open PySem PySem.Spec PyProof.Rows L2
section
variable {P : Program} {w : World} {K : PySem.W.Frag} {mg : Str → Option Value} {base : Heap} {ζ : Cs}
def spPool (K : PySem.W.Frag) : Sp := fun vs H Q _ => ∃ (a : Addr) (ns : List Int) (k : Nat), vs = [.ref a, .int k] ∧ SqL K H a (ns.map V.int) ∧ ∀ p x y z t, H p = none → Q (.ref p) (upd H p (.lst [.int x, .int y, .int z, .int t]))
theorem ok_pool (T : Txt P K mg ζ) : Cal P w K mg base 1 "_law_pool" (spPool K) := by
  refine T.d_pool.cal sc_pool (fun vs H Q E h => ?_) (fun f cdv A outer s H vs Q E hr h => ⟨_, pss_cons (ps_set (i := 2) sc_pool.nd rfl (Or.inl rfl) (pe_int))
 (pss_cons (ps_if (pt_cmpR op_lt (pv 1) (pe_callB call_len_seq (by rfl) T.n_len b_len (pa_cons (pv 0) (pa_nil))) (nomark _))
 (pss_one (ps_set (i := 2) sc_pool.nd rfl (Or.inl rfl) (pe_callB call_abs (by rfl) T.n_abs b_abs (pa_cons (pe_callTy call_int1 (by rfl) T.n_int b_int (pa_cons (pe_ix ix_list (pv 0) (pv 1) (fun _ _ => rfl)) (pa_nil))) (pa_nil)))))
 (pss_nil))
 (pss_cons (ps_if (pt_cmpR op_ge (pv 2) (pe_op op_pow (pe_int) (pe_int)) (nomark _))
 (pss_one (ps_ret (pe_lst (pa_cons (pe_int) (pa_cons (pv 2) (pa_cons (pe_int) (pa_cons (pe_op op_add (pv 1) (pe_int)) (pa_nil))))))))
 (pss_nil))
 (pss_one (ps_ret (pe_lst (pa_cons (pe_int) (pa_cons (pv 2) (pa_cons (pe_int) (pa_cons (pe_op op_add (pv 1) (pe_int)) (pa_nil)))))))))), ?_⟩)
  · obtain ⟨a, ns, k, rfl, _⟩ := h; rfl
  obtain ⟨a, ns, k, rfl, hS, kk⟩ := h
  refine ⟨_, rfl, _, rfl, a, _, rfl, .inl hS, _, _, rfl, rfl, _, rfl, ?_⟩
  refine ite2 (fun c => ?_) (fun _ => ?_)
  have hlt : k < ns.length := by
    have := of_decide_eq_true c
    rw [List.length_map] at this
    omega
  refine ⟨_, rfl, _, rfl, a, _, _, _, rfl, rfl, hS, atI_nat (v := V.int (ns[k])) (by rw [List.getElem?_map, List.getElem?_eq_getElem hlt]; rfl), .inl ⟨_, rfl, _, rfl, ?_⟩⟩
  all_goals
    refine ⟨_, rfl, _, _, rfl, rfl, ⟨by decide, by decide, by decide⟩, _, _, rfl, rfl, _, rfl, ?_⟩
    refine ite2 (fun _ => ?_) (fun _ => ?_)
    · exact ⟨_, rfl, _, rfl, _, _, rfl, rfl, by show 4 ≤ sizeLine; decide, fun p hp => kk p _ _ _ _ hp⟩
    · exact ⟨_, rfl, _, rfl, _, _, rfl, rfl, by show 4 ≤ sizeLine; decide, fun p hp => kk p _ _ _ _ hp⟩
end
end LR

set_option Elab.async false
set_option maxRecDepth 100000
set_option linter.all false
set_option maxHeartbeats 4000000
namespace LR
open PySem PySem.Spec PyProof.Rows L2
section
variable {P : Program} {w : World} {K : PySem.W.Frag} {mg : Str → Option Value} {base : Heap} {ζ : Cs}
def spDraw : Sp := fun vs H Q _ => ∃ (p : Addr) (many : Int), vs = [.ref p, .int many] ∧ IsPool H p ∧ 0 < many ∧ many < 1073741824 ∧ ∀ (v : Int) H', 0 ≤ v → v < many → Keep p H H' → IsPool H' p → Q (.int v) H'
theorem ok_draw (T : Txt P K mg ζ) : Cal P w K mg base 1 "_law_draw" spDraw := by
  refine T.d_draw.cal sc_draw (fun vs H Q E h => ?_) (fun f cdv A outer s H vs Q E hr h => ⟨_, pss_cons (ps_if (pt_cmpR op_eq (pe_ix ix_list (pv 0) (pe_int) (fun _ _ => rfl)) (pe_int) (nomark _))
 (pss_cons (ps_set (i := 2) sc_draw.nd rfl (Or.inl rfl) (pe_op op_mod (pe_callTy call_int1 (by rfl) T.n_int b_int (pa_cons (pe_ix ix_list (pv 0) (pe_int) (fun _ _ => rfl)) (pa_nil))) (pv 1)))
 (pss_cons (ps_asg (pe_op op_fdiv (pe_callTy call_int1 (by rfl) T.n_int b_int (pa_cons (pe_ix ix_list (pv 0) (pe_int) (fun _ _ => rfl)) (pa_nil))) (pv 1)) (pg_sub (pv 0) (pe_int) set_list))
 (pss_cons (ps_if (pt_cmpR op_eq (pe_ix ix_list (pv 0) (pe_int) (fun _ _ => rfl)) (pe_int) (nomark _))
 (pss_cons (ps_asg (pe_int) (pg_sub (pv 0) (pe_int) set_list))
 (pss_one (ps_asg (pv 2) (pg_sub (pv 0) (pe_int) set_list))))
 (pss_nil))
 (pss_one (ps_ret (pv 2))))))
 (pss_nil))
 (pss_cons (ps_asg (pe_op op_add (pe_ix ix_list (pv 0) (pe_int) (fun _ _ => rfl)) (pe_int)) (pg_sub (pv 0) (pe_int) set_list))
 (pss_cons (ps_set (i := 3) sc_draw.nd rfl (Or.inl rfl) (pe_op op_mod (pe_callTy call_int1 (by rfl) T.n_int b_int (pa_cons (pe_op op_add (pe_op op_add (pe_op op_add (pe_op op_mul (pe_ix ix_list (pv 0) (pe_int) (fun _ _ => rfl)) (pe_int)) (pe_op op_mul (pe_ix ix_list (pv 0) (pe_int) (fun _ _ => rfl)) (pe_int))) (pe_op op_mul (pe_ix ix_list (pv 0) (pe_int) (fun _ _ => rfl)) (pe_int))) (pe_int)) (pa_nil))) (pe_int)))
 (pss_cons (ps_set (i := 3) sc_draw.nd rfl (Or.inl rfl) (pe_op op_mod (pe_callTy call_int1 (by rfl) T.n_int b_int (pa_cons (pe_op op_add (pe_op op_add (pe_op op_mul (pv 3) (pv 3)) (pe_op op_mul (pe_ix ix_list (pv 0) (pe_int) (fun _ _ => rfl)) (pe_int))) (pe_ix ix_list (pv 0) (pe_int) (fun _ _ => rfl))) (pa_nil))) (pe_int)))
 (pss_cons (ps_set (i := 3) sc_draw.nd rfl (Or.inl rfl) (pe_op op_mod (pe_callTy call_int1 (by rfl) T.n_int b_int (pa_cons (pe_op op_add (pe_op op_mul (pv 3) (pv 3)) (pe_int)) (pa_nil))) (pe_int)))
 (pss_one (ps_ret (pe_op op_mod (pe_callTy call_int1 (by rfl) T.n_int b_int (pa_cons (pe_op op_fdiv (pv 3) (pe_int)) (pa_nil))) (pv 1)))))))), ?_⟩)
  · obtain ⟨a, ns, rfl, _⟩ := h; rfl
  obtain ⟨p, many, rfl, ⟨a, b, c, d, hp⟩, hm0, hm1, kk⟩ := h
  refine ⟨_, rfl, p, _, _, _, rfl, rfl, SqL.of hp, rfl, rfl, _, rfl, ?_⟩
  refine ite2 (fun _ => ?_) (fun _ => ?_)
  · refine ⟨_, rfl, p, _, _, _, rfl, rfl, SqL.of hp, rfl, .inl ⟨_, rfl, _, rfl, _, _, rfl, rfl, hm0, ?_⟩⟩
    refine ⟨_, rfl, p, _, _, _, rfl, rfl, SqL.of hp, rfl, .inl ⟨_, rfl, _, rfl, _, _, rfl, rfl, ⟨hm0, hm1⟩, _, rfl, p, _, _, _, rfl, rfl, hp, rfl, ?_⟩⟩
    refine ⟨_, rfl, p, _, _, _, rfl, rfl, SqL.of upd_same, rfl, rfl, _, rfl, ?_⟩
    refine ite2 (fun _ => ?_) (fun _ => ?_)
    · refine ⟨_, rfl, p, _, _, _, rfl, rfl, upd_same, rfl, ?_⟩
      refine ⟨_, rfl, _, rfl, p, _, _, _, rfl, rfl, upd_same, rfl, ?_⟩
      exact ⟨_, rfl, kk _ _ (Int.emod_nonneg _ (by omega)) (Int.emod_lt_of_pos _ hm0) (by rw [upd_upd, upd_upd]; exact Keep.refl.upd) (by rw [upd_upd, upd_upd]; exact IsPool.upd)⟩
    · exact ⟨_, rfl, kk _ _ (Int.emod_nonneg _ (by omega)) (Int.emod_lt_of_pos _ hm0) Keep.refl.upd IsPool.upd⟩
  · refine ⟨_, rfl, _, _, _, _, rfl, rfl, SqL.of hp, rfl, _, _, rfl, rfl, _, rfl, p, _, _, _, rfl, rfl, hp, rfl, ?_⟩
    refine ⟨_, rfl, _, _, _, _, rfl, rfl, SqL.of upd_same, rfl, _, _, rfl, rfl, .inr ⟨by decide, by decide⟩, _, rfl, _, _, _, _, rfl, rfl, SqL.of upd_same, rfl, _, _, rfl, rfl, .inr ⟨by decide, by decide⟩, _, _, rfl, rfl, _, rfl, _, _, _, _, rfl, rfl, SqL.of upd_same, rfl, _, _, rfl, rfl, .inr ⟨by decide, by decide⟩, _, _, rfl, rfl, _, _, rfl, rfl, .inl ⟨_, rfl, _, _, rfl, rfl, (by show (0:Int) < _; decide), ?_⟩⟩
    refine ⟨_, rfl, _, rfl, _, _, rfl, rfl, .inl ⟨Int.lt_of_lt_of_le (by decide) (Int.emod_nonneg _ (by decide)), Int.lt_trans (Int.emod_lt_of_pos _ (by decide)) (by decide)⟩, _, rfl, _, _, _, _, rfl, rfl, SqL.of upd_same, rfl, _, _, rfl, rfl, .inr ⟨by decide, by decide⟩, _, _, rfl, rfl, _, rfl, _, _, _, _, rfl, rfl, SqL.of upd_same, rfl, _, _, rfl, rfl, .inl ⟨_, rfl, _, _, rfl, rfl, (by show (0:Int) < _; decide), ?_⟩⟩
    refine ⟨_, rfl, _, rfl, _, _, rfl, rfl, .inl ⟨Int.lt_of_lt_of_le (by decide) (Int.emod_nonneg _ (by decide)), Int.lt_trans (Int.emod_lt_of_pos _ (by decide)) (by decide)⟩, _, _, rfl, rfl, .inl ⟨_, rfl, _, _, rfl, rfl, (by show (0:Int) < _; decide), ?_⟩⟩
    exact ⟨_, rfl, _, _, rfl, rfl, ⟨by decide, by decide⟩, .inl ⟨_, rfl, _, rfl, _, _, rfl, rfl, hm0, kk _ _ (Int.emod_nonneg _ (by omega)) (Int.emod_lt_of_pos _ hm0) Keep.refl.upd IsPool.upd⟩⟩
end
end LR

set_option Elab.async false
set_option maxRecDepth 100000
set_option linter.all false
set_option maxHeartbeats 4000000
namespace LR
open PySem PySem.Spec PyProof.Rows L2
section
variable {P : Program} {w : World} {K : PySem.W.Frag} {mg : Str → Option Value} {base : Heap} {ζ : Cs}
def spNumber : Sp := fun vs H Q _ => ∃ (x : V) (d : Dt), vs = [x] ∧ At H x d ∧ Q (.bl (isN d)) H
theorem ok_number (T : Txt P K mg ζ) : Cal P w K mg base 1 "_law_number" spNumber := by
  refine T.d_number.cal sc_number (fun vs H Q E h => ?_) (fun f cdv A outer s H vs Q E hr h => ⟨_, pss_one (ps_ret (pe_and (pe_callB call_isi (by rfl) T.n_isinstance b_isinstance (pa_cons (pv 0) (pa_cons (pe_bltn (v := .ty "int") (by rfl) T.n_int b_int rfl) (pa_nil)))) (pe_one (pe_not (pe_callB call_isi (by rfl) T.n_isinstance b_isinstance (pa_cons (pv 0) (pa_cons (pe_bltn (v := .ty "bool") (by rfl) T.n_bool b_bool rfl) (pa_nil)))))))), ?_⟩)
  · obtain ⟨x, d, rfl, _⟩ := h; rfl
  obtain ⟨x, d, rfl, a, kk⟩ := h
  refine ⟨_, rfl, _, _, _, _, _, rfl, .ty _, At.tyX a, kit_ty (kitI d), _, rfl, ite_b (fun c => ?_) (fun c => ?_)⟩
  · refine ⟨_, rfl, _, _, _, _, _, rfl, .ty _, At.tyX a, kit_ty (kitBo d), _, rfl, ?_⟩
    have e : (!isB d) = isN d := by cases d <;> first | rfl | cases c
    rw [e]; exact kk
  · have e : isN d = false := by cases d <;> first | rfl | cases c
    rw [← e]; exact kk
end
end LR

set_option Elab.async false
set_option maxRecDepth 100000
set_option linter.all false
set_option maxHeartbeats 4000000
namespace LR
open PySem PySem.Spec PyProof.Rows L2
section
variable {P : Program} {w : World} {K : PySem.W.Frag} {mg : Str → Option Value} {base : Heap} {ζ : Cs}
/-- the answer is the due one, in kind and value -/
def spSame (n : Nat) : Sp := fun vs H Q _ => ∃ (x y : V) (a d : Dt), vs = [x, y] ∧ At H x a ∧ At H y d ∧ dep d < n ∧ ∀ b : Bool, (b = true ↔ a = d) → Q (.bl b) H
theorem at_seq {H : Hp} {p : Addr} {xs : List V} {K : PySem.W.Frag} {i : Nat} {v : V} {Q : VK} (h : SqL K H p xs ∨ SqT K H p xs) (e : xs[i]? = some v) (q : Q v H) : rIx K (.ref p) (.int i) H Q := by
  rcases h with h | h
  · exact .inl ⟨p, xs, i, v, rfl, rfl, h, atI_nat e, q⟩
  · exact .inr (.inl ⟨p, xs, i, v, rfl, rfl, h, atI_nat e, q⟩)
theorem ok_same (T : Txt P K mg ζ) (n : Nat) : Cal P w K mg base (n + 2) "_law_same" (spSame n) := by
  have c_number : Cal P w K mg base 1 "_law_number" spNumber := ok_number T
  induction n with
  | zero =>
    refine T.d_same.cal sc_same (fun vs H Q E h => ?_) (fun f cdv A outer s H vs Q E hr h => ?_)
    · obtain ⟨x, y, a, d, rfl, _⟩ := h; rfl
    · obtain ⟨x, y, a, d, rfl, _, _, hn, _⟩ := h
      exact absurd hn (Nat.not_lt_zero _)
  | succ n ih =>
  have c_same := ih
  refine T.d_same.cal sc_same (fun vs H Q E h => ?_) (fun f cdv A outer s H vs Q E hr h => ⟨_, pss_cons (ps_if (PW.pt (pw_or (pt_val (pe_callB call_isi (by rfl) T.n_isinstance b_isinstance (pa_cons (pv 1) (pa_cons (pe_bltn (v := .ty "list") (by rfl) T.n_list b_list rfl) (pa_nil))))) (pw_or1 (pt_val (pe_callB call_isi (by rfl) T.n_isinstance b_isinstance (pa_cons (pv 1) (pa_cons (pe_bltn (v := .ty "tuple") (by rfl) T.n_tuple b_tuple rfl) (pa_nil))))))))
 (pss_cons (ps_if (PW.pt (pw_and (pt_val (pe_callB call_isi (by rfl) T.n_isinstance b_isinstance (pa_cons (pv 1) (pa_cons (pe_bltn (v := .ty "list") (by rfl) T.n_list b_list rfl) (pa_nil))))) (pw_and1 (pt_not (pt_val (pe_callB call_isi (by rfl) T.n_isinstance b_isinstance (pa_cons (pv 0) (pa_cons (pe_bltn (v := .ty "list") (by rfl) T.n_list b_list rfl) (pa_nil)))))))))
 (pss_one (ps_ret (pe_bl)))
 (pss_nil))
 (pss_cons (ps_if (PW.pt (pw_and (pt_val (pe_callB call_isi (by rfl) T.n_isinstance b_isinstance (pa_cons (pv 1) (pa_cons (pe_bltn (v := .ty "tuple") (by rfl) T.n_tuple b_tuple rfl) (pa_nil))))) (pw_and1 (pt_not (pt_val (pe_callB call_isi (by rfl) T.n_isinstance b_isinstance (pa_cons (pv 0) (pa_cons (pe_bltn (v := .ty "tuple") (by rfl) T.n_tuple b_tuple rfl) (pa_nil)))))))))
 (pss_one (ps_ret (pe_bl)))
 (pss_nil))
 (pss_cons (ps_if (pt_cmpR op_ne (pe_callB call_len_seq (by rfl) T.n_len b_len (pa_cons (pv 0) (pa_nil))) (pe_callB call_len_seq (by rfl) T.n_len b_len (pa_cons (pv 1) (pa_nil))) (nomark _))
 (pss_one (ps_ret (pe_bl)))
 (pss_nil))
 (pss_cons (ps_for PassesOwn.never rfl (pi_range1 rfl T.n_range (pa_cons (pe_callB call_len_seq (by rfl) T.n_len b_len (pa_cons (pv 1) (pa_nil))) (pa_nil))) (pg_name (i := 2) sc_same.nd rfl (Or.inl rfl))
 (pss_one (ps_if (pt_not (pt_val (pe_c c_same hr (by first | decide | omega) (by rfl) (pa_cons (pe_ix ix_seq (pv 0) (pv 2) (fun _ _ => rfl)) (pa_cons (pe_ix ix_seq (pv 1) (pv 2) (fun _ _ => rfl)) (pa_nil))))))
 (pss_one (ps_ret (pe_bl)))
 (pss_nil))))
 (pss_one (ps_ret (pe_bl)))))))
 (pss_nil))
 (pss_cons (ps_if (pt_cmpR op_isN (pv 1) (pe_non) (nomark _))
 (pss_one (ps_ret (pe_cmpR op_isN (pv 0) (pe_non) (nomark _))))
 (pss_nil))
 (pss_cons (ps_if (pt_val (pe_callB call_isi (by rfl) T.n_isinstance b_isinstance (pa_cons (pv 1) (pa_cons (pe_bltn (v := .ty "bool") (by rfl) T.n_bool b_bool rfl) (pa_nil)))))
 (pss_one (ps_ret (pe_and (pe_callB call_isi (by rfl) T.n_isinstance b_isinstance (pa_cons (pv 0) (pa_cons (pe_bltn (v := .ty "bool") (by rfl) T.n_bool b_bool rfl) (pa_nil)))) (pe_one (pe_cmpR op_eq (pv 0) (pv 1) (nomark _))))))
 (pss_nil))
 (pss_cons (ps_if (pt_val (pe_callB call_isi (by rfl) T.n_isinstance b_isinstance (pa_cons (pv 1) (pa_cons (pe_bltn (v := .ty "int") (by rfl) T.n_int b_int rfl) (pa_nil)))))
 (pss_one (ps_ret (pe_and (pe_c c_number hr (by first | decide | omega) (by rfl) (pa_cons (pv 0) (pa_nil))) (pe_one (pe_cmpR op_eq (pv 0) (pv 1) (nomark _))))))
 (pss_nil))
 (pss_one (ps_ret (pe_and (pe_callB call_isi (by rfl) T.n_isinstance b_isinstance (pa_cons (pv 0) (pa_cons (pe_bltn (v := .ty "str") (by rfl) T.n_str b_str rfl) (pa_nil)))) (pe_one (pe_cmpR op_eq (pv 0) (pv 1) (nomark _))))))))), ?_⟩)
  · obtain ⟨x, y, a, d, rfl, _⟩ := h; rfl
  obtain ⟨x, y, a, d, rfl, ha, hd, hn, kk⟩ := h
  cases hd with
  | non =>
    refine ⟨_, rfl, _, _, _, _, _, rfl, .ty _, At.tyX .non, kit_ty (kitL _), _, rfl, iteF ⟨_, rfl, _, _, _, _, _, rfl, .ty _, At.tyX .non, kit_ty (kitU _), _, rfl, iteF ?_⟩⟩
    refine ⟨_, rfl, rfl, _, rfl, iteT ⟨_, rfl, rfl, kk _ ?_⟩⟩
    cases ha <;> simp
  | bl b =>
    refine ⟨_, rfl, _, _, _, _, _, rfl, .ty _, At.tyX (.bl _), kit_ty (kitL _), _, rfl, iteF ⟨_, rfl, _, _, _, _, _, rfl, .ty _, At.tyX (.bl _), kit_ty (kitU _), _, rfl, iteF ?_⟩⟩
    refine ⟨_, rfl, rfl, _, rfl, iteF ⟨_, rfl, _, _, _, _, _, rfl, .ty _, At.tyX (.bl _), kit_ty (kitBo _), _, rfl, iteT ?_⟩⟩
    refine ⟨_, rfl, _, _, _, _, _, rfl, .ty _, At.tyX ha, kit_ty (kitBo _), _, rfl, ite_b (fun c => ?_) (fun c => ?_)⟩
    · cases ha with
      | bl b' => exact ⟨_, rfl, _, rfl, rfl, kk _ (by simp)⟩
      | _ => cases c
    · refine kk _ ⟨fun z => (by cases z), fun z => ?_⟩
      subst z; cases c
  | int b =>
    refine ⟨_, rfl, _, _, _, _, _, rfl, .ty _, At.tyX (.int _), kit_ty (kitL _), _, rfl, iteF ⟨_, rfl, _, _, _, _, _, rfl, .ty _, At.tyX (.int _), kit_ty (kitU _), _, rfl, iteF ?_⟩⟩
    refine ⟨_, rfl, rfl, _, rfl, iteF ⟨_, rfl, _, _, _, _, _, rfl, .ty _, At.tyX (.int _), kit_ty (kitBo _), _, rfl, iteF ⟨_, rfl, _, _, _, _, _, rfl, .ty _, At.tyX (.int _), kit_ty (kitI _), _, rfl, iteT ?_⟩⟩⟩
    refine ⟨_, rfl, x, a, rfl, ha, _, rfl, ite_b (fun c => ?_) (fun c => ?_)⟩
    · cases ha with
      | int b' => exact ⟨_, rfl, _, rfl, rfl, kk _ (by simp)⟩
      | _ => cases c
    · refine kk _ ⟨fun z => (by cases z), fun z => ?_⟩
      subst z; cases c
  | str b =>
    refine ⟨_, rfl, _, _, _, _, _, rfl, .ty _, At.tyX (.str _), kit_ty (kitL _), _, rfl, iteF ⟨_, rfl, _, _, _, _, _, rfl, .ty _, At.tyX (.str _), kit_ty (kitU _), _, rfl, iteF ?_⟩⟩
    refine ⟨_, rfl, rfl, _, rfl, iteF ⟨_, rfl, _, _, _, _, _, rfl, .ty _, At.tyX (.str _), kit_ty (kitBo _), _, rfl, iteF ⟨_, rfl, _, _, _, _, _, rfl, .ty _, At.tyX (.str _), kit_ty (kitI _), _, rfl, iteF ?_⟩⟩⟩
    refine ⟨_, rfl, _, _, _, _, _, rfl, .ty _, At.tyX ha, kit_ty (kitS _), _, rfl, ite_b (fun c => ?_) (fun c => ?_)⟩
    · cases ha with
      | str b' => exact ⟨_, rfl, _, rfl, rfl, kk _ (by simp)⟩
      | _ => cases c
    · refine kk _ ⟨fun z => (by cases z), fun z => ?_⟩
      subst z; cases c
  | lst hq hs hz =>
    rename_i q ys ds
    have hdn : deps ds < n := by rw [dep] at hn; omega
    refine ⟨_, rfl, _, _, _, _, _, rfl, .ty _, At.tyX (At.lst hq hs hz), kit_ty (kitL _), _, rfl, iteT ?_⟩
    refine ⟨_, rfl, _, _, _, _, _, rfl, .ty _, At.tyX (At.lst hq hs hz), kit_ty (kitL _), _, rfl, iteT ?_⟩
    cases ha with
    | lst hp as az =>
      rename_i p xs as'
      refine ⟨_, rfl, _, _, _, _, _, rfl, .ty _, At.tyX (At.lst hp as az), kit_ty (kitL _), _, rfl, iteF ?_⟩
      refine ⟨_, rfl, _, _, _, _, _, rfl, .ty _, At.tyX (At.lst hq hs hz), kit_ty (kitU _), _, rfl, iteF (iteF ?_)⟩
      have hl1 := as.length; have hl2 := hs.length
      refine ⟨_, rfl, p, xs, rfl, .inl (SqL.of hp), _, rfl, q, ys, rfl, .inl (SqL.of hq), rfl, _, rfl, ?_⟩
      refine ite_b (fun c => ?_) (fun c => ?_)
      · refine kk _ ⟨fun z => (by cases z), fun z => ?_⟩
        cases z
        rw [hl1, hl2] at c; simp at c
      have hl : as'.length = ds.length := by
        rw [hl1, hl2] at c; simp at c; omega
      refine ⟨_, rfl, q, ys, rfl, .inl (SqL.of hq), _, rfl, by omega, by omega, ?_⟩
      refine for_range (lo := 0) (n := ys.length) (fun i σ H' => H' = H ∧ (∃ z, σ = [some (.ref p), some (.ref q), z]) ∧ as'.take i = ds.take i) ⟨rfl, ⟨_, rfl⟩, rfl⟩ ?_ ?_
      · rintro i σ H' hi ⟨rfl, ⟨z, rfl⟩, ht⟩
        have hi1 : i < as'.length := by omega
        have hi2 : i < ds.length := by omega
        obtain ⟨x, ex, ax⟩ := as.getD (List.getElem?_eq_getElem hi1)
        obtain ⟨y, ey, ay⟩ := hs.getD (List.getElem?_eq_getElem hi2)
        refine ⟨_, rfl, _, rfl, .inl ⟨ p, xs, _, _, rfl, rfl, SqL.of hp, (by rw [Int.zero_add]; exact atI_nat ex), _, rfl, _, rfl, .inl ⟨ q, ys, _, _, rfl, rfl, SqL.of hq, (by rw [Int.zero_add]; exact atI_nat ey), ?_⟩⟩⟩
        refine ⟨x, y, _, _, rfl, ax, ay, Nat.lt_of_le_of_lt (deps_mem (List.getElem_mem hi2)) hdn, fun b hb => ⟨_, rfl, ite_b (fun c => ?_) (fun c => ?_)⟩⟩
        · refine kk _ ⟨fun z => (by cases z), fun z => ?_⟩
          injection z with z
          have hbt := hb.mpr (List.getElem_of_eq z hi1)
          rw [hbt] at c; cases c
        · refine ⟨rfl, ⟨_, rfl⟩, ?_⟩
          have hbt : b = true := by cases b with
            | true => rfl
            | false => cases c
          rw [List.take_succ, List.take_succ, ht, List.getElem?_eq_getElem hi1, List.getElem?_eq_getElem hi2, hb.mp hbt]
      · rintro σ H' ⟨rfl, ⟨z, rfl⟩, ht⟩
        refine kk true ⟨fun _ => ?_, fun _ => rfl⟩
        rw [hl2, List.take_length, ← hl, List.take_length] at ht
        rw [ht]
    | non => exact ⟨_, rfl, _, _, _, _, _, rfl, .ty _, At.tyX .non, kit_ty (kitL _), _, rfl, iteT (kk _ ⟨fun z => (by cases z), fun z => (by cases z)⟩)⟩
    | bl _ => exact ⟨_, rfl, _, _, _, _, _, rfl, .ty _, At.tyX (.bl _), kit_ty (kitL _), _, rfl, iteT (kk _ ⟨fun z => (by cases z), fun z => (by cases z)⟩)⟩
    | int _ => exact ⟨_, rfl, _, _, _, _, _, rfl, .ty _, At.tyX (.int _), kit_ty (kitL _), _, rfl, iteT (kk _ ⟨fun z => (by cases z), fun z => (by cases z)⟩)⟩
    | str _ => exact ⟨_, rfl, _, _, _, _, _, rfl, .ty _, At.tyX (.str _), kit_ty (kitL _), _, rfl, iteT (kk _ ⟨fun z => (by cases z), fun z => (by cases z)⟩)⟩
    | tup h5 a5 z5 => exact ⟨_, rfl, _, _, _, _, _, rfl, .ty _, At.tyX (.tup h5 a5 z5), kit_ty (kitL _), _, rfl, iteT (kk _ ⟨fun z => (by cases z), fun z => (by cases z)⟩)⟩
  | tup hq hs hz =>
    rename_i q ys ds
    have hdn : deps ds < n := by rw [dep] at hn; omega
    refine ⟨_, rfl, _, _, _, _, _, rfl, .ty _, At.tyX (At.tup hq hs hz), kit_ty (kitL _), _, rfl, iteF ⟨_, rfl, _, _, _, _, _, rfl, .ty _, At.tyX (At.tup hq hs hz), kit_ty (kitU _), _, rfl, iteT ?_⟩⟩
    refine ⟨_, rfl, _, _, _, _, _, rfl, .ty _, At.tyX (At.tup hq hs hz), kit_ty (kitL _), _, rfl, iteF (iteF ⟨_, rfl, _, _, _, _, _, rfl, .ty _, At.tyX (At.tup hq hs hz), kit_ty (kitU _), _, rfl, iteT ?_⟩)⟩
    cases ha with
    | tup hp as az =>
      rename_i p xs as'
      refine ⟨_, rfl, _, _, _, _, _, rfl, .ty _, At.tyX (At.tup hp as az), kit_ty (kitU _), _, rfl, iteF ?_⟩
      have hl1 := as.length; have hl2 := hs.length
      refine ⟨_, rfl, p, xs, rfl, .inr (SqT.of hp), _, rfl, q, ys, rfl, .inr (SqT.of hq), rfl, _, rfl, ?_⟩
      refine ite_b (fun c => ?_) (fun c => ?_)
      · refine kk _ ⟨fun z => (by cases z), fun z => ?_⟩
        cases z
        rw [hl1, hl2] at c; simp at c
      have hl : as'.length = ds.length := by
        rw [hl1, hl2] at c; simp at c; omega
      refine ⟨_, rfl, q, ys, rfl, .inr (SqT.of hq), _, rfl, by omega, by omega, ?_⟩
      refine for_range (lo := 0) (n := ys.length) (fun i σ H' => H' = H ∧ (∃ z, σ = [some (.ref p), some (.ref q), z]) ∧ as'.take i = ds.take i) ⟨rfl, ⟨_, rfl⟩, rfl⟩ ?_ ?_
      · rintro i σ H' hi ⟨rfl, ⟨z, rfl⟩, ht⟩
        have hi1 : i < as'.length := by omega
        have hi2 : i < ds.length := by omega
        obtain ⟨x, ex, ax⟩ := as.getD (List.getElem?_eq_getElem hi1)
        obtain ⟨y, ey, ay⟩ := hs.getD (List.getElem?_eq_getElem hi2)
        refine ⟨_, rfl, _, rfl, .inr (.inl ⟨ p, xs, _, _, rfl, rfl, SqT.of hp, (by rw [Int.zero_add]; exact atI_nat ex), _, rfl, _, rfl, .inr (.inl ⟨ q, ys, _, _, rfl, rfl, SqT.of hq, (by rw [Int.zero_add]; exact atI_nat ey), ?_⟩)⟩)⟩
        refine ⟨x, y, _, _, rfl, ax, ay, Nat.lt_of_le_of_lt (deps_mem (List.getElem_mem hi2)) hdn, fun b hb => ⟨_, rfl, ite_b (fun c => ?_) (fun c => ?_)⟩⟩
        · refine kk _ ⟨fun z => (by cases z), fun z => ?_⟩
          injection z with z
          have hbt := hb.mpr (List.getElem_of_eq z hi1)
          rw [hbt] at c; cases c
        · refine ⟨rfl, ⟨_, rfl⟩, ?_⟩
          have hbt : b = true := by cases b with
            | true => rfl
            | false => cases c
          rw [List.take_succ, List.take_succ, ht, List.getElem?_eq_getElem hi1, List.getElem?_eq_getElem hi2, hb.mp hbt]
      · rintro σ H' ⟨rfl, ⟨z, rfl⟩, ht⟩
        refine kk true ⟨fun _ => ?_, fun _ => rfl⟩
        rw [hl2, List.take_length, ← hl, List.take_length] at ht
        rw [ht]
    | non => exact ⟨_, rfl, _, _, _, _, _, rfl, .ty _, At.tyX .non, kit_ty (kitU _), _, rfl, iteT (kk _ ⟨fun z => (by cases z), fun z => (by cases z)⟩)⟩
    | bl _ => exact ⟨_, rfl, _, _, _, _, _, rfl, .ty _, At.tyX (.bl _), kit_ty (kitU _), _, rfl, iteT (kk _ ⟨fun z => (by cases z), fun z => (by cases z)⟩)⟩
    | int _ => exact ⟨_, rfl, _, _, _, _, _, rfl, .ty _, At.tyX (.int _), kit_ty (kitU _), _, rfl, iteT (kk _ ⟨fun z => (by cases z), fun z => (by cases z)⟩)⟩
    | str _ => exact ⟨_, rfl, _, _, _, _, _, rfl, .ty _, At.tyX (.str _), kit_ty (kitU _), _, rfl, iteT (kk _ ⟨fun z => (by cases z), fun z => (by cases z)⟩)⟩
    | lst h5 a5 z5 => exact ⟨_, rfl, _, _, _, _, _, rfl, .ty _, At.tyX (.lst h5 a5 z5), kit_ty (kitU _), _, rfl, iteT (kk _ ⟨fun z => (by cases z), fun z => (by cases z)⟩)⟩
end
end LR

set_option Elab.async false
set_option maxRecDepth 100000
set_option linter.all false
set_option maxHeartbeats 4000000
namespace LR
open PySem PySem.Spec PyProof.Rows L2
section
variable {P : Program} {w : World} {K : PySem.W.Frag} {mg : Str → Option Value} {base : Heap} {ζ : Cs}
def spHeight : Sp := fun vs H Q _ => ∃ h : Int, vs = [.int h] ∧ (h = 1 ∨ h = 2 ∨ h = 3) ∧ ∀ H', Same H H' → Q .non H'
theorem ok_height (T : Txt P K mg ζ) : Cal P w K mg base 1 "check_height" spHeight := by
  refine T.d_check_height.cal sc_check_height (fun vs H Q E h => ?_) (fun f cdv A outer s H vs Q E hr h => ⟨_, pss_one (ps_if (pt_cmpR op_notIn_seq (pv 0) (pe_tup (pa_cons (pe_int) (pa_cons (pe_int) (pa_cons (pe_int) (pa_nil))))) rfl)
 (pss_never)
 (pss_nil)), ?_⟩)
  · obtain ⟨h, rfl, _⟩ := h; rfl
  obtain ⟨h, rfl, hh, kk⟩ := h
  refine ⟨_, rfl, (by show 3 ≤ sizeLine; decide), fun t ht => ?_⟩
  refine ⟨t, _, rfl, .inr (SqT.of upd_same), rfl, rfl, _, rfl, ?_⟩
  rcases hh with rfl | rfl | rfl <;> exact iteF (kk _ (same_new ht))
end
end LR

set_option Elab.async false
set_option maxRecDepth 100000
set_option linter.all false
set_option maxHeartbeats 4000000
namespace LR
open PySem PySem.Spec PyProof.Rows L2
section
variable {P : Program} {w : World} {K : PySem.W.Frag} {mg : Str → Option Value} {base : Heap} {ζ : Cs}
def spRow (K : PySem.W.Frag) : Sp := fun vs H Q _ => ∃ (h : Int) (a : Addr) (ls : List Int) (most : Int), vs = [.int h, .ref a, .int most] ∧ SqL K H a (ls.map V.int) ∧ (ls.length : Int) ≤ most ∧ (∀ l ∈ ls, 1 ≤ l ∧ l ≤ h) ∧ ∀ H', Same H H' → Q .non H'
theorem ok_row (T : Txt P K mg ζ) : Cal P w K mg base 1 "check_row" (spRow K) := by
  refine T.d_check_row.cal sc_check_row (fun vs H Q E h => ?_) (fun f cdv A outer s H vs Q E hr h => ⟨_, pss_cons (ps_if (pt_cmpR op_gt (pe_callB call_len_seq (by rfl) T.n_len b_len (pa_cons (pv 1) (pa_nil))) (pv 2) (nomark _))
 (pss_never)
 (pss_nil))
 (pss_one (ps_for PassesOwn.never rfl (pi_enum (by rfl) T.n_enumerate (pa_cons (pv 1) (pa_nil))) (pg_tup rfl (pgs_cons (pg_name (i := 3) sc_check_row.nd rfl (Or.inl rfl)) (pgs_cons (pg_name (i := 4) sc_check_row.nd rfl (Or.inl rfl)) (pgs_nil))))
 (pss_one (ps_if (pt_not (pt_chain op_le op_le (pe_int) (pv 4) (pv 0) ))
 (pss_never)
 (pss_nil))))), ?_⟩)
  · obtain ⟨h, a, ls, most, rfl, _⟩ := h; rfl
  obtain ⟨h, a, ls, most, rfl, hS, hl, hb, kk⟩ := h
  refine ⟨_, rfl, a, _, rfl, .inl hS, _, rfl, _, _, rfl, rfl, _, rfl, ?_⟩
  refine ite2 (fun c => absurd (of_decide_eq_true c) (by rw [List.length_map]; omega)) (fun _ => ?_)
  refine ⟨_, rfl, a, _, rfl, hS, for_it walk_enum (fun i σ H' => Same H H' ∧ ∃ y z, σ = [some (.int h), some (.ref a), some (.int most), y, z]) ⟨Same.refl _, _, _, rfl⟩ (fun i σ H' _ h => h.1.seq hS) ?_ (fun σ H' h => ?_)⟩
  · rintro i x σ H1 H2 hi ⟨s1, y, z, rfl⟩ ⟨t, x, y, rfl, ht, rfl, ex, ey⟩
    cases ex
    obtain ⟨l, el, rfl⟩ := map_get ey
    obtain ⟨b1, b2⟩ := hb l (List.mem_of_getElem? el)
    refine ⟨t, _, rfl, SqT.of upd_same, rfl, _, _, rfl, _, _, rfl, rfl, ?_⟩
    refine ⟨_, rfl, _, _, rfl, rfl, _, rfl, ?_⟩
    refine ite2 (fun c => ?_) (fun c => absurd (decide_eq_true b1) c)
    refine ⟨_, rfl, _, _, rfl, rfl, _, rfl, ?_⟩
    refine ite2 (fun c => ?_) (fun _ => ⟨s1.new ht, _, _, rfl⟩)
    rw [decide_eq_true b2] at c; cases c
  · exact kk _ h.1
end
end LR

set_option Elab.async false
set_option maxRecDepth 100000
set_option linter.all false
set_option maxHeartbeats 4000000
namespace LR
open PySem PySem.Spec PyProof.Rows L2
section
variable {P : Program} {w : World} {K : PySem.W.Frag} {mg : Str → Option Value} {base : Heap} {ζ : Cs}
def spCounts (K : PySem.W.Frag) : Sp := fun vs H Q _ => ∃ (lv : Int) (a : Addr) (ls : List Int), vs = [.int lv, .ref a] ∧ SqL K H a (ls.map V.int) ∧ ls.length ≤ 1000 ∧ ∀ H' p, Same H H' → H p = none → H' p = some (.tup (cnL ls lv (ls.length + 1))) → Q (.ref p) H'
theorem ok_counts (T : Txt P K mg ζ) : Cal P w K mg base 1 "_counts_from" (spCounts K) := by
  refine T.d__counts_from.cal sc__counts_from (fun vs H Q E h => ?_) (fun f cdv A outer s H vs Q E hr h => ⟨_, pss_cons (ps_set (i := 2) sc__counts_from.nd rfl (Or.inl rfl) (pe_lst (pa_cons (pe_int) (pa_nil))))
 (pss_cons (ps_for PassesOwn.never rfl (pi_list (pv 1)) (pg_name (i := 3) sc__counts_from.nd rfl (Or.inl rfl))
 (pss_one (ps_expr (pe_bm PySem.F.plainAttrs_list PySem.F.slot_list_append PySem.F.type_list_append mt_append (pv 2) (pa_cons (pe_op op_add (pe_ix ix_list (pv 2) (pe_un un_neg (pe_int)) (fun _ _ => rfl)) (pe_ifExp (pt_cmpR op_ge (pv 3) (pv 0) (nomark _)) (pe_int) (pe_int))) (pa_nil))))))
 (pss_one (ps_ret (pe_callTy call_tuple_of (by rfl) T.n_tuple b_tuple (pa_cons (pv 2) (pa_nil)))))), ?_⟩)
  · obtain ⟨lv, a, ls, rfl, _⟩ := h; rfl
  obtain ⟨lv, a, ls, rfl, hS, hl, kk⟩ := h
  refine ⟨(by show 1 ≤ sizeLine; decide), fun d hd => ?_⟩
  refine ⟨_, rfl, a, rfl, ⟨_, (same_new hd).seq hS⟩, for_list (K := K) (a := a) (xs := ls.map V.int) (fun i σ H' => Same H H' ∧ H' d = some (.lst (cnL ls lv (i + 1))) ∧ ∃ z, σ = [some (.int lv), some (.ref a), some (.ref d), z]) ⟨same_new hd, upd_same, _, rfl⟩ (fun i σ H' _ h => h.1.seq hS) ?_ ?_⟩
  · rintro i x σ H1 hx ⟨s1, h1, z, rfl⟩
    obtain ⟨l, el, rfl⟩ := map_get hx
    have hi : i < ls.length := (List.getElem?_eq_some_iff.mp el).1
    refine ⟨_, rfl, .inl ⟨rfl, _, SqL.of h1⟩, _, rfl, _, rfl, _, _, _, _, rfl, rfl, SqL.of h1, (by rw [cnL_succ]; exact atI_last _ _), ?_⟩
    refine ⟨_, rfl, _, rfl, _, _, rfl, rfl, _, rfl, ?_⟩
    have fin : ∀ z1 : Int, cn ls lv (i + 1) = cn ls lv i + z1 → Same H (upd H1 d (.lst (cnL ls lv (i + 1) ++ [V.int (cn ls lv i + z1)]))) ∧ (upd H1 d (.lst (cnL ls lv (i + 1) ++ [V.int (cn ls lv i + z1)]))) d = some (.lst (cnL ls lv (i + 1 + 1))) := fun z1 e => by
      refine ⟨fun b o e1 => ?_, ?_⟩
      · rw [upd_ne (ne_of_none e1 hd)]; exact s1 _ _ e1
      · rw [upd_same, cnL_succ (n := i + 1), e]
    have e0 := cn_succ (lv := lv) el
    refine ite2 (fun c => ?_) (fun c => ?_)
    · have c := of_decide_eq_true c
      rw [if_pos c] at e0
      obtain ⟨f1, f2⟩ := fin 1 e0
      exact ⟨_, _, rfl, rfl, d, _, _, rfl, rfl, h1, by rw [cnL_length, sizeLine_eq]; omega, f1, f2, _, rfl⟩
    · have c : ¬ lv ≤ l := fun q => c (decide_eq_true q)
      rw [if_neg c] at e0
      obtain ⟨f1, f2⟩ := fin 0 e0
      exact ⟨_, _, rfl, rfl, d, _, _, rfl, rfl, h1, by rw [cnL_length, sizeLine_eq]; omega, f1, f2, _, rfl⟩
  · rintro σ H1 ⟨s1, h1, z, rfl⟩
    rw [List.length_map] at h1
    refine ⟨_, rfl, d, _, rfl, .inl ⟨SqL.of h1, fun t ht => ?_⟩⟩
    exact kk _ t (s1.new ht) (s1.free ht) upd_same
end
end LR

set_option Elab.async false
set_option maxRecDepth 100000
set_option linter.all false
set_option maxHeartbeats 4000000
namespace LR
open PySem PySem.Spec PyProof.Rows L2
section
variable {P : Program} {w : World} {K : PySem.W.Frag} {mg : Str → Option Value} {base : Heap} {ζ : Cs}
def spStep : Sp := fun vs H Q _ => ∃ (m u : Int), vs = [.int m, .int u] ∧ 0 ≤ u ∧ u ≤ m ∧ Q .non H
theorem ok_step (T : Txt P K mg ζ) : Cal P w K mg base 1 "check_step" spStep := by
  refine T.d_check_step.cal sc_check_step (fun vs H Q E h => ?_) (fun f cdv A outer s H vs Q E hr h => ⟨_, pss_one (ps_if (pt_not (pt_chain op_le op_le (pe_int) (pv 1) (pv 0) ))
 (pss_never)
 (pss_nil)), ?_⟩)
  · obtain ⟨m, u, rfl, _⟩ := h; rfl
  obtain ⟨m, u, rfl, u0, u1, kk⟩ := h
  refine ⟨_, rfl, _, _, rfl, rfl, _, rfl, ?_⟩
  refine ite2 (fun c => ?_) (fun c => absurd (decide_eq_true u0) c)
  refine ⟨_, rfl, _, _, rfl, rfl, _, rfl, ?_⟩
  refine ite2 (fun c => ?_) (fun _ => kk)
  rw [decide_eq_true u1] at c; cases c
end
end LR

set_option Elab.async false
set_option maxRecDepth 100000
set_option linter.all false
set_option maxHeartbeats 4000000
namespace LR
open PySem PySem.Spec PyProof.Rows L2
section
variable {P : Program} {w : World} {K : PySem.W.Frag} {mg : Str → Option Value} {base : Heap} {ζ : Cs}
def spRank : Sp := fun vs H Q _ => ∃ (h p : Int), vs = [.int h, .int p] ∧ 0 ≤ p ∧ p ≤ 2 * h ∧ Q .non H
theorem ok_rank (T : Txt P K mg ζ) : Cal P w K mg base 1 "check_rank" spRank := by
  refine T.d_check_rank.cal sc_check_rank (fun vs H Q E h => ?_) (fun f cdv A outer s H vs Q E hr h => ⟨_, pss_one (ps_if (pt_not (pt_chain op_le op_le (pe_int) (pv 1) (pe_op op_mul (pe_int) (pv 0)) ))
 (pss_never)
 (pss_nil)), ?_⟩)
  · obtain ⟨h, u, rfl, _⟩ := h; rfl
  obtain ⟨h, u, rfl, u0, u1, kk⟩ := h
  refine ⟨_, rfl, _, _, rfl, rfl, _, rfl, ?_⟩
  refine ite2 (fun c => ?_) (fun c => absurd (decide_eq_true u0) c)
  refine ⟨_, rfl, _, _, rfl, rfl, .inl ⟨by decide, by decide⟩, _, _, rfl, rfl, _, rfl, ?_⟩
  refine ite2 (fun c => ?_) (fun _ => kk)
  rw [decide_eq_true u1] at c; cases c
end
end LR

set_option Elab.async false
set_option maxRecDepth 100000
set_option linter.all false
set_option maxHeartbeats 4000000
namespace LR
open PySem PySem.Spec PyProof.Rows L2
section
variable {P : Program} {w : World} {K : PySem.W.Frag} {mg : Str → Option Value} {base : Heap} {ζ : Cs}
def spLets (C : Addr) : Sp := fun vs H Q _ => ∃ (x : Addr) (h : Int) (ls : List Int) (u p v : Int), vs = [.ref x, .int u, .int p, .int v] ∧ LadderAt C H x h ls ∧ (0 ≤ u ∧ u ≤ ls.length) ∧ (0 ≤ p ∧ p ≤ 2 * h) ∧ (0 ≤ v ∧ v ≤ ls.length) ∧ Q (.bl (alw ls u p v)) H
theorem ok_lets (T : Txt P K mg ζ) : Met P w K mg base 1 ζ.Ladder "_lets" (spLets ζ.Ladder) := by
  refine T.mt_Llets.met T.cl_Ladder sc_Llets (fun vs H Q E h => ?_) (fun f cdv A outer s H vs Q E hr h => ⟨_, pss_cons (ps_set (i := 4) sc_Llets.nd rfl (Or.inl rfl) (pe_ix ix_tup (pe_fld (pv 0) rfl) (pe_op op_fdiv (pv 2) (pe_int)) (fun _ _ => rfl)))
 (pss_cons (ps_if (pt_cmpR op_eq (pe_op op_mod (pv 2) (pe_int)) (pe_int) (nomark _))
 (pss_one (ps_ret (pe_cmpR op_ge (pe_ix ix_tup (pv 4) (pv 1) (fun _ _ => rfl)) (pe_ix ix_tup (pv 4) (pv 3) (fun _ _ => rfl)) (nomark _))))
 (pss_nil))
 (pss_one (ps_ret (pe_cmpR op_gt (pe_ix ix_tup (pv 4) (pv 1) (fun _ _ => rfl)) (pe_ix ix_tup (pv 4) (pv 3) (fun _ _ => rfl)) (nomark _))))), ?_⟩)
  · obtain ⟨x, h, ls, u, p, v, rfl, _⟩ := h; rfl
  obtain ⟨x, h, ls, u, p, v, rfl, ⟨dx, tl, tc, h1, h2, cs, h3, h4, h5⟩, ⟨u0, u1⟩, ⟨p0, p1⟩, ⟨v0, v1⟩, kk⟩ := h
  have hj : (p / 2).toNat < cs.length := by rw [h4]; omega
  have ej : ((p / 2).toNat : Int) = p / 2 := Int.toNat_of_nonneg (by omega)
  have hc := h5 _ _ (List.getElem?_eq_getElem hj)
  rw [ej] at hc
  refine ⟨_, rfl, x, ζ.Ladder, dx, _, _, rfl, h1, T.cl_Ladder, T.na_Ladder__counts, rfl, _, rfl, _, _, rfl, rfl, ⟨by decide, by decide⟩, tc, _, _, _, rfl, rfl, SqT.of h3, (by rw [← ej]; exact atI_nat (v := V.ref (cs[(p / 2).toNat])) (by rw [List.getElem?_map, List.getElem?_eq_getElem hj]; rfl)), ?_⟩
  have gu : atI (cnL ls (p / 2 + 1) (ls.length + 1)) u = some (V.int (cn ls (p / 2 + 1) u.toNat)) := by
    have := atI_nat (cnL_get (ls := ls) (lv := p / 2 + 1) (n := ls.length + 1) (i := u.toNat) (by omega))
    rwa [Int.toNat_of_nonneg u0] at this
  have gv : atI (cnL ls (p / 2 + 1) (ls.length + 1)) v = some (V.int (cn ls (p / 2 + 1) v.toNat)) := by
    have := atI_nat (cnL_get (ls := ls) (lv := p / 2 + 1) (n := ls.length + 1) (i := v.toNat) (by omega))
    rwa [Int.toNat_of_nonneg v0] at this
  refine ⟨_, rfl, _, _, rfl, rfl, (by show (0:Int) < _; decide), rfl, _, rfl, ?_⟩
  have em : decide (V.int (p % 2) = V.int 0) = decide (p % 2 = 0) := by simp
  refine ite2 (fun c => ?_) (fun c => ?_)
  · rw [em] at c
    have c := of_decide_eq_true c
    refine ⟨_, rfl, _, rfl, _, _, _, _, rfl, rfl, SqT.of hc, gu, _, rfl, _, rfl, _, _, _, _, rfl, rfl, SqT.of hc, gv, _, _, rfl, rfl, ?_⟩
    unfold alw at kk; rw [if_pos c] at kk; exact kk
  · rw [em] at c
    have c : ¬ p % 2 = 0 := fun q => c (decide_eq_true q)
    refine ⟨_, rfl, _, rfl, _, _, _, _, rfl, rfl, SqT.of hc, gu, _, rfl, _, rfl, _, _, _, _, rfl, rfl, SqT.of hc, gv, _, _, rfl, rfl, ?_⟩
    unfold alw at kk; rw [if_neg c] at kk; exact kk
end
end LR

set_option Elab.async false
set_option maxRecDepth 100000
set_option linter.all false
set_option maxHeartbeats 4000000
namespace LR
open PySem PySem.Spec PyProof.Rows L2
section
variable {P : Program} {w : World} {K : PySem.W.Frag} {mg : Str → Option Value} {base : Heap} {ζ : Cs}
theorem ok_allows (T : Txt P K mg ζ) : Met P w K mg base 2 ζ.Ladder "allows" (spLets ζ.Ladder) := by
  have c_check_step : Cal P w K mg base 1 "check_step" spStep := ok_step T
  have c_check_rank : Cal P w K mg base 1 "check_rank" spRank := ok_rank T
  have c_Llets : Met P w K mg base 1 ζ.Ladder "_lets" (spLets ζ.Ladder) := ok_lets T
  refine T.mt_L_allows.met T.cl_Ladder sc_L_allows (fun vs H Q E h => ?_) (fun f cdv A outer s H vs Q E hr h => ⟨_, pss_cons (ps_expr (pe_c c_check_step hr (by first | decide | omega) (by rfl) (pa_cons (pe_fld (pv 0) rfl) (pa_cons (pv 1) (pa_nil)))))
 (pss_cons (ps_expr (pe_c c_check_rank hr (by first | decide | omega) (by rfl) (pa_cons (pe_fld (pv 0) rfl) (pa_cons (pv 2) (pa_nil)))))
 (pss_cons (ps_expr (pe_c c_check_step hr (by first | decide | omega) (by rfl) (pa_cons (pe_fld (pv 0) rfl) (pa_cons (pv 3) (pa_nil)))))
 (pss_one (ps_ret (pe_mt c_Llets hr (by first | decide | omega) (pv 0) (pa_cons (pv 1) (pa_cons (pv 2) (pa_cons (pv 3) (pa_nil))))))))), ?_⟩)
  · obtain ⟨x, h, ls, u, p, v, rfl, _⟩ := h; rfl
  obtain ⟨x, h, ls, u, p, v, rfl, LA, ⟨u0, u1⟩, ⟨p0, p1⟩, ⟨v0, v1⟩, kk⟩ := h
  obtain ⟨dx, tl, tc, h1, _⟩ := id LA
  refine ⟨_, rfl, x, ζ.Ladder, dx, _, _, rfl, h1, T.cl_Ladder, T.na_Ladder_top, rfl, _, rfl, _, u, rfl, u0, u1, ?_⟩
  refine ⟨_, rfl, x, ζ.Ladder, dx, _, _, rfl, h1, T.cl_Ladder, T.na_Ladder_height, rfl, _, rfl, _, p, rfl, p0, p1, ?_⟩
  refine ⟨_, rfl, x, ζ.Ladder, dx, _, _, rfl, h1, T.cl_Ladder, T.na_Ladder_top, rfl, _, rfl, _, v, rfl, v0, v1, ?_⟩
  exact ⟨_, rfl, x, dx, _, rfl, h1, rfl, _, rfl, _, rfl, _, rfl, x, h, ls, u, p, v, rfl, LA, ⟨u0, u1⟩, ⟨p0, p1⟩, ⟨v0, v1⟩, kk⟩
end
end LR

set_option Elab.async false
set_option maxRecDepth 100000
set_option linter.all false
set_option maxHeartbeats 4000000
namespace LR
open PySem PySem.Spec PyProof.Rows L2
section
variable {P : Program} {w : World} {K : PySem.W.Frag} {mg : Str → Option Value} {base : Heap} {ζ : Cs}
def spInit (C : Addr) : Sp := fun vs H Q _ => ∃ (x a dx : Addr) (h : Int) (ls : List Int), vs = [.ref x, .int h, .ref a] ∧ H x = some (.ins C dx []) ∧ H a = some (.lst (ls.map V.int)) ∧ (h = 1 ∨ h = 2 ∨ h = 3) ∧ ls.length ≤ 24 ∧ (∀ l ∈ ls, 1 ≤ l ∧ l ≤ h) ∧ ∀ H', Keep x H H' → LadderAt C H' x h ls → Q .non H'
theorem ok_init (T : Txt P K mg ζ) : Mak P w K mg base 2 "Ladder" ζ.Ladder (spInit ζ.Ladder) := by
  have c_check_height : Cal P w K mg base 1 "check_height" spHeight := ok_height T
  have c_check_row : Cal P w K mg base 1 "check_row" (spRow K) := ok_row T
  have c__counts_from : Cal P w K mg base 1 "_counts_from" (spCounts K) := ok_counts T
  refine T.mk_Ladder.mak sc_L_init (fun vs H Q E h => ?_) (fun f cdv A outer s H vs Q E hr h => ⟨_, pss_cons (ps_expr (pe_c c_check_height hr (by first | decide | omega) (by rfl) (pa_cons (pv 1) (pa_nil))))
 (pss_cons (ps_expr (pe_c c_check_row hr (by first | decide | omega) (by rfl) (pa_cons (pv 1) (pa_cons (pv 2) (pa_cons (ClX.pe_cval (pe_glob (v := .ref ζ.Ladder) (by rfl) T.mg_Ladder rfl)) (pa_nil))))))
 (pss_cons (ps_fld (pv 0) (pv 1) rfl)
 (pss_cons (ps_fld (pv 0) (pe_callTy call_tuple_of (by rfl) T.n_tuple b_tuple (pa_cons (pv 2) (pa_nil))) rfl)
 (pss_cons (ps_fld (pv 0) (pe_callB call_len_seq (by rfl) T.n_len b_len (pa_cons (pv 2) (pa_nil))) rfl)
 (pss_one (ps_fld (pv 0) (pe_callTy call_tuple_of (by rfl) T.n_tuple b_tuple (pa_cons (pe_lc (own := [("level", 3)]) (g := gName 3) (tt := tYes)  rfl sc_L_init.nd (pi_range2 rfl T.n_range (pa_cons (pe_int) (pa_cons (pe_op op_add (pv 1) (pe_int)) (pa_nil)))) (blkOk_by (N := N_L_init) (sc := defScope s_L_init) (by decide +kernel)) (fun _ _ _ _ _ => pg_name (i := 3) sc_L_init.nd rfl (Or.inl rfl)) (fun _ _ _ _ _ => pts_nil) (fun _ _ _ _ _ => pe_c c__counts_from hr (by first | decide | omega) (by rfl) (pa_cons (pv 3) (pa_cons (pv 2) (pa_nil))))) (pa_nil))) rfl)))))), ?_⟩)
  · obtain ⟨x, a, dx, h, ls, rfl, _⟩ := h; rfl
  obtain ⟨x, a, dx, h, ls, rfl, hx, ha, hh, hl, hb, kk⟩ := h
  have nax : a ≠ x := ne_of ha hx (by intro z; cases z)
  obtain ⟨mc, u, cr, cv⟩ := T.cv_Ladder_MOST_LEVELS
  refine ⟨_, rfl, h, rfl, hh, fun H1 s1 => ?_⟩
  refine ⟨_, rfl, _, rfl, ζ.Ladder, mc, _, u, rfl, cr, cv, h, a, ls, 24, rfl, SqL.of (s1 _ _ ha), by omega, hb, fun H2 s2 => ?_⟩
  have k2 : Keep x H H2 := (s1.trans s2).keep
  refine ⟨_, rfl, _, rfl, x, ζ.Ladder, dx, _, rfl, s2 _ _ (s1 _ _ hx), T.cl_Ladder, T.na_Ladder_height, (by show 0 < 1000; decide), ?_⟩
  have k3 : Keep x H (upd H2 x (.ins ζ.Ladder dx (putF "height" (V.int h) []))) := k2.upd
  refine ⟨_, rfl, a, _, rfl, .inl ⟨SqL.of (k3 _ nax _ ha), fun tl htl => ?_⟩⟩
  have nxt : x ≠ tl := fun q => by rw [← q, upd_same] at htl; cases htl
  refine ⟨_, rfl, x, ζ.Ladder, dx, _, rfl, (upd_ne nxt).trans upd_same, T.cl_Ladder, T.na_Ladder_levels, (by show 1 < 1000; decide), ?_⟩
  have k4 := (k3.new htl (o := .tup (ls.map V.int))).upd (o := .ins ζ.Ladder dx (putF "levels" (V.ref tl) (putF "height" (V.int h) [])))
  refine ⟨_, rfl, a, _, rfl, .inl (SqL.of (k4 _ nax _ ha)), _, rfl, x, ζ.Ladder, dx, _, rfl, upd_same, T.cl_Ladder, T.na_Ladder_top, (by show 2 < 1000; decide), ?_⟩
  rw [upd_upd]
  have k5 := (k3.new htl (o := .tup (ls.map V.int))).upd (o := .ins ζ.Ladder dx (putF "top" (V.int ((ls.map V.int).length : Int)) (putF "levels" (V.ref tl) (putF "height" (V.int h) []))))
  generalize hH5 : upd (upd (upd H2 x (.ins ζ.Ladder dx (putF "height" (V.int h) []))) tl (.tup (ls.map V.int))) x (.ins ζ.Ladder dx (putF "top" (V.int ((ls.map V.int).length : Int)) (putF "levels" (V.ref tl) (putF "height" (V.int h) [])))) = H5 at k5 ⊢
  have hx5 : H5 x = some (.ins ζ.Ladder dx (putF "top" (V.int ((ls.map V.int).length : Int)) (putF "levels" (V.ref tl) (putF "height" (V.int h) [])))) := by rw [← hH5, upd_same]
  have ht5 : H5 tl = some (.tup (ls.map V.int)) := by rw [← hH5, upd_ne nxt.symm, upd_same]
  refine ⟨_, rfl, _, _, rfl, rfl, 1, _, rfl, ⟨by decide, by decide, by omega, by omega⟩, fun D hD => ?_⟩
  have nDx : D ≠ x := fun q => by rw [q, hx5] at hD; cases hD
  refine lc_range (lo := 1) (n := (h + 2 - 1).toNat) (fun i H' => Keep x H H' ∧ H' x = H5 x ∧ H' tl = H5 tl ∧ ∃ cs : List Addr, H' D = some (.lst (cs.map V.ref)) ∧ cs.length = i ∧ ∀ (j : Nat) (b : Addr), cs[j]? = some b → H' b = some (.tup (cnL ls (j + 1) (ls.length + 1)))) ?_ ?_ ?_
  · exact ⟨k5.new hD, upd_ne nDx.symm, upd_ne (ne_of_none ht5 hD), [], upd_same, rfl, fun j b e => by simp at e⟩
  · rintro i H6 hi ⟨k6, e1, e2, cs, h6, hc, hj⟩
    refine ⟨rfl, lc_yes (iteT ?_)⟩
    refine ⟨_, rfl, _, rfl, _, a, ls, rfl, SqL.of (k6 _ nax _ ha), by omega, fun H7 p s7 hp h7 => ?_⟩
    have nD : D ≠ p := ne_of_none h6 hp
    refine ⟨_, s7 _ _ h6, (by rw [List.length_map, hc, sizeLine_eq]; omega), ?_, ?_, ?_, cs ++ [p], ?_, by simp [hc], ?_⟩
    · intro b nb o e
      have := s7 _ _ (k6 b nb o e)
      rw [upd_ne (fun q => ?_)]
      · exact this
      · have hn : H D = none := by
          cases q2 : H D with
          | none => rfl
          | some o2 =>
            have := k5 D nDx o2 q2
            rw [hD] at this; cases this
        rw [q, hn] at e; cases e
    · rw [upd_ne nDx.symm, s7 x _ (e1.trans hx5), hx5]
    · rw [upd_ne (ne_of_none ht5 hD), s7 tl _ (e2.trans ht5), ht5]
    · rw [upd_same, List.map_append]; rfl
    · intro j b e
      rw [List.getElem?_append] at e
      split at e
      · rename_i hj2
        have h8 := s7 _ _ (hj j b e)
        rw [upd_ne (fun q => ?_)]
        · exact h8
        · rw [q, s7 _ _ h6] at h8; cases h8
      · rename_i hj2
        have ej : j = i := by
          have := (List.getElem?_eq_some_iff.mp e).1
          simp at this; omega
        subst ej
        rw [hc, Nat.sub_self] at e
        simp at e
        subst e
        rw [upd_ne nD.symm, h7, Int.add_comm]
  · rintro H6 ⟨k6, e1, e2, cs, h6, hc, hj⟩
    refine ⟨D, _, rfl, .inl ⟨SqL.of h6, fun tc htc => ?_⟩⟩
    have hx6 := e1.trans hx5
    have ht6 := e2.trans ht5
    have nx : x ≠ tc := ne_of_none hx6 htc
    refine ⟨_, rfl, x, ζ.Ladder, dx, _, rfl, (upd_ne nx).trans hx6, T.cl_Ladder, T.na_Ladder__counts, (by show 3 < 1000; decide), ?_⟩
    refine kk _ ((k6.new htc).upd) ⟨dx, tl, tc, ?_, ?_, cs, ?_, by rw [hc]; omega, fun j b e => ?_⟩
    · rw [upd_same, List.length_map]; rfl
    · rw [upd_ne nxt.symm, upd_ne (ne_of_none ht6 htc), ht6]
    · rw [upd_ne nx.symm, upd_same]
    · have h9 := hj j b e
      rw [upd_ne (ne_of h9 hx6 (by intro z; cases z)), upd_ne (ne_of_none h9 htc), h9]
end
end LR

set_option Elab.async false
set_option maxRecDepth 100000
set_option linter.all false
set_option maxHeartbeats 4000000
namespace LR
open PySem PySem.Spec PyProof.Rows L2
section
variable {P : Program} {w : World} {K : PySem.W.Frag} {mg : Str → Option Value} {base : Heap} {ζ : Cs}
def spLevels : Sp := fun vs H Q _ => ∃ (p : Addr) (h lim : Int), vs = [.ref p, .int h, .int lim] ∧ IsPool H p ∧ (1 ≤ h ∧ h ≤ 1000) ∧ (0 ≤ lim ∧ lim ≤ 1000) ∧
  ∀ (H' : Hp) (D : Addr) (ls : List Int), Keep p H H' → IsPool H' p → H D = none → H' D = some (.lst (ls.map V.int)) → (ls.length : Int) ≤ lim → (∀ l ∈ ls, 1 ≤ l ∧ l ≤ h) → Q (.ref D) H'
theorem ok_levels (T : Txt P K mg ζ) : Cal P w K mg base 2 "_law_levels" spLevels := by
  have c_draw : Cal P w K mg base 1 "_law_draw" spDraw := ok_draw T
  refine T.d_levels.cal sc_levels (fun vs H Q E h => ?_) (fun f cdv A outer s H vs Q E hr h => ⟨_, pss_cons (ps_set (i := 3) sc_levels.nd rfl (Or.inl rfl) (pe_c c_draw hr (by first | decide | omega) (by rfl) (pa_cons (pv 0) (pa_cons (pe_op op_add (pv 2) (pe_int)) (pa_nil)))))
 (pss_one (ps_ret (pe_lc (own := [("index", 4)]) (g := gName 4) (tt := tYes)  rfl sc_levels.nd (pi_range1 rfl T.n_range (pa_cons (pv 3) (pa_nil))) (blkOk_by (N := N_levels) (sc := defScope s_levels) (by decide +kernel)) (fun _ _ _ _ _ => pg_name (i := 4) sc_levels.nd rfl (Or.inl rfl)) (fun _ _ _ _ _ => pts_nil) (fun _ _ _ _ _ => pe_op op_add (pe_int) (pe_c c_draw hr (by first | decide | omega) (by rfl) (pa_cons (pv 0) (pa_cons (pv 1) (pa_nil)))))))), ?_⟩)
  · obtain ⟨p, h, lim, rfl, _⟩ := h; rfl
  obtain ⟨p, h, lim, rfl, hp, ⟨h0, h1⟩, ⟨l0, l1⟩, kk⟩ := h
  refine ⟨_, rfl, _, rfl, _, _, rfl, rfl, p, _, rfl, hp, by omega, by omega, fun n H1 n0 n1 k1 p1 => ?_⟩
  refine ⟨_, rfl, _, rfl, by omega, by omega, fun D hD => ?_⟩
  have nD := p1.free hD
  have hD0 := k1.free nD hD
  refine lc_range (lo := 0) (n := n.toNat) (fun i H' => Keep p H H' ∧ IsPool H' p ∧ ∃ ls : List Int, H' D = some (.lst (ls.map V.int)) ∧ ls.length = i ∧ ∀ l ∈ ls, 1 ≤ l ∧ l ≤ h) ?_ ?_ ?_
  · exact ⟨k1.new hD, p1.same (same_new hD), [], upd_same, rfl, fun l z => by cases z⟩
  · rintro i H2 hi ⟨k2, p2, ls, h2, hl, hb⟩
    refine ⟨rfl, lc_yes (iteT ?_)⟩
    refine ⟨_, rfl, _, rfl, p, h, rfl, p2, by omega, by omega, fun v H3 v0 v1 k3 p3 => ?_⟩
    have h3 := k3 _ nD _ h2
    refine ⟨_, _, rfl, rfl, _, h3, (by rw [List.length_map, hl, sizeLine_eq]; omega), ?_, ?_, ls ++ [1 + v], ?_, by simp [hl], ?_⟩
    · intro b nb o e
      rw [upd_ne (ne_of_none e hD0)]
      exact k3 b nb o (k2 b nb o e)
    · obtain ⟨x, y, z, t, p3⟩ := p3
      exact ⟨x, y, z, t, by rw [upd_ne nD.symm, p3]⟩
    · rw [upd_same, List.map_append]; rfl
    · intro l hl
      rcases List.mem_append.mp hl with q | q
      · exact hb l q
      · have : l = 1 + v := by simpa using q
        omega
  · rintro H2 ⟨k2, p2, ls, h2, hl, hb⟩
    exact kk H2 D ls k2 p2 hD0 h2 (by omega) hb
end
end LR

set_option Elab.async false
set_option maxRecDepth 100000
set_option linter.all false
set_option maxHeartbeats 4000000
namespace LR
open PySem PySem.Spec PyProof.Rows L2
section
variable {P : Program} {w : World} {K : PySem.W.Frag} {mg : Str → Option Value} {base : Heap} {ζ : Cs}
def spWild : Sp := fun vs H Q _ => ∃ (p : Addr) (f t : Int), vs = [.ref p, .int f, .int t] ∧ IsPool H p ∧ (-1000000 ≤ f ∧ f ≤ t ∧ t ≤ 1000000) ∧ ∀ (v : Int) (H' : Hp), -3000000 ≤ v → v ≤ 3000000 → Keep p H H' → IsPool H' p → Q (.int v) H'
theorem ok_wild (T : Txt P K mg ζ) : Cal P w K mg base 2 "_law_wild" spWild := by
  have c_draw : Cal P w K mg base 1 "_law_draw" spDraw := ok_draw T
  refine T.d_wild.cal sc_wild (fun vs H Q E h => ?_) (fun f cdv A outer s H vs Q E hr h => ⟨_, pss_cons (ps_set (i := 3) sc_wild.nd rfl (Or.inl rfl) (pe_op op_add (pv 1) (pe_c c_draw hr (by first | decide | omega) (by rfl) (pa_cons (pv 0) (pa_cons (pe_op op_add (pe_op op_sub (pv 2) (pv 1)) (pe_int)) (pa_nil))))))
 (pss_cons (ps_if (pt_cmpR op_gt (pe_c c_draw hr (by first | decide | omega) (by rfl) (pa_cons (pv 0) (pa_cons (pe_int) (pa_nil)))) (pe_int) (nomark _))
 (pss_one (ps_ret (pv 3)))
 (pss_nil))
 (pss_cons (ps_set (i := 4) sc_wild.nd rfl (Or.inl rfl) (pe_int))
 (pss_cut (ps_if (pt_cmpR op_eq (pe_c c_draw hr (by first | decide | omega) (by rfl) (pa_cons (pv 0) (pa_cons (pe_int) (pa_nil)))) (pe_int) (nomark _))
 (pss_one (ps_set (i := 4) sc_wild.nd rfl (Or.inl rfl) (pe_op op_add (pe_int) (pe_c c_draw hr (by first | decide | omega) (by rfl) (pa_cons (pv 0) (pa_cons (pe_int) (pa_nil)))))))
 (pss_nil))
 (pss_cut (ps_if (pt_cmpR op_eq (pe_c c_draw hr (by first | decide | omega) (by rfl) (pa_cons (pv 0) (pa_cons (pe_int) (pa_nil)))) (pe_int) (nomark _))
 (pss_one (ps_ret (pe_op op_sub (pv 1) (pv 4))))
 (pss_nil))
 (pss_one (ps_ret (pe_op op_add (pv 2) (pv 4)))))))), ?_⟩)
  · obtain ⟨p, f, t, rfl, _⟩ := h; rfl
  obtain ⟨p, lo, hi, rfl, hp, ⟨b1, b2, b3⟩, kk⟩ := h
  refine ⟨_, rfl, _, rfl, _, rfl, _, rfl, _, _, rfl, rfl, _, _, rfl, rfl, p, _, rfl, hp, by omega, by omega, fun v H1 v0 v1 k1 p1 => ⟨_, _, rfl, rfl, ?_⟩⟩
  refine ⟨_, rfl, p, 5, rfl, p1, by decide, by decide, fun d H2 d0 d1 k2 p2 => ⟨_, _, rfl, rfl, _, rfl, ite2 (fun _ => ?_) (fun _ => ?_)⟩⟩
  · exact ⟨_, rfl, kk _ _ (by omega) (by omega) (k1.trans k2) p2⟩
  refine ⟨fun σ' H' => Keep p H H' ∧ IsPool H' p ∧ ∃ far : Int, (1 ≤ far ∧ far ≤ 999000) ∧ σ' = [some (.ref p), some (.int lo), some (.int hi), some (.int (lo + v)), some (.int far)], ?_, ?_⟩
  · refine ⟨_, rfl, p, 2, rfl, p2, by decide, by decide, fun e H3 e0 e1 k3 p3 => ⟨rfl, _, rfl, ite2 (fun _ => ?_) (fun _ => ?_)⟩⟩
    · refine ⟨_, rfl, p, 999000, rfl, p3, by decide, by decide, fun g H4 g0 g1 k4 p4 => ⟨_, _, rfl, rfl, ?_⟩⟩
      exact ⟨((k1.trans k2).trans k3).trans k4, p4, _, ⟨by omega, by omega⟩, rfl⟩
    · exact ⟨(k1.trans k2).trans k3, p3, 1, ⟨by decide, by decide⟩, rfl⟩
  rintro σ' H3 ⟨k3, p3, far, hf, rfl⟩
  refine ⟨fun σ' H' => Keep p H H' ∧ IsPool H' p ∧ σ' = [some (.ref p), some (.int lo), some (.int hi), some (.int (lo + v)), some (.int far)], ?_, ?_⟩
  · refine ⟨_, rfl, p, 2, rfl, p3, by decide, by decide, fun e H4 e0 e1 k4 p4 => ⟨rfl, _, rfl, ite2 (fun _ => ?_) (fun _ => ?_)⟩⟩
    · exact ⟨_, rfl, _, rfl, _, _, rfl, rfl, kk _ _ (by omega) (by omega) (k3.trans k4) p4⟩
    · exact ⟨k3.trans k4, p4, rfl⟩
  rintro σ' H4 ⟨k4, p4, rfl⟩
  exact ⟨_, rfl, _, rfl, _, _, rfl, rfl, kk _ _ (by omega) (by omega) k4 p4⟩
end
end LR

set_option Elab.async false
set_option maxRecDepth 100000
set_option linter.all false
set_option maxHeartbeats 4000000
namespace LR
open PySem PySem.Spec PyProof.Rows L2
section
variable {P : Program} {w : World} {K : PySem.W.Frag} {mg : Str → Option Value} {base : Heap} {ζ : Cs}
def spLowest (K : PySem.W.Frag) : Sp := fun vs H Q _ => ∃ (a : Addr) (ls : List Int) (p w : Int), vs = [.ref a, .int p, .int w] ∧ SqL K H a (ls.map V.int) ∧ ls.length ≤ 1000 ∧ 0 ≤ p ∧ (0 ≤ w ∧ w ≤ ls.length) ∧ ∀ o, LeastIs ls p w o → Q (oV o) H
theorem ok_lowest (T : Txt P K mg ζ) : Cal P w K mg base 1 "_law_lowest" (spLowest K) := by
  refine T.d_lowest.cal sc_lowest (fun vs H Q E h => ?_) (fun f cdv A outer s H vs Q E hr h => ⟨_, pss_cons (ps_if (pt_cmpR op_eq (pe_op op_mod (pe_callTy call_int1 (by rfl) T.n_int b_int (pa_cons (pv 1) (pa_nil))) (pe_int)) (pe_int) (nomark _))
 (pss_cons (ps_set (i := 3) sc_lowest.nd rfl (Or.inl rfl) (pv 2))
 (pss_cons (ps_for PassesOwn.never rfl (pi_range1 rfl T.n_range (pa_cons (pv 2) (pa_nil))) (pg_name (i := 4) sc_lowest.nd rfl (Or.inl rfl))
 (pss_cons (ps_if (pt_cmpR op_gt (pe_op op_mul (pe_int) (pe_ix ix_list (pv 0) (pe_op op_sub (pv 3) (pe_int)) (fun _ _ => rfl))) (pv 1) (nomark _))
 (pss_one (ps_break))
 (pss_nil))
 (pss_one (ps_set (i := 3) sc_lowest.nd rfl (Or.inl rfl) (pe_op op_sub (pv 3) (pe_int))))))
 (pss_one (ps_ret (pv 3)))))
 (pss_nil))
 (pss_cons (ps_for PassesOwn.never rfl (pi_range2 rfl T.n_range (pa_cons (pv 2) (pa_cons (pe_callB call_len_seq (by rfl) T.n_len b_len (pa_cons (pv 0) (pa_nil))) (pa_nil)))) (pg_name (i := 5) sc_lowest.nd rfl (Or.inl rfl))
 (pss_one (ps_if (pt_cmpR op_gt (pe_op op_mul (pe_int) (pe_ix ix_list (pv 0) (pv 5) (fun _ _ => rfl))) (pv 1) (nomark _))
 (pss_one (ps_ret (pe_op op_add (pv 5) (pe_int))))
 (pss_nil))))
 (pss_one (ps_ret (pe_non)))), ?_⟩)
  · obtain ⟨a, ls, p, w, rfl, _⟩ := h; rfl
  obtain ⟨a, ls, p, w, rfl, hS, hl, p0, ⟨w0, w1⟩, kk⟩ := h
  have em : decide (V.int (p % 2) = V.int 0) = decide (p % 2 = 0) := by simp
  refine ⟨_, rfl, .inl ⟨_, rfl, _, _, rfl, rfl, (by show (0:Int) < _; decide), rfl, _, rfl, ?_⟩⟩
  rw [em]
  refine ite2 (fun c => ?_) (fun c => ?_)
  · have c := of_decide_eq_true c
    refine ⟨_, rfl, _, rfl, w, rfl, by omega, by omega, ?_⟩
    refine for_range (lo := 0) (n := w.toNat) (fun i σ H' => H = H' ∧ ∃ z4 z5 : Option V, σ = [some (.ref a), some (.int p), some (.int w), some (.int (w - i)), z4, z5] ∧ ∀ (m : Nat) (z : Int), w - i ≤ m → (m : Int) < w → ls[m]? = some z → z < p / 2 + 1)
      ⟨rfl, _, _, (by rw [show w - ((0 : Nat) : Int) = w by omega]; rfl), fun m z a b => by omega⟩ ?_ ?_
    · rintro i σ H' hi ⟨rfl, z4, z5, rfl, hz⟩
      have hlt : (w - i - 1).toNat < ls.length := by omega
      obtain ⟨z, ez⟩ : ∃ z, ls[(w - i - 1).toNat]? = some z := ⟨_, List.getElem?_eq_getElem hlt⟩
      have e1 : w - i - 1 = (((w - i - 1).toNat : Nat) : Int) := by omega
      refine ⟨_, rfl, _, rfl, _, _, rfl, rfl, a, _, _, _, rfl, rfl, hS, (by rw [e1]; exact atI_nat (get_map ez)), _, _, rfl, rfl, .inl ⟨by decide, by decide⟩, _, rfl, _, _, rfl, rfl, _, rfl, ?_⟩
      refine ite2 (fun c2 => ?_) (fun c2 => ?_)
      · have c2 := of_decide_eq_true c2
        refine ⟨_, rfl, ?_⟩
        have e2 : w - (i : Int) = (((w - i).toNat : Nat) : Int) := by omega
        refine (show Q (oV (some (w - (i : Int)))) H from kk _ ?_)
        rw [e2]
        refine least_found (by omega) ?_ fun j hj => ?_
        · rw [alw_lv (by omega) w0, if_pos c, ← e2]
          exact .inr hz
        · rw [Bool.eq_false_iff]
          intro q
          rw [alw_lv (by omega) w0, if_pos c] at q
          rcases q with q | q
          · omega
          · have := q _ z (by omega) (by omega) ez
            omega
      · have c2 : ¬ 2 * z > p := fun q => c2 (decide_eq_true q)
        refine ⟨_, rfl, _, _, rfl, rfl, rfl, some (.int (0 + (i : Int))), z5, ?_, fun m y a b e => ?_⟩
        · rw [show w - ((i + 1 : Nat) : Int) = w - (i : Int) - 1 by omega]; rfl
        · by_cases q : w - (i : Int) ≤ m
          · exact hz m y q b e
          · have : m = (w - i - 1).toNat := by omega
            subst this
            rw [ez] at e; cases e
            omega
    · rintro σ H' ⟨rfl, z4, z5, rfl, hz⟩
      have e2 : w - ((w.toNat : Nat) : Int) = ((0 : Nat) : Int) := by omega
      rw [e2] at hz ⊢
      refine ⟨_, rfl, ?_⟩
      refine (show Q (oV (some ((0 : Nat) : Int))) H from kk _ ?_)
      refine least_found (Nat.zero_le _) ?_ fun j hj => absurd hj (Nat.not_lt_zero _)
      rw [alw_lv (by omega) w0, if_pos c]
      exact .inr hz
  · have c : ¬ p % 2 = 0 := fun q => c (decide_eq_true q)
    refine ⟨_, rfl, _, rfl, a, _, rfl, .inl hS, w, _, rfl, ⟨by omega, by omega, by rw [List.length_map]; omega, by rw [List.length_map]; omega⟩, ?_⟩
    have en : ((((ls.map V.int).length : Nat) : Int) - w).toNat = ls.length - w.toNat := by rw [List.length_map]; omega
    rw [en]
    refine for_range (lo := w) (n := ls.length - w.toNat) (fun i σ H' => H = H' ∧ (∃ z3 z4 z5 : Option V, σ = [some (.ref a), some (.int p), some (.int w), z3, z4, z5]) ∧ ∀ (m : Nat) (z : Int), w ≤ m → (m : Int) < w + i → ls[m]? = some z → z < p / 2 + 1)
      ⟨rfl, ⟨_, _, _, rfl⟩, fun m z a b => by omega⟩ ?_ ?_
    · rintro i σ H' hi ⟨rfl, ⟨z3, z4, z5, rfl⟩, hz⟩
      obtain ⟨z, ez⟩ : ∃ z, ls[w.toNat + i]? = some z := ⟨_, List.getElem?_eq_getElem (by omega)⟩
      have e1 : w + (i : Int) = ((w.toNat + i : Nat) : Int) := by omega
      refine ⟨_, rfl, _, rfl, a, _, _, _, rfl, rfl, hS, (by rw [e1]; exact atI_nat (get_map ez)), _, _, rfl, rfl, .inl ⟨by decide, by decide⟩, _, rfl, _, _, rfl, rfl, _, rfl, ?_⟩
      refine ite2 (fun c2 => ?_) (fun c2 => ?_)
      · have c2 := of_decide_eq_true c2
        refine ⟨_, rfl, _, _, rfl, rfl, ?_⟩
        have e2 : w + (i : Int) + 1 = ((w.toNat + i + 1 : Nat) : Int) := by omega
        refine (show Q (oV (some (w + (i : Int) + 1))) H from kk _ ?_)
        rw [e2]
        refine least_found (by omega) ?_ fun j hj => ?_
        · rw [alw_lv (by omega) w0, if_neg c]
          exact ⟨by omega, _, z, by omega, by omega, ez, by omega⟩
        · rw [Bool.eq_false_iff]
          intro q
          rw [alw_lv (by omega) w0, if_neg c] at q
          obtain ⟨_, m, y, q1, q2, q3, q4⟩ := q
          have := hz m y q1 (by omega) q3
          omega
      · have c2 : ¬ 2 * z > p := fun q => c2 (decide_eq_true q)
        refine ⟨rfl, ⟨_, _, _, rfl⟩, fun m y a b e => ?_⟩
        by_cases q : (m : Int) < w + i
        · exact hz m y a q e
        · have : m = w.toNat + i := by omega
          subst this
          rw [ez] at e; cases e
          omega
    · rintro σ H' ⟨rfl, ⟨z3, z4, z5, rfl⟩, hz⟩
      refine (show Q (oV none) H from kk _ (least_none fun j hj => ?_))
      rw [Bool.eq_false_iff]
      intro q
      rw [alw_lv (by omega) w0, if_neg c] at q
      obtain ⟨_, m, y, q1, q2, q3, q4⟩ := q
      have := hz m y q1 (by omega) q3
      omega
end
end LR

set_option Elab.async false
set_option maxRecDepth 100000
set_option linter.all false
set_option maxHeartbeats 4000000
namespace LR
open PySem PySem.Spec PyProof.Rows L2
section
variable {P : Program} {w : World} {K : PySem.W.Frag} {mg : Str → Option Value} {base : Heap} {ζ : Cs}
def spHighest (K : PySem.W.Frag) : Sp := fun vs H Q _ => ∃ (a : Addr) (ls : List Int) (u p : Int), vs = [.ref a, .int u, .int p] ∧ SqL K H a (ls.map V.int) ∧ ls.length ≤ 1000 ∧ 0 ≤ p ∧ (0 ≤ u ∧ u ≤ ls.length) ∧ ∀ o, GreatestIs ls u p o → Q (oV o) H
theorem ok_highest (T : Txt P K mg ζ) : Cal P w K mg base 1 "_law_highest" (spHighest K) := by
  refine T.d_highest.cal sc_highest (fun vs H Q E h => ?_) (fun f cdv A outer s H vs Q E hr h => ⟨_, pss_cons (ps_if (pt_cmpR op_eq (pe_op op_mod (pe_callTy call_int1 (by rfl) T.n_int b_int (pa_cons (pv 2) (pa_nil))) (pe_int)) (pe_int) (nomark _))
 (pss_cons (ps_set (i := 3) sc_highest.nd rfl (Or.inl rfl) (pv 1))
 (pss_cons (ps_for PassesOwn.never rfl (pi_range2 rfl T.n_range (pa_cons (pv 1) (pa_cons (pe_callB call_len_seq (by rfl) T.n_len b_len (pa_cons (pv 0) (pa_nil))) (pa_nil)))) (pg_name (i := 4) sc_highest.nd rfl (Or.inl rfl))
 (pss_cons (ps_if (pt_cmpR op_gt (pe_op op_mul (pe_int) (pe_ix ix_list (pv 0) (pv 4) (fun _ _ => rfl))) (pv 2) (nomark _))
 (pss_one (ps_break))
 (pss_nil))
 (pss_one (ps_set (i := 3) sc_highest.nd rfl (Or.inl rfl) (pe_op op_add (pv 4) (pe_int))))))
 (pss_one (ps_ret (pv 3)))))
 (pss_nil))
 (pss_cons (ps_for PassesOwn.never rfl (pi_range1 rfl T.n_range (pa_cons (pv 1) (pa_nil))) (pg_name (i := 5) sc_highest.nd rfl (Or.inl rfl))
 (pss_one (ps_if (pt_cmpR op_gt (pe_op op_mul (pe_int) (pe_ix ix_list (pv 0) (pe_op op_sub (pe_op op_sub (pv 1) (pe_int)) (pv 5)) (fun _ _ => rfl))) (pv 2) (nomark _))
 (pss_one (ps_ret (pe_op op_sub (pe_op op_sub (pv 1) (pe_int)) (pv 5))))
 (pss_nil))))
 (pss_one (ps_ret (pe_non)))), ?_⟩)
  · obtain ⟨a, ls, p, w, rfl, _⟩ := h; rfl
  obtain ⟨a, ls, u, p, rfl, hS, hl, p0, ⟨u0, u1⟩, kk⟩ := h
  have em : decide (V.int (p % 2) = V.int 0) = decide (p % 2 = 0) := by simp
  refine ⟨_, rfl, .inl ⟨_, rfl, _, _, rfl, rfl, (by show (0:Int) < _; decide), rfl, _, rfl, ?_⟩⟩
  rw [em]
  refine ite2 (fun c => ?_) (fun c => ?_)
  · have c := of_decide_eq_true c
    refine ⟨_, rfl, _, rfl, _, rfl, a, _, rfl, .inl hS, u, _, rfl, ⟨by omega, by omega, by rw [List.length_map]; omega, by rw [List.length_map]; omega⟩, ?_⟩
    have en : ((((ls.map V.int).length : Nat) : Int) - u).toNat = ls.length - u.toNat := by rw [List.length_map]; omega
    rw [en]
    refine for_range (lo := u) (n := ls.length - u.toNat) (fun i σ H' => H = H' ∧ ∃ z4 z5 : Option V, σ = [some (.ref a), some (.int u), some (.int p), some (.int (u + i)), z4, z5] ∧ ∀ (m : Nat) (z : Int), u ≤ m → (m : Int) < u + i → ls[m]? = some z → z < p / 2 + 1)
      ⟨rfl, _, _, (by rw [show u + ((0 : Nat) : Int) = u by omega]; rfl), fun m z a b => by omega⟩ ?_ ?_
    · rintro i σ H' hi ⟨rfl, z4, z5, rfl, hz⟩
      obtain ⟨z, ez⟩ : ∃ z, ls[u.toNat + i]? = some z := ⟨_, List.getElem?_eq_getElem (by omega)⟩
      have e1 : u + (i : Int) = ((u.toNat + i : Nat) : Int) := by omega
      refine ⟨_, rfl, _, rfl, a, _, _, _, rfl, rfl, hS, (by rw [e1]; exact atI_nat (get_map ez)), _, _, rfl, rfl, .inl ⟨by decide, by decide⟩, _, rfl, _, _, rfl, rfl, _, rfl, ?_⟩
      refine ite2 (fun c2 => ?_) (fun c2 => ?_)
      · have c2 := of_decide_eq_true c2
        refine ⟨_, rfl, ?_⟩
        refine (show Q (oV (some (u + (i : Int)))) H from kk _ ?_)
        rw [e1]
        refine greatest_found (by omega) ?_ fun j hj hj2 => ?_
        · rw [alw_lv u0 (by omega), if_pos c, ← e1]
          exact .inr hz
        · rw [Bool.eq_false_iff]
          intro q
          rw [alw_lv u0 (by omega), if_pos c] at q
          rcases q with q | q
          · omega
          · have := q _ z (by omega) (by omega) ez
            omega
      · have c2 : ¬ 2 * z > p := fun q => c2 (decide_eq_true q)
        refine ⟨_, rfl, _, _, rfl, rfl, rfl, some (.int (u + (i : Int))), z5, ?_, fun m y a b e => ?_⟩
        · rw [show u + ((i + 1 : Nat) : Int) = u + (i : Int) + 1 by omega]; rfl
        · by_cases q : (m : Int) < u + i
          · exact hz m y a q e
          · have : m = u.toNat + i := by omega
            subst this
            rw [ez] at e; cases e
            omega
    · rintro σ H' ⟨rfl, z4, z5, rfl, hz⟩
      have e2 : u + ((ls.length - u.toNat : Nat) : Int) = ((ls.length : Nat) : Int) := by omega
      rw [e2] at hz ⊢
      refine ⟨_, rfl, ?_⟩
      refine (show Q (oV (some ((ls.length : Nat) : Int))) H from kk _ ?_)
      refine greatest_found (Nat.le_refl _) ?_ fun j hj hj2 => absurd hj2 (by omega)
      rw [alw_lv u0 (by omega), if_pos c]
      exact .inr hz
  · have c : ¬ p % 2 = 0 := fun q => c (decide_eq_true q)
    refine ⟨_, rfl, u, rfl, by omega, by omega, ?_⟩
    refine for_range (lo := 0) (n := u.toNat) (fun i σ H' => H = H' ∧ (∃ z3 z4 z5 : Option V, σ = [some (.ref a), some (.int u), some (.int p), z3, z4, z5]) ∧ ∀ (m : Nat) (z : Int), u - i ≤ m → (m : Int) < u → ls[m]? = some z → z < p / 2 + 1)
      ⟨rfl, ⟨_, _, _, rfl⟩, fun m z a b => by omega⟩ ?_ ?_
    · rintro i σ H' hi ⟨rfl, ⟨z3, z4, z5, rfl⟩, hz⟩
      obtain ⟨z, ez⟩ : ∃ z, ls[u.toNat - 1 - i]? = some z := ⟨_, List.getElem?_eq_getElem (by omega)⟩
      have e1 : u - 1 - (0 + (i : Int)) = ((u.toNat - 1 - i : Nat) : Int) := by omega
      refine ⟨_, rfl, _, rfl, _, _, rfl, rfl, _, rfl, _, _, rfl, rfl, a, _, _, _, rfl, rfl, hS, (by rw [e1]; exact atI_nat (get_map ez)), _, _, rfl, rfl, .inl ⟨by decide, by decide⟩, _, rfl, _, _, rfl, rfl, _, rfl, ?_⟩
      refine ite2 (fun c2 => ?_) (fun c2 => ?_)
      · have c2 := of_decide_eq_true c2
        refine ⟨_, rfl, _, _, rfl, rfl, _, rfl, _, _, rfl, rfl, ?_⟩
        refine (show Q (oV (some (u - 1 - (0 + (i : Int))))) H from kk _ ?_)
        rw [e1]
        refine greatest_found (by omega) ?_ fun j hj hj2 => ?_
        · rw [alw_lv u0 (by omega), if_neg c]
          exact ⟨by omega, _, z, by omega, by omega, ez, by omega⟩
        · rw [Bool.eq_false_iff]
          intro q
          rw [alw_lv u0 (by omega), if_neg c] at q
          obtain ⟨_, m, y, q1, q2, q3, q4⟩ := q
          have := hz m y (by omega) q2 q3
          omega
      · have c2 : ¬ 2 * z > p := fun q => c2 (decide_eq_true q)
        refine ⟨rfl, ⟨_, _, _, rfl⟩, fun m y a b e => ?_⟩
        by_cases q : u - (i : Int) ≤ m
        · exact hz m y q b e
        · have : m = u.toNat - 1 - i := by omega
          subst this
          rw [ez] at e; cases e
          omega
    · rintro σ H' ⟨rfl, ⟨z3, z4, z5, rfl⟩, hz⟩
      refine (show Q (oV none) H from kk _ (greatest_none fun j hj => ?_))
      rw [Bool.eq_false_iff]
      intro q
      rw [alw_lv u0 (by omega), if_neg c] at q
      obtain ⟨_, m, y, q1, q2, q3, q4⟩ := q
      have := hz m y (by omega) q2 q3
      omega
end
end LR

set_option Elab.async false
set_option maxRecDepth 100000
set_option linter.all false
set_option maxHeartbeats 4000000
namespace LR
open PySem PySem.Spec PyProof.Rows L2
section
variable {P : Program} {w : World} {K : PySem.W.Frag} {mg : Str → Option Value} {base : Heap} {ζ : Cs}
/-- the error of a step that does not exist -/
def eStep (C : Addr) (u : Int) (E : XK) (H : Hp) : Prop := ∀ d, H d = none → E (.ref C) (some d) (upd H d (.xd [("step", .int u)]))
def eRank (C : Addr) (u : Int) (E : XK) (H : Hp) : Prop := ∀ d, H d = none → E (.ref C) (some d) (upd H d (.xd [("rank", .int u)]))
def spStepX (D : Addr) : Sp := fun vs H Q E => ∃ (m u : Int), vs = [.int m, .int u] ∧ u.natAbs < 2 ^ 1900 ∧ (0 ≤ u ∧ u ≤ m → Q .non H) ∧ (¬ (0 ≤ u ∧ u ≤ m) → eStep D u E H)
theorem ok_stepX (T : Txt P K mg ζ) : CalX P w K mg base 3 "check_step" (spStepX ζ.NoSuchStep) := by
  have e_NoSuchStep : ErrOk P w K mg base "NoSuchStep" ζ.NoSuchStep "step" := err_NoSuchStep T
  refine T.d_check_step.calX sc_check_step (fun vs H Q E h => ?_) (fun f cdv A outer s H vs Q E hr h => ⟨_, pss_one (ps_if (pt_not (pt_chain op_le op_le (pe_int) (pv 1) (pv 0) ))
 (pss_one (ps_raise rfl (takes_of rfl rfl rfl rfl) (pmk_err e_NoSuchStep hr (by first | decide | omega) (pa_cons (pv 1) (pa_nil)) rfl)))
 (pss_nil)), ?_⟩)
  · obtain ⟨m, u, rfl, _⟩ := h; rfl
  obtain ⟨m, u, rfl, hu, good, bad⟩ := h
  refine ⟨_, rfl, _, _, rfl, rfl, _, rfl, ?_⟩
  refine ite2 (fun c => ?_) (fun c => ?_)
  · have c := of_decide_eq_true c
    refine ⟨_, rfl, _, _, rfl, rfl, _, rfl, ?_⟩
    refine ite_b (fun c2 => ?_) (fun c2 => ?_)
    · have c2 : ¬ u ≤ m := fun q => by rw [decide_eq_true q] at c2; cases c2
      exact ⟨_, rfl, mkE hu fun d hd => bad (fun q => c2 q.2) d hd⟩
    · have c2 : u ≤ m := by
        by_cases q : u ≤ m
        · exact q
        · rw [decide_eq_false q] at c2; cases c2
      exact good ⟨c, c2⟩
  · have c : ¬ 0 ≤ u := fun q => c (decide_eq_true q)
    exact ⟨_, rfl, iteT ⟨_, rfl, mkE hu fun d hd => bad (fun q => c q.1) d hd⟩⟩
def spRankX (D : Addr) : Sp := fun vs H Q E => ∃ (h u : Int), vs = [.int h, .int u] ∧ u.natAbs < 2 ^ 1900 ∧ (0 ≤ u ∧ u ≤ 2 * h → Q .non H) ∧ (¬ (0 ≤ u ∧ u ≤ 2 * h) → eRank D u E H)
theorem ok_rankX (T : Txt P K mg ζ) : CalX P w K mg base 3 "check_rank" (spRankX ζ.NoSuchRank) := by
  have e_NoSuchRank : ErrOk P w K mg base "NoSuchRank" ζ.NoSuchRank "rank" := err_NoSuchRank T
  refine T.d_check_rank.calX sc_check_rank (fun vs H Q E h => ?_) (fun f cdv A outer s H vs Q E hr h => ⟨_, pss_one (ps_if (pt_not (pt_chain op_le op_le (pe_int) (pv 1) (pe_op op_mul (pe_int) (pv 0)) ))
 (pss_one (ps_raise rfl (takes_of rfl rfl rfl rfl) (pmk_err e_NoSuchRank hr (by first | decide | omega) (pa_cons (pv 1) (pa_nil)) rfl)))
 (pss_nil)), ?_⟩)
  · obtain ⟨h, u, rfl, _⟩ := h; rfl
  obtain ⟨h, u, rfl, hu, good, bad⟩ := h
  refine ⟨_, rfl, _, _, rfl, rfl, _, rfl, ?_⟩
  refine ite2 (fun c => ?_) (fun c => ?_)
  · have c := of_decide_eq_true c
    refine ⟨_, rfl, _, _, rfl, rfl, .inl ⟨by decide, by decide⟩, _, _, rfl, rfl, _, rfl, ?_⟩
    refine ite_b (fun c2 => ?_) (fun c2 => ?_)
    · have c2 : ¬ u ≤ 2 * h := fun q => by rw [decide_eq_true q] at c2; cases c2
      exact ⟨_, rfl, mkE hu fun d hd => bad (fun q => c2 q.2) d hd⟩
    · have c2 : u ≤ 2 * h := by
        by_cases q : u ≤ 2 * h
        · exact q
        · rw [decide_eq_false q] at c2; cases c2
      exact good ⟨c, c2⟩
  · have c : ¬ 0 ≤ u := fun q => c (decide_eq_true q)
    exact ⟨_, rfl, iteT ⟨_, rfl, mkE hu fun d hd => bad (fun q => c q.1) d hd⟩⟩
end
end LR

set_option Elab.async false
set_option maxRecDepth 100000
set_option linter.all false
set_option maxHeartbeats 4000000
namespace LR
open PySem PySem.Spec PyProof.Rows L2
section
variable {P : Program} {w : World} {K : PySem.W.Frag} {mg : Str → Option Value} {base : Heap} {ζ : Cs}
def spLeastX (C DS DR : Addr) : Sp := fun vs H Q E => ∃ (x : Addr) (h : Int) (ls : List Int) (p w : Int), vs = [.ref x, .int p, .int w] ∧ LadderAt C H x h ls ∧ ls.length ≤ 1000 ∧ p.natAbs < 2 ^ 1900 ∧ w.natAbs < 2 ^ 1900 ∧
  (¬ (0 ≤ p ∧ p ≤ 2 * h) → eRank DR p E H) ∧ (0 ≤ p ∧ p ≤ 2 * h → ¬ (0 ≤ w ∧ w ≤ ls.length) → eStep DS w E H) ∧ (0 ≤ p ∧ p ≤ 2 * h → 0 ≤ w ∧ w ≤ ls.length → ∀ o, LeastIs ls p w o → Q (oV o) H)
theorem ok_leastX (T : Txt P K mg ζ) : MetX P w K mg base 4 ζ.Ladder "least" (spLeastX ζ.Ladder ζ.NoSuchStep ζ.NoSuchRank) := by
  have cx_check_step : CalX P w K mg base 3 "check_step" (spStepX ζ.NoSuchStep) := ok_stepX T
  have cx_check_rank : CalX P w K mg base 3 "check_rank" (spRankX ζ.NoSuchRank) := ok_rankX T
  have c_Llets : Met P w K mg base 1 ζ.Ladder "_lets" (spLets ζ.Ladder) := ok_lets T
  refine T.mt_L_least.metX T.cl_Ladder sc_L_least (fun vs H Q E h => ?_) (fun f cdv A outer s H vs Q E hr h => ⟨_, pss_cons (ps_expr (pe_cT cx_check_rank hr (by first | decide | omega) (takes_of rfl rfl rfl rfl) (by rfl) (pa_cons (pe_fld (pv 0) rfl) (pa_cons (pv 1) (pa_nil)))))
 (pss_cons (ps_expr (pe_cT cx_check_step hr (by first | decide | omega) (takes_of rfl rfl rfl rfl) (by rfl) (pa_cons (pe_fld (pv 0) rfl) (pa_cons (pv 2) (pa_nil)))))
 (PSs.nox (pss_cons (ps_for PassesOwn.never rfl (pi_range1 rfl T.n_range (pa_cons (pe_op op_add (pe_fld (pv 0) rfl) (pe_int)) (pa_nil))) (pg_name (i := 3) sc_L_least.nd rfl (Or.inl rfl))
 (pss_one (ps_if (pt_val (pe_mt c_Llets hr (by first | decide | omega) (pv 0) (pa_cons (pv 3) (pa_cons (pv 1) (pa_cons (pv 2) (pa_nil))))))
 (pss_one (ps_ret (pv 3)))
 (pss_nil))))
 (pss_one (ps_ret (pe_non)))))), ?_⟩)
  · obtain ⟨x, h, ls, p, w, rfl, _⟩ := h; rfl
  obtain ⟨x, h, ls, p, w, rfl, LA, hl, hp, hw, bad1, bad2, good⟩ := h
  obtain ⟨dx, tl, tc, h1, h2⟩ := id LA
  refine ⟨_, rfl, x, ζ.Ladder, dx, _, _, rfl, h1, T.cl_Ladder, T.na_Ladder_height, rfl, _, rfl, _, p, rfl, hp, fun bp => ?_, bad1⟩
  refine ⟨_, rfl, x, ζ.Ladder, dx, _, _, rfl, h1, T.cl_Ladder, T.na_Ladder_top, rfl, _, rfl, _, w, rfl, hw, fun bw => ?_, bad2 bp⟩
  refine ⟨_, rfl, x, ζ.Ladder, dx, _, _, rfl, h1, T.cl_Ladder, T.na_Ladder_top, rfl, _, _, rfl, rfl, _, rfl, by omega, by omega, ?_⟩
  have en : ((ls.length : Int) + 1).toNat = ls.length + 1 := by omega
  rw [en]
  refine for_range (lo := 0) (n := ls.length + 1) (fun i σ H' => H = H' ∧ (∃ z : Option V, σ = [some (.ref x), some (.int p), some (.int w), z]) ∧ ∀ j : Nat, j < i → alw ls j p w = false) ⟨rfl, ⟨_, rfl⟩, fun j hj => absurd hj (Nat.not_lt_zero _)⟩ ?_ ?_
  · rintro i σ H' hi ⟨rfl, ⟨z, rfl⟩, hn⟩
    have e0 : (0 : Int) + (i : Int) = (i : Int) := by omega
    refine ⟨_, rfl, x, dx, _, rfl, h1, rfl, _, rfl, _, rfl, _, rfl, x, h, ls, _, p, w, rfl, LA, ⟨by omega, by omega⟩, bp, bw, _, rfl, ?_⟩
    rw [e0]
    refine ite_b (fun c => ?_) (fun c => ?_)
    · exact ⟨_, rfl, (show Q (oV (some (i : Int))) H from good bp bw _ (least_found (by omega) c hn))⟩
    · refine ⟨rfl, ⟨_, rfl⟩, fun j hj => ?_⟩
      by_cases q : j < i
      · exact hn j q
      · have : j = i := by omega
        subst this; exact c
  · rintro σ H' ⟨rfl, ⟨z, rfl⟩, hn⟩
    exact (show Q (oV none) H from good bp bw _ (least_none fun j hj => hn j (by omega)))
def spGreatestX (C DS DR : Addr) : Sp := fun vs H Q E => ∃ (x : Addr) (h : Int) (ls : List Int) (u p : Int), vs = [.ref x, .int u, .int p] ∧ LadderAt C H x h ls ∧ ls.length ≤ 1000 ∧ u.natAbs < 2 ^ 1900 ∧ p.natAbs < 2 ^ 1900 ∧
  (¬ (0 ≤ u ∧ u ≤ ls.length) → eStep DS u E H) ∧ (0 ≤ u ∧ u ≤ ls.length → ¬ (0 ≤ p ∧ p ≤ 2 * h) → eRank DR p E H) ∧ (0 ≤ u ∧ u ≤ ls.length → 0 ≤ p ∧ p ≤ 2 * h → ∀ o, GreatestIs ls u p o → Q (oV o) H)
theorem ok_greatestX (T : Txt P K mg ζ) : MetX P w K mg base 4 ζ.Ladder "greatest" (spGreatestX ζ.Ladder ζ.NoSuchStep ζ.NoSuchRank) := by
  have cx_check_step : CalX P w K mg base 3 "check_step" (spStepX ζ.NoSuchStep) := ok_stepX T
  have cx_check_rank : CalX P w K mg base 3 "check_rank" (spRankX ζ.NoSuchRank) := ok_rankX T
  have c_Llets : Met P w K mg base 1 ζ.Ladder "_lets" (spLets ζ.Ladder) := ok_lets T
  refine T.mt_L_greatest.metX T.cl_Ladder sc_L_greatest (fun vs H Q E h => ?_) (fun f cdv A outer s H vs Q E hr h => ⟨_, pss_cons (ps_expr (pe_cT cx_check_step hr (by first | decide | omega) (takes_of rfl rfl rfl rfl) (by rfl) (pa_cons (pe_fld (pv 0) rfl) (pa_cons (pv 1) (pa_nil)))))
 (pss_cons (ps_expr (pe_cT cx_check_rank hr (by first | decide | omega) (takes_of rfl rfl rfl rfl) (by rfl) (pa_cons (pe_fld (pv 0) rfl) (pa_cons (pv 2) (pa_nil)))))
 (PSs.nox (pss_cons (ps_for PassesOwn.never rfl (pi_revR rfl T.n_reversed (prg_1 rfl T.n_range (pe_op op_add (pe_fld (pv 0) rfl) (pe_int)))) (pg_name (i := 3) sc_L_greatest.nd rfl (Or.inl rfl))
 (pss_one (ps_if (pt_val (pe_mt c_Llets hr (by first | decide | omega) (pv 0) (pa_cons (pv 1) (pa_cons (pv 2) (pa_cons (pv 3) (pa_nil))))))
 (pss_one (ps_ret (pv 3)))
 (pss_nil))))
 (pss_one (ps_ret (pe_non)))))), ?_⟩)
  · obtain ⟨x, h, ls, u, p, rfl, _⟩ := h; rfl
  obtain ⟨x, h, ls, u, p, rfl, LA, hl, hu, hp, bad1, bad2, good⟩ := h
  obtain ⟨dx, tl, tc, h1, h2⟩ := id LA
  refine ⟨_, rfl, x, ζ.Ladder, dx, _, _, rfl, h1, T.cl_Ladder, T.na_Ladder_top, rfl, _, rfl, _, u, rfl, hu, fun bu => ?_, bad1⟩
  refine ⟨_, rfl, x, ζ.Ladder, dx, _, _, rfl, h1, T.cl_Ladder, T.na_Ladder_height, rfl, _, rfl, _, p, rfl, hp, fun bp => ?_, bad2 bu⟩
  refine ⟨_, rfl, x, ζ.Ladder, dx, _, _, rfl, h1, T.cl_Ladder, T.na_Ladder_top, rfl, _, _, rfl, rfl, _, rfl, by decide, by decide, by omega, by omega, ?_⟩
  have en : ((ls.length : Int) + 1 - 0).toNat = ls.length + 1 := by omega
  rw [en]
  refine for_rangeC (lo := (0 : Int) + ((ls.length + 1 : Nat) : Int) - 1) (c := -1) (n := ls.length + 1) (fun i σ H' => H = H' ∧ (∃ z : Option V, σ = [some (.ref x), some (.int u), some (.int p), z]) ∧ ∀ j : Nat, ls.length < j + i → j ≤ ls.length → alw ls u p j = false) ⟨rfl, ⟨_, rfl⟩, fun j hj hj2 => by omega⟩ ?_ ?_
  · rintro i σ H' hi ⟨rfl, ⟨z, rfl⟩, hn⟩
    have e0 : (0 : Int) + ((ls.length + 1 : Nat) : Int) - 1 + ((i : Nat) : Int) * (-1) = ((ls.length - i : Nat) : Int) := by omega
    rw [e0]
    refine ⟨_, rfl, x, dx, _, rfl, h1, rfl, _, rfl, _, rfl, _, rfl, x, h, ls, u, p, _, rfl, LA, bu, bp, ⟨by omega, by omega⟩, _, rfl, ?_⟩
    refine ite_b (fun c => ?_) (fun c => ?_)
    · exact ⟨_, rfl, (show Q (oV (some ((ls.length - i : Nat) : Int))) H from good bu bp _ (greatest_found (by omega) c fun j hj hj2 => hn j (by omega) hj2))⟩
    · refine ⟨rfl, ⟨_, rfl⟩, fun j hj hj2 => ?_⟩
      by_cases q : ls.length < j + i
      · exact hn j q hj2
      · have : j = ls.length - i := by omega
        subst this; exact c
  · rintro σ H' ⟨rfl, ⟨z, rfl⟩, hn⟩
    exact (show Q (oV none) H from good bu bp _ (greatest_none fun j hj => hn j (by omega) hj))
end
end LR

set_option Elab.async false
set_option maxRecDepth 100000
set_option linter.all false
set_option maxHeartbeats 4000000
namespace LR
open PySem PySem.Spec PyProof.Rows L2
section
variable {P : Program} {w : World} {K : PySem.W.Frag} {mg : Str → Option Value} {base : Heap} {ζ : Cs}
def rankV (p : Int) : List V := [.str "rank", .int p, .bl true, .bl false]
def rankD (p : Int) : List Dt := [.str "rank", .int p, .bl true, .bl false]
def stepV (p : Int) : List V := [.str "step", .int p, .bl true, .bl false]
def stepD (p : Int) : List Dt := [.str "step", .int p, .bl true, .bl false]
def valV (o : Option Int) : List V := [.str "value", oV o]
def valD (o : Option Int) : List Dt := [.str "value", oD o]
/-- the answer to (p, w): the rank is refused first, then the step -/
def LeastAns (h : Int) (ls : List Int) (p w : Int) (xs : List V) (ds : List Dt) : Prop :=
  (¬ (0 ≤ p ∧ p ≤ 2 * h) ∧ xs = rankV p ∧ ds = rankD p) ∨ ((0 ≤ p ∧ p ≤ 2 * h) ∧ ¬ (0 ≤ w ∧ w ≤ ls.length) ∧ xs = stepV w ∧ ds = stepD w) ∨
  ((0 ≤ p ∧ p ≤ 2 * h) ∧ (0 ≤ w ∧ w ≤ ls.length) ∧ ∃ o, LeastIs ls p w o ∧ xs = valV o ∧ ds = valD o)
def GreatestAns (h : Int) (ls : List Int) (u p : Int) (xs : List V) (ds : List Dt) : Prop :=
  (¬ (0 ≤ u ∧ u ≤ ls.length) ∧ xs = stepV u ∧ ds = stepD u) ∨ ((0 ≤ u ∧ u ≤ ls.length) ∧ ¬ (0 ≤ p ∧ p ≤ 2 * h) ∧ xs = rankV p ∧ ds = rankD p) ∨
  ((0 ≤ u ∧ u ≤ ls.length) ∧ (0 ≤ p ∧ p ≤ 2 * h) ∧ ∃ o, GreatestIs ls u p o ∧ xs = valV o ∧ ds = valD o)
theorem ats_rank (H : Hp) (p : Int) : Ats H (rankV p) (rankD p) := .cons (.str _) (.cons (.int _) (.cons (.bl _) (.cons (.bl _) .nil)))
theorem ats_step (H : Hp) (p : Int) : Ats H (stepV p) (stepD p) := .cons (.str _) (.cons (.int _) (.cons (.bl _) (.cons (.bl _) .nil)))
theorem ats_val (H : Hp) (o : Option Int) : Ats H (valV o) (valD o) := .cons (.str _) (.cons (at_o H o) .nil)
theorem LeastAns.ats {h ls p w xs ds} (a : LeastAns h ls p w xs ds) (H : Hp) : Ats H xs ds ∧ xs.length ≤ 100000 ∧ deps ds < 1 := by
  rcases a with ⟨_, rfl, rfl⟩ | ⟨_, _, rfl, rfl⟩ | ⟨_, _, o, _, rfl, rfl⟩
  · exact ⟨ats_rank _ _, by show 4 ≤ 100000; decide, Nat.lt_of_le_of_lt (Nat.le_refl 0) (by decide)⟩
  · exact ⟨ats_step _ _, by show 4 ≤ 100000; decide, Nat.lt_of_le_of_lt (Nat.le_refl 0) (by decide)⟩
  · exact ⟨ats_val _ _, by show 2 ≤ 100000; decide, by cases o <;> exact Nat.lt_of_le_of_lt (Nat.le_refl 0) (by decide)⟩
theorem GreatestAns.ats {h ls p w xs ds} (a : GreatestAns h ls p w xs ds) (H : Hp) : Ats H xs ds ∧ xs.length ≤ 100000 ∧ deps ds < 1 := by
  rcases a with ⟨_, rfl, rfl⟩ | ⟨_, _, rfl, rfl⟩ | ⟨_, _, o, _, rfl, rfl⟩
  · exact ⟨ats_step _ _, by show 4 ≤ 100000; decide, Nat.lt_of_le_of_lt (Nat.le_refl 0) (by decide)⟩
  · exact ⟨ats_rank _ _, by show 4 ≤ 100000; decide, Nat.lt_of_le_of_lt (Nat.le_refl 0) (by decide)⟩
  · exact ⟨ats_val _ _, by show 2 ≤ 100000; decide, by cases o <;> exact Nat.lt_of_le_of_lt (Nat.le_refl 0) (by decide)⟩
theorem LeastAns.one {h ls p w xs ds ys es} (a : LeastAns h ls p w xs ds) (b : LeastAns h ls p w ys es) : ds = es := by
  rcases a with ⟨a1, _, rfl⟩ | ⟨a1, a2, _, rfl⟩ | ⟨a1, a2, o, ho, _, rfl⟩ <;> rcases b with ⟨b1, _, rfl⟩ | ⟨b1, b2, _, rfl⟩ | ⟨b1, b2, o', ho', _, rfl⟩ <;> first | rfl | (rw [ho.one ho']) | exact absurd b1 a1 | exact absurd a1 b1 | exact absurd b2 a2 | exact absurd a2 b2
theorem GreatestAns.one {h ls p w xs ds ys es} (a : GreatestAns h ls p w xs ds) (b : GreatestAns h ls p w ys es) : ds = es := by
  rcases a with ⟨a1, _, rfl⟩ | ⟨a1, a2, _, rfl⟩ | ⟨a1, a2, o, ho, _, rfl⟩ <;> rcases b with ⟨b1, _, rfl⟩ | ⟨b1, b2, _, rfl⟩ | ⟨b1, b2, o', ho', _, rfl⟩ <;> first | rfl | (rw [ho.one ho']) | exact absurd b1 a1 | exact absurd a1 b1 | exact absurd b2 a2 | exact absurd a2 b2
def spLDue (K : PySem.W.Frag) : Sp := fun vs H Q _ => ∃ (a : Addr) (ls : List Int) (h p w : Int), vs = [.ref a, .int h, .int p, .int w] ∧ SqL K H a (ls.map V.int) ∧ ls.length ≤ 1000 ∧ (0 ≤ h ∧ h ≤ 1000) ∧ p.natAbs < 2 ^ 1900 ∧ w.natAbs < 2 ^ 1900 ∧
  ∀ (b : Addr) (H' : Hp) xs ds, Same H H' → H' b = some (.lst xs) → LeastAns h ls p w xs ds → Q (.ref b) H'
theorem ok_ldue (T : Txt P K mg ζ) : Cal P w K mg base 2 "_law_least_due" (spLDue K) := by
  have c_lowest : Cal P w K mg base 1 "_law_lowest" (spLowest K) := ok_lowest T
  refine T.d_least_due.cal sc_least_due (fun vs H Q E h => ?_) (fun f cdv A outer s H vs Q E hr h => ⟨_, pss_cons (ps_if (PW.pt (pw_or (pt_cmpR op_lt (pv 2) (pe_int) (nomark _)) (pw_or1 (pt_cmpR op_gt (pv 2) (pe_op op_mul (pe_int) (pv 1)) (nomark _)))))
 (pss_one (ps_ret (pe_lst (pa_cons (pe_str) (pa_cons (pv 2) (pa_cons (pe_bl) (pa_cons (pe_bl) (pa_nil))))))))
 (pss_nil))
 (pss_cons (ps_if (PW.pt (pw_or (pt_cmpR op_lt (pv 3) (pe_int) (nomark _)) (pw_or1 (pt_cmpR op_gt (pv 3) (pe_callB call_len_seq (by rfl) T.n_len b_len (pa_cons (pv 0) (pa_nil))) (nomark _)))))
 (pss_one (ps_ret (pe_lst (pa_cons (pe_str) (pa_cons (pv 3) (pa_cons (pe_bl) (pa_cons (pe_bl) (pa_nil))))))))
 (pss_nil))
 (pss_one (ps_ret (pe_lst (pa_cons (pe_str) (pa_cons (pe_c c_lowest hr (by first | decide | omega) (by rfl) (pa_cons (pv 0) (pa_cons (pv 2) (pa_cons (pv 3) (pa_nil))))) (pa_nil))))))), ?_⟩)
  · obtain ⟨x, ls, h, p, w, rfl, _⟩ := h; rfl
  obtain ⟨a, ls, h, p, w, rfl, hS, hl, hh, hp, hw, kk⟩ := h
  have ok4 : ∀ {t u v y : V}, ([t, u, v, y] : List V).length ≤ sizeLine := fun {_ _ _ _} => by show 4 ≤ sizeLine; decide
  have rk : ¬ (0 ≤ p ∧ p ≤ 2 * h) → tRet (tLst (tCons (tC (V.str (Str.ofString "rank"))) (tCons (tVar 2) (tCons (tC (V.bl true)) (tCons (tC (V.bl false)) tNil))))) { nx := fun _ H' => Q V.non H', rt := Q } (L2.start N_least_due [V.ref a, V.int h, V.int p, V.int w]) H := fun c =>
    ⟨_, rfl, ok4, fun b hb => kk b _ _ _ (same_new hb) upd_same (.inl ⟨c, rfl, rfl⟩)⟩
  have sk : (0 ≤ p ∧ p ≤ 2 * h) → ¬ (0 ≤ w ∧ w ≤ ls.length) → tRet (tLst (tCons (tC (V.str (Str.ofString "step"))) (tCons (tVar 3) (tCons (tC (V.bl true)) (tCons (tC (V.bl false)) tNil))))) { nx := fun _ H' => Q V.non H', rt := Q } (L2.start N_least_due [V.ref a, V.int h, V.int p, V.int w]) H := fun c0 c =>
    ⟨_, rfl, ok4, fun b hb => kk b _ _ _ (same_new hb) upd_same (.inr (.inl ⟨c0, c, rfl, rfl⟩))⟩
  refine ⟨_, rfl, _, _, rfl, rfl, _, rfl, ite2 (fun c => iteT (rk ?_)) (fun c => ⟨_, rfl, _, rfl, _, _, rfl, rfl, .inl ⟨by decide, by decide⟩, _, _, rfl, rfl, _, rfl, ite2 (fun c2 => rk ?_) (fun c2 => ⟨_, rfl, _, _, rfl, rfl, _, rfl, ite2 (fun c3 => iteT (sk ?_ ?_)) (fun c3 => ?_)⟩)⟩)⟩
  · have := of_decide_eq_true c; omega
  · have := of_decide_eq_true c2; omega
  · have a1 : ¬ p < 0 := fun q => c (decide_eq_true q)
    have a2 : ¬ 2 * h < p := fun q => c2 (decide_eq_true q)
    omega
  · have := of_decide_eq_true c3; omega
  have a1 : ¬ p < 0 := fun q => c (decide_eq_true q)
  have a2 : ¬ 2 * h < p := fun q => c2 (decide_eq_true q)
  have a3 : ¬ w < 0 := fun q => c3 (decide_eq_true q)
  refine ⟨_, rfl, _, rfl, a, _, rfl, .inl hS, _, _, rfl, rfl, _, rfl, ite2 (fun c4 => sk ⟨by omega, by omega⟩ ?_) (fun c4 => ?_)⟩
  · have := of_decide_eq_true c4; rw [List.length_map] at this; omega
  have a4 : ¬ (ls.length : Int) < w := fun q => c4 (decide_eq_true (by rw [List.length_map]; exact q))
  exact ⟨_, rfl, _, rfl, _, rfl, a, ls, p, w, rfl, hS, hl, by omega, ⟨by omega, by omega⟩, fun o ho => ⟨(by show 2 ≤ sizeLine; decide), fun b hb => kk b _ _ _ (same_new hb) upd_same (.inr (.inr ⟨⟨by omega, by omega⟩, ⟨by omega, by omega⟩, o, ho, rfl, rfl⟩))⟩⟩
def spGDue (K : PySem.W.Frag) : Sp := fun vs H Q _ => ∃ (a : Addr) (ls : List Int) (h u p : Int), vs = [.ref a, .int h, .int u, .int p] ∧ SqL K H a (ls.map V.int) ∧ ls.length ≤ 1000 ∧ (0 ≤ h ∧ h ≤ 1000) ∧ u.natAbs < 2 ^ 1900 ∧ p.natAbs < 2 ^ 1900 ∧
  ∀ (b : Addr) (H' : Hp) xs ds, Same H H' → H' b = some (.lst xs) → GreatestAns h ls u p xs ds → Q (.ref b) H'
theorem ok_gdue (T : Txt P K mg ζ) : Cal P w K mg base 2 "_law_greatest_due" (spGDue K) := by
  have c_highest : Cal P w K mg base 1 "_law_highest" (spHighest K) := ok_highest T
  refine T.d_greatest_due.cal sc_greatest_due (fun vs H Q E h => ?_) (fun f cdv A outer s H vs Q E hr h => ⟨_, pss_cons (ps_if (PW.pt (pw_or (pt_cmpR op_lt (pv 2) (pe_int) (nomark _)) (pw_or1 (pt_cmpR op_gt (pv 2) (pe_callB call_len_seq (by rfl) T.n_len b_len (pa_cons (pv 0) (pa_nil))) (nomark _)))))
 (pss_one (ps_ret (pe_lst (pa_cons (pe_str) (pa_cons (pv 2) (pa_cons (pe_bl) (pa_cons (pe_bl) (pa_nil))))))))
 (pss_nil))
 (pss_cons (ps_if (PW.pt (pw_or (pt_cmpR op_lt (pv 3) (pe_int) (nomark _)) (pw_or1 (pt_cmpR op_gt (pv 3) (pe_op op_mul (pe_int) (pv 1)) (nomark _)))))
 (pss_one (ps_ret (pe_lst (pa_cons (pe_str) (pa_cons (pv 3) (pa_cons (pe_bl) (pa_cons (pe_bl) (pa_nil))))))))
 (pss_nil))
 (pss_one (ps_ret (pe_lst (pa_cons (pe_str) (pa_cons (pe_c c_highest hr (by first | decide | omega) (by rfl) (pa_cons (pv 0) (pa_cons (pv 2) (pa_cons (pv 3) (pa_nil))))) (pa_nil))))))), ?_⟩)
  · obtain ⟨x, ls, h, u, p, rfl, _⟩ := h; rfl
  obtain ⟨a, ls, h, u, p, rfl, hS, hl, hh, hu, hp, kk⟩ := h
  have ok4 : ∀ {t u v y : V}, ([t, u, v, y] : List V).length ≤ sizeLine := fun {_ _ _ _} => by show 4 ≤ sizeLine; decide
  have sk : ¬ (0 ≤ u ∧ u ≤ ls.length) → tRet (tLst (tCons (tC (V.str (Str.ofString "step"))) (tCons (tVar 2) (tCons (tC (V.bl true)) (tCons (tC (V.bl false)) tNil))))) { nx := fun _ H' => Q V.non H', rt := Q } (L2.start N_greatest_due [V.ref a, V.int h, V.int u, V.int p]) H := fun c =>
    ⟨_, rfl, ok4, fun b hb => kk b _ _ _ (same_new hb) upd_same (.inl ⟨c, rfl, rfl⟩)⟩
  have rk : (0 ≤ u ∧ u ≤ ls.length) → ¬ (0 ≤ p ∧ p ≤ 2 * h) → tRet (tLst (tCons (tC (V.str (Str.ofString "rank"))) (tCons (tVar 3) (tCons (tC (V.bl true)) (tCons (tC (V.bl false)) tNil))))) { nx := fun _ H' => Q V.non H', rt := Q } (L2.start N_greatest_due [V.ref a, V.int h, V.int u, V.int p]) H := fun c0 c =>
    ⟨_, rfl, ok4, fun b hb => kk b _ _ _ (same_new hb) upd_same (.inr (.inl ⟨c0, c, rfl, rfl⟩))⟩
  refine ⟨_, rfl, _, _, rfl, rfl, _, rfl, ite2 (fun c => iteT (sk ?_)) (fun c => ?_)⟩
  · have := of_decide_eq_true c; omega
  have a1 : ¬ u < 0 := fun q => c (decide_eq_true q)
  refine ⟨_, rfl, _, rfl, a, _, rfl, .inl hS, _, _, rfl, rfl, _, rfl, ite2 (fun c4 => sk ?_) (fun c4 => ?_)⟩
  · have := of_decide_eq_true c4; rw [List.length_map] at this; omega
  have a2 : ¬ (ls.length : Int) < u := fun q => c4 (decide_eq_true (by rw [List.length_map]; exact q))
  refine ⟨_, rfl, _, _, rfl, rfl, _, rfl, ite2 (fun c => iteT (rk ⟨by omega, by omega⟩ ?_)) (fun c => ⟨_, rfl, _, rfl, _, _, rfl, rfl, .inl ⟨by decide, by decide⟩, _, _, rfl, rfl, _, rfl, ite2 (fun c2 => rk ⟨by omega, by omega⟩ ?_) (fun c2 => ?_)⟩)⟩
  · have := of_decide_eq_true c; omega
  · have := of_decide_eq_true c2; omega
  have a3 : ¬ p < 0 := fun q => c (decide_eq_true q)
  have a4 : ¬ 2 * h < p := fun q => c2 (decide_eq_true q)
  exact ⟨_, rfl, _, rfl, _, rfl, a, ls, u, p, rfl, hS, hl, by omega, ⟨by omega, by omega⟩, fun o ho => ⟨(by show 2 ≤ sizeLine; decide), fun b hb => kk b _ _ _ (same_new hb) upd_same (.inr (.inr ⟨⟨by omega, by omega⟩, ⟨by omega, by omega⟩, o, ho, rfl, rfl⟩))⟩⟩
end
end LR

set_option Elab.async false
set_option maxRecDepth 100000
set_option linter.all false
set_option maxHeartbeats 4000000
namespace LR
open PySem PySem.Spec PyProof.Rows L2
section
variable {P : Program} {w : World} {K : PySem.W.Frag} {mg : Str → Option Value} {base : Heap} {ζ : Cs}
def spSides (C : Addr) (K : PySem.W.Frag) : Sp := fun vs H Q _ => ∃ (x a b d : Addr) (ls : List Int) (h p w u : Int) (xs ys : List V) (ds es : List Dt), vs = [.ref x, .ref a, .int p, .int w, .int u, .ref b, .ref d] ∧ LadderAt C H x h ls ∧ SqL K H a (ls.map V.int) ∧ ls.length ≤ 1000 ∧
  H b = some (.lst xs) ∧ LeastAns h ls p w xs ds ∧ H d = some (.lst ys) ∧ GreatestAns h ls u p ys es ∧ Q (.bl true) H
theorem ok_sides (T : Txt P K mg ζ) : Cal P w K mg base 4 "_law_sides" (spSides ζ.Ladder K) := by
  have c_L_allows : Met P w K mg base 2 ζ.Ladder "allows" (spLets ζ.Ladder) := ok_allows T
  have c_same : Cal P w K mg base 3 "_law_same" (spSame 1) := ok_same T 1
  refine T.d_sides.cal sc_sides (fun vs H Q E h => ?_) (fun f cdv A outer s H vs Q E hr h => ⟨_, pss_cons (ps_for PassesOwn.never rfl (pi_range1 rfl T.n_range (pa_cons (pe_op op_add (pe_callB call_len_seq (by rfl) T.n_len b_len (pa_cons (pv 1) (pa_nil))) (pe_int)) (pa_nil))) (pg_name (i := 7) sc_sides.nd rfl (Or.inl rfl))
 (pss_cut (ps_if (pt_cmpR op_eq (pe_ix ix_list (pv 5) (pe_int) (fun _ _ => rfl)) (pe_str) (nomark _))
 (pss_cons (ps_set (i := 8) sc_sides.nd rfl (Or.inl rfl) (pe_and (pe_cmpR op_notN (pe_ix ix_list (pv 5) (pe_int) (fun _ _ => rfl)) (pe_non) (nomark _)) (pe_one (pe_cmpR op_ge (pv 7) (pe_ix ix_list (pv 5) (pe_int) (fun _ _ => rfl)) (nomark _)))))
 (pss_one (ps_if (pt_not (pt_val (pe_c c_same hr (by first | decide | omega) (by rfl) (pa_cons (pe_mt c_L_allows hr (by first | decide | omega) (pv 0) (pa_cons (pv 7) (pa_cons (pv 2) (pa_cons (pv 3) (pa_nil))))) (pa_cons (pv 8) (pa_nil))))))
 (pss_one (ps_ret (pe_bl)))
 (pss_nil))))
 (pss_nil))
 (pss_one (ps_if (pt_cmpR op_eq (pe_ix ix_list (pv 6) (pe_int) (fun _ _ => rfl)) (pe_str) (nomark _))
 (pss_cons (ps_set (i := 8) sc_sides.nd rfl (Or.inl rfl) (pe_and (pe_cmpR op_notN (pe_ix ix_list (pv 6) (pe_int) (fun _ _ => rfl)) (pe_non) (nomark _)) (pe_one (pe_cmpR op_le (pv 7) (pe_ix ix_list (pv 6) (pe_int) (fun _ _ => rfl)) (nomark _)))))
 (pss_one (ps_if (pt_not (pt_val (pe_c c_same hr (by first | decide | omega) (by rfl) (pa_cons (pe_mt c_L_allows hr (by first | decide | omega) (pv 0) (pa_cons (pv 4) (pa_cons (pv 2) (pa_cons (pv 7) (pa_nil))))) (pa_cons (pv 8) (pa_nil))))))
 (pss_one (ps_ret (pe_bl)))
 (pss_nil))))
 (pss_nil)))))
 (pss_one (ps_ret (pe_bl))), ?_⟩)
  · obtain ⟨x, a, b, d, ls, h, p, w, u, xs, ys, ds, es, rfl, _⟩ := h; rfl
  obtain ⟨x, a, b, d, ls, h, p, w, u, xs, ys, ds, es, rfl, LA, hS, hl, hb, la, hd, ga, kk⟩ := h
  refine ⟨_, rfl, a, _, rfl, .inl hS, _, _, rfl, rfl, _, rfl, by rw [List.length_map]; omega, by rw [List.length_map]; omega, ?_⟩
  have en : (((ls.map V.int).length : Int) + 1).toNat = ls.length + 1 := by rw [List.length_map]; omega
  rw [en]
  obtain ⟨dx, tl, tc, h1, _⟩ := id LA
  refine for_range (lo := 0) (n := ls.length + 1) (fun i σ H' => H = H' ∧ ∃ z1 z2 : Option V, σ = [some (.ref x), some (.ref a), some (.int p), some (.int w), some (.int u), some (.ref b), some (.ref d), z1, z2]) ⟨rfl, _, _, rfl⟩ ?_ ?_
  · rintro i σ H' hi ⟨rfl, z1, z2, rfl⟩
    refine ⟨fun σ' H' => H = H' ∧ ∃ z2 : Option V, σ' = [some (.ref x), some (.ref a), some (.int p), some (.int w), some (.int u), some (.ref b), some (.ref d), some (.int (0 + (i : Int))), z2], ?_, ?_⟩
    · rcases la with ⟨c, rfl, rfl⟩ | ⟨c, c2, rfl, rfl⟩ | ⟨c, c2, o, ho, rfl, rfl⟩
      · exact ⟨_, rfl, _, _, _, _, rfl, rfl, SqL.of hb, rfl, rfl, _, rfl, iteF ⟨rfl, _, rfl⟩⟩
      · exact ⟨_, rfl, _, _, _, _, rfl, rfl, SqL.of hb, rfl, rfl, _, rfl, iteF ⟨rfl, _, rfl⟩⟩
      · refine ⟨_, rfl, _, _, _, _, rfl, rfl, SqL.of hb, rfl, rfl, _, rfl, iteT ⟨_, rfl, _, _, _, _, rfl, rfl, SqL.of hb, rfl, rfl, ?_⟩⟩
        cases o with
        | none =>
          refine ⟨_, rfl, iteF ⟨_, rfl, x, dx, _, rfl, h1, rfl, _, rfl, _, rfl, _, rfl, x, h, ls, _, p, w, rfl, LA, ⟨by omega, by omega⟩, c, c2, _, rfl, _, _, .bl _, .bl _, rfl, .bl _, .bl _, (by exact Nat.lt_succ_self 0), fun b hb => ⟨_, rfl, ?_⟩⟩⟩
          have : alw ls (0 + (i : Int)) p w = false := by
            rw [Bool.eq_false_iff]; intro q
            obtain ⟨k, e, _⟩ := (ho.2 _ (by omega) (by omega)).mp q
            cases e
          rw [hb.mpr (by rw [this])]
          exact iteF ⟨rfl, _, rfl⟩
        | some k =>
          refine ⟨_, rfl, iteT ⟨_, rfl, _, rfl, _, _, _, _, rfl, rfl, SqL.of hb, rfl, _, _, rfl, rfl, _, rfl, x, dx, _, rfl, h1, rfl, _, rfl, _, rfl, _, rfl, x, h, ls, _, p, w, rfl, LA, ⟨by omega, by omega⟩, c, c2, _, rfl, _, _, .bl _, .bl _, rfl, .bl _, .bl _, (by exact Nat.lt_succ_self 0), fun b hb => ⟨_, rfl, ?_⟩⟩⟩
          have : alw ls (0 + (i : Int)) p w = decide (k ≤ 0 + (i : Int)) := by
            rw [Bool.eq_iff_iff, ho.2 _ (by omega) (by omega), decide_eq_true_iff]
            exact ⟨fun ⟨j, e, q⟩ => (by cases e; exact q), fun q => ⟨k, rfl, q⟩⟩
          rw [hb.mpr (by rw [this])]
          exact iteF ⟨rfl, _, rfl⟩
    rintro σ' H' ⟨rfl, z2, rfl⟩
    rcases ga with ⟨c, rfl, rfl⟩ | ⟨c, c2, rfl, rfl⟩ | ⟨c, c2, o, ho, rfl, rfl⟩
    · exact ⟨_, rfl, _, _, _, _, rfl, rfl, SqL.of hd, rfl, rfl, _, rfl, iteF ⟨rfl, _, _, rfl⟩⟩
    · exact ⟨_, rfl, _, _, _, _, rfl, rfl, SqL.of hd, rfl, rfl, _, rfl, iteF ⟨rfl, _, _, rfl⟩⟩
    · refine ⟨_, rfl, _, _, _, _, rfl, rfl, SqL.of hd, rfl, rfl, _, rfl, iteT ⟨_, rfl, _, _, _, _, rfl, rfl, SqL.of hd, rfl, rfl, ?_⟩⟩
      cases o with
      | none =>
        refine ⟨_, rfl, iteF ⟨_, rfl, x, dx, _, rfl, h1, rfl, _, rfl, _, rfl, _, rfl, x, h, ls, u, p, _, rfl, LA, c, c2, ⟨by omega, by omega⟩, _, rfl, _, _, .bl _, .bl _, rfl, .bl _, .bl _, (by exact Nat.lt_succ_self 0), fun b hb => ⟨_, rfl, ?_⟩⟩⟩
        have : alw ls u p (0 + (i : Int)) = false := by
          rw [Bool.eq_false_iff]; intro q
          obtain ⟨k, e, _⟩ := (ho.2 _ (by omega) (by omega)).mp q
          cases e
        rw [hb.mpr (by rw [this])]
        exact iteF ⟨rfl, _, _, rfl⟩
      | some k =>
        refine ⟨_, rfl, iteT ⟨_, rfl, _, rfl, _, _, _, _, rfl, rfl, SqL.of hd, rfl, _, _, rfl, rfl, _, rfl, x, dx, _, rfl, h1, rfl, _, rfl, _, rfl, _, rfl, x, h, ls, u, p, _, rfl, LA, c, c2, ⟨by omega, by omega⟩, _, rfl, _, _, .bl _, .bl _, rfl, .bl _, .bl _, (by exact Nat.lt_succ_self 0), fun b hb => ⟨_, rfl, ?_⟩⟩⟩
        have : alw ls u p (0 + (i : Int)) = decide (0 + (i : Int) ≤ k) := by
          rw [Bool.eq_iff_iff, ho.2 _ (by omega) (by omega), decide_eq_true_iff]
          exact ⟨fun ⟨j, e, q⟩ => (by cases e; exact q), fun q => ⟨k, rfl, q⟩⟩
        rw [hb.mpr (by rw [this])]
        exact iteF ⟨rfl, _, _, rfl⟩
  · rintro σ H' ⟨rfl, z1, z2, rfl⟩
    exact kk
end
end LR

set_option Elab.async false
set_option maxRecDepth 100000
set_option linter.all false
set_option maxHeartbeats 4000000
namespace LR
open PySem PySem.Spec PyProof.Rows L2
section
variable {P : Program} {w : World} {K : PySem.W.Frag} {mg : Str → Option Value} {base : Heap} {ζ : Cs}
def spAsked (C : Addr) : Sp := fun vs H Q _ => ∃ (x : Addr) (h : Int) (ls : List Int) (way one two : Int), vs = [.ref x, .int way, .int one, .int two] ∧ LadderAt C H x h ls ∧ ls.length ≤ 1000 ∧ one.natAbs < 2 ^ 1900 ∧ two.natAbs < 2 ^ 1900 ∧
  ∀ (b : Addr) (H' : Hp) xs ds, Same H H' → H' b = some (.lst xs) → (way = 0 → LeastAns h ls one two xs ds) → (way ≠ 0 → GreatestAns h ls one two xs ds) → Q (.ref b) H'
theorem ok_asked (T : Txt P K mg ζ) : Cal P w K mg base 5 "_law_asked" (spAsked ζ.Ladder) := by
  have cx_L_least : MetX P w K mg base 4 ζ.Ladder "least" (spLeastX ζ.Ladder ζ.NoSuchStep ζ.NoSuchRank) := ok_leastX T
  have cx_L_greatest : MetX P w K mg base 4 ζ.Ladder "greatest" (spGreatestX ζ.Ladder ζ.NoSuchStep ζ.NoSuchRank) := ok_greatestX T
  refine T.d_asked.cal sc_asked (fun vs H Q E h => ?_) (fun f cdv A outer s H vs Q E hr h => ⟨_, pss_cons (ps_set (i := 4) sc_asked.nd rfl (Or.inl rfl) (pe_lst (pa_cons (pe_str) (pa_nil))))
 (pss_cut (ps_try_any rfl rfl sc_asked.nd takes0 (fun W pn xe tk _ => pss_one (ps_if (pt_cmpR op_eq (pv 1) (pe_int) (nomark _))
 (pss_one (ps_set (i := 4) sc_asked.nd rfl (Or.inl rfl) (pe_lst (pa_cons (pe_str) (pa_cons (pe_mtT cx_L_least hr (by first | decide | omega) tk (pv 0) (pa_cons (pv 2) (pa_cons (pv 3) (pa_nil)))) (pa_nil))))))
 (pss_one (ps_set (i := 4) sc_asked.nd rfl (Or.inl rfl) (pe_lst (pa_cons (pe_str) (pa_cons (pe_mtT cx_L_greatest hr (by first | decide | omega) tk (pv 0) (pa_cons (pv 2) (pa_cons (pv 3) (pa_nil)))) (pa_nil)))))))) (ClOk.held (i := 5) rfl rfl ⟨rfl, by decide, .inl T.mg_NoSuchStep⟩ (fun a oe cls d pn hz hf => pss_cons (ps_set (i := 6) sc_asked.nd rfl (Or.inl rfl) (pe_and (pe_callB (call_isX T.objc hz hf) (by rfl) T.n_isinstance b_isinstance (pa_cons (pv 5) (pa_cons (pe_glob (v := .ref ζ.OutOfRange) (by rfl) T.mg_OutOfRange rfl) (pa_nil)))) (pe_and (pe_callB (call_isX T.objc hz hf) (by rfl) T.n_isinstance b_isinstance (pa_cons (pv 5) (pa_cons (pe_glob (v := .ref ζ.LadderreachError) (by rfl) T.mg_LadderreachError rfl) (pa_nil)))) (pe_one (pe_callB (call_isX T.objc hz hf) (by rfl) T.n_isinstance b_isinstance (pa_cons (pv 5) (pa_cons (pe_bltn (v := .ty "ValueError") (by rfl) T.n_ValueError b_ValueError rfl) (pa_nil))))))))
 (pss_one (ps_set (i := 4) sc_asked.nd rfl (Or.inl rfl) (pe_lst (pa_cons (pe_str) (pa_cons (pe_xf T.e_NoSuchStep.X T.e_NoSuchStep.no hz hf (pv 5)) (pa_cons (pv 6) (pa_cons (pe_callB (call_isX T.objc hz hf) (by rfl) T.n_isinstance b_isinstance (pa_cons (pv 5) (pa_cons (pe_tup (pa_cons (pe_glob (v := .ref ζ.NoSuchRank) (by rfl) T.mg_NoSuchRank rfl) (pa_cons (pe_glob (v := .ref ζ.NoSuchLevel) (by rfl) T.mg_NoSuchLevel rfl) (pa_cons (pe_glob (v := .ref ζ.NoSuchNode) (by rfl) T.mg_NoSuchNode rfl) (pa_cons (pe_glob (v := .ref ζ.NoSuchState) (by rfl) T.mg_NoSuchState rfl) (pa_cons (pe_glob (v := .ref ζ.NoSuchLetter) (by rfl) T.mg_NoSuchLetter rfl) (pa_cons (pe_glob (v := .ref ζ.GameError) (by rfl) T.mg_GameError rfl) (pa_nil)))))))) (pa_nil)))) (pa_nil))))))))) (ClOk.held (i := 5) rfl rfl ⟨rfl, by decide, .inl T.mg_NoSuchRank⟩ (fun a oe cls d pn hz hf => pss_cons (ps_set (i := 6) sc_asked.nd rfl (Or.inl rfl) (pe_and (pe_callB (call_isX T.objc hz hf) (by rfl) T.n_isinstance b_isinstance (pa_cons (pv 5) (pa_cons (pe_glob (v := .ref ζ.OutOfRange) (by rfl) T.mg_OutOfRange rfl) (pa_nil)))) (pe_and (pe_callB (call_isX T.objc hz hf) (by rfl) T.n_isinstance b_isinstance (pa_cons (pv 5) (pa_cons (pe_glob (v := .ref ζ.LadderreachError) (by rfl) T.mg_LadderreachError rfl) (pa_nil)))) (pe_one (pe_callB (call_isX T.objc hz hf) (by rfl) T.n_isinstance b_isinstance (pa_cons (pv 5) (pa_cons (pe_bltn (v := .ty "ValueError") (by rfl) T.n_ValueError b_ValueError rfl) (pa_nil))))))))
 (pss_one (ps_set (i := 4) sc_asked.nd rfl (Or.inl rfl) (pe_lst (pa_cons (pe_str) (pa_cons (pe_xf T.e_NoSuchRank.X T.e_NoSuchRank.no hz hf (pv 5)) (pa_cons (pv 6) (pa_cons (pe_callB (call_isX T.objc hz hf) (by rfl) T.n_isinstance b_isinstance (pa_cons (pv 5) (pa_cons (pe_tup (pa_cons (pe_glob (v := .ref ζ.NoSuchStep) (by rfl) T.mg_NoSuchStep rfl) (pa_cons (pe_glob (v := .ref ζ.NoSuchLevel) (by rfl) T.mg_NoSuchLevel rfl) (pa_cons (pe_glob (v := .ref ζ.NoSuchNode) (by rfl) T.mg_NoSuchNode rfl) (pa_cons (pe_glob (v := .ref ζ.NoSuchState) (by rfl) T.mg_NoSuchState rfl) (pa_cons (pe_glob (v := .ref ζ.NoSuchLetter) (by rfl) T.mg_NoSuchLetter rfl) (pa_cons (pe_glob (v := .ref ζ.GameError) (by rfl) T.mg_GameError rfl) (pa_nil)))))))) (pa_nil)))) (pa_nil))))))))) (ClOk.bare ⟨rfl, by decide, .inl T.mg_LadderreachError⟩ (fun a oe cls d pn hz hf => pss_one (ps_set (i := 4) sc_asked.nd rfl (Or.inl rfl) (pe_lst (pa_cons (pe_str) (pa_nil))))) (ClOk.nil)))))
 (pss_one (ps_ret (pv 4)))), ?_⟩)
  · obtain ⟨x, h, ls, way, one, two, rfl, _⟩ := h; rfl
  obtain ⟨x, h, ls, way, one, two, rfl, LA, hl, h1, h2, kk⟩ := h
  obtain ⟨dx, tl, tc, hx, _⟩ := id LA
  refine ⟨(by show 1 ≤ sizeLine; decide), fun b0 hb0 => ?_⟩
  have s1 : Same H (upd H b0 (.lst [.str "other"])) := same_new hb0
  have hx1 := s1 _ _ hx
  have LA1 := LA.same s1
  generalize upd H b0 (.lst [.str "other"]) = H1 at s1 hx1 LA1 ⊢
  refine ⟨fun σ' H' => ∃ (b : Addr) (xs : List V) (ds : List Dt) (z4 z5 z6 : Option V), σ' = [some (.ref x), some (.int way), some (.int one), some (.int two), some (.ref b), z5, z6] ∧ Same H H' ∧ H' b = some (.lst xs) ∧ (way = 0 → LeastAns h ls one two xs ds) ∧ (way ≠ 0 → GreatestAns h ls one two xs ds), ?_, ?_⟩
  · have em : decide (V.int way = V.int 0) = decide (way = 0) := by simp
    refine ⟨_, rfl, rfl, _, rfl, ?_⟩
    rw [em]
    refine ite2 (fun c => ?_) (fun c => ?_)
    · have c := of_decide_eq_true c
      refine ⟨_, rfl, x, dx, _, rfl, hx1, rfl, _, rfl, _, rfl, x, h, ls, one, two, rfl, LA1, hl, h1, h2, fun w1 => ?_, fun w1 w2 => ?_, fun w1 w2 o ho => ?_⟩
      · intro d hd
        have n1 := ne_of_none hx1 hd
        refine (show wCl _ _ _ _ _ _ _ _ from ⟨false, T.exm_NoSuchRank_NoSuchStep, ⟨(fun z => nomatch z), fun _ => ⟨true, T.exm_NoSuchRank_NoSuchRank, ⟨fun _ e he => ?_, fun z => nomatch z⟩⟩⟩⟩)
        refine ⟨_, rfl, ζ.NoSuchRank, rfl, T.e_NoSuchRank.E, ⟨_, upd_same⟩, .inl ⟨_, _, true, rfl, .own _, T.kit_NoSuchRank_OutOfRange, _, rfl, iteT ?_⟩⟩
        refine ⟨_, rfl, ζ.NoSuchRank, rfl, T.e_NoSuchRank.E, ⟨_, upd_same⟩, .inl ⟨_, _, true, rfl, .own _, T.kit_NoSuchRank_LadderreachError, _, rfl, iteT ?_⟩⟩
        refine ⟨_, rfl, ζ.NoSuchRank, rfl, T.e_NoSuchRank.E, ⟨_, upd_same⟩, .inl ⟨_, _, true, rfl, .ty _, T.kit_NoSuchRank_ValueError, ?_⟩⟩
        refine ⟨_, rfl, rfl, rfl, d, _, _, rfl, upd_same, rfl, _, rfl, _, rfl, by show 6 ≤ sizeLine; decide, fun t ht => ?_⟩
        have nt := ne_of_none upd_same ht
        refine ⟨ζ.NoSuchRank, rfl, T.e_NoSuchRank.E, ⟨_, (upd_ne nt).trans upd_same⟩, .inr ⟨t, _, _, false, rfl, upd_same, .cons (.own _) (.cons (.own _) (.cons (.own _) (.cons (.own _) (.cons (.own _) (.cons (.own _) (.nil)))))), kitAny_cons T.kit_NoSuchRank_NoSuchStep (fun _ => kitAny_cons T.kit_NoSuchRank_NoSuchLevel (fun _ => kitAny_cons T.kit_NoSuchRank_NoSuchNode (fun _ => kitAny_cons T.kit_NoSuchRank_NoSuchState (fun _ => kitAny_cons T.kit_NoSuchRank_NoSuchLetter (fun _ => kitAny_cons T.kit_NoSuchRank_GameError (fun _ => kitAny_nil) (fun z => nomatch z)) (fun z => nomatch z)) (fun z => nomatch z)) (fun z => nomatch z)) (fun z => nomatch z)) (fun z => nomatch z), by show 4 ≤ sizeLine; decide, fun b hb => ?_⟩⟩
        exact ⟨b, _, _, none, _, _, rfl, ((s1.trans (same_new hd)).trans (same_new ht)).trans (same_new hb), upd_same, fun _ => .inl ⟨w1, rfl, rfl⟩, fun q => absurd c q⟩
      · intro d hd
        have n1 := ne_of_none hx1 hd
        refine (show wCl _ _ _ _ _ _ _ _ from ⟨true, T.exm_NoSuchStep_NoSuchStep, ⟨fun _ e he => ?_, fun z => nomatch z⟩⟩)
        refine ⟨_, rfl, ζ.NoSuchStep, rfl, T.e_NoSuchStep.E, ⟨_, upd_same⟩, .inl ⟨_, _, true, rfl, .own _, T.kit_NoSuchStep_OutOfRange, _, rfl, iteT ?_⟩⟩
        refine ⟨_, rfl, ζ.NoSuchStep, rfl, T.e_NoSuchStep.E, ⟨_, upd_same⟩, .inl ⟨_, _, true, rfl, .own _, T.kit_NoSuchStep_LadderreachError, _, rfl, iteT ?_⟩⟩
        refine ⟨_, rfl, ζ.NoSuchStep, rfl, T.e_NoSuchStep.E, ⟨_, upd_same⟩, .inl ⟨_, _, true, rfl, .ty _, T.kit_NoSuchStep_ValueError, ?_⟩⟩
        refine ⟨_, rfl, rfl, rfl, d, _, _, rfl, upd_same, rfl, _, rfl, _, rfl, by show 6 ≤ sizeLine; decide, fun t ht => ?_⟩
        have nt := ne_of_none upd_same ht
        refine ⟨ζ.NoSuchStep, rfl, T.e_NoSuchStep.E, ⟨_, (upd_ne nt).trans upd_same⟩, .inr ⟨t, _, _, false, rfl, upd_same, .cons (.own _) (.cons (.own _) (.cons (.own _) (.cons (.own _) (.cons (.own _) (.cons (.own _) (.nil)))))), kitAny_cons T.kit_NoSuchStep_NoSuchRank (fun _ => kitAny_cons T.kit_NoSuchStep_NoSuchLevel (fun _ => kitAny_cons T.kit_NoSuchStep_NoSuchNode (fun _ => kitAny_cons T.kit_NoSuchStep_NoSuchState (fun _ => kitAny_cons T.kit_NoSuchStep_NoSuchLetter (fun _ => kitAny_cons T.kit_NoSuchStep_GameError (fun _ => kitAny_nil) (fun z => nomatch z)) (fun z => nomatch z)) (fun z => nomatch z)) (fun z => nomatch z)) (fun z => nomatch z)) (fun z => nomatch z), by show 4 ≤ sizeLine; decide, fun b hb => ?_⟩⟩
        exact ⟨b, _, _, none, _, _, rfl, ((s1.trans (same_new hd)).trans (same_new ht)).trans (same_new hb), upd_same, fun _ => .inr (.inl ⟨w1, w2, rfl, rfl⟩), fun q => absurd c q⟩
      · exact ⟨by show 2 ≤ sizeLine; decide, fun b hb => ⟨b, _, _, none, _, _, rfl, s1.trans (same_new hb), upd_same, fun _ => .inr (.inr ⟨w1, w2, o, ho, rfl, rfl⟩), fun q => absurd c q⟩⟩
    · have c : ¬ way = 0 := fun q => c (decide_eq_true q)
      refine ⟨_, rfl, x, dx, _, rfl, hx1, rfl, _, rfl, _, rfl, x, h, ls, one, two, rfl, LA1, hl, h1, h2, fun w1 => ?_, fun w1 w2 => ?_, fun w1 w2 o ho => ?_⟩
      · intro d hd
        have n1 := ne_of_none hx1 hd
        refine (show wCl _ _ _ _ _ _ _ _ from ⟨true, T.exm_NoSuchStep_NoSuchStep, ⟨fun _ e he => ?_, fun z => nomatch z⟩⟩)
        refine ⟨_, rfl, ζ.NoSuchStep, rfl, T.e_NoSuchStep.E, ⟨_, upd_same⟩, .inl ⟨_, _, true, rfl, .own _, T.kit_NoSuchStep_OutOfRange, _, rfl, iteT ?_⟩⟩
        refine ⟨_, rfl, ζ.NoSuchStep, rfl, T.e_NoSuchStep.E, ⟨_, upd_same⟩, .inl ⟨_, _, true, rfl, .own _, T.kit_NoSuchStep_LadderreachError, _, rfl, iteT ?_⟩⟩
        refine ⟨_, rfl, ζ.NoSuchStep, rfl, T.e_NoSuchStep.E, ⟨_, upd_same⟩, .inl ⟨_, _, true, rfl, .ty _, T.kit_NoSuchStep_ValueError, ?_⟩⟩
        refine ⟨_, rfl, rfl, rfl, d, _, _, rfl, upd_same, rfl, _, rfl, _, rfl, by show 6 ≤ sizeLine; decide, fun t ht => ?_⟩
        have nt := ne_of_none upd_same ht
        refine ⟨ζ.NoSuchStep, rfl, T.e_NoSuchStep.E, ⟨_, (upd_ne nt).trans upd_same⟩, .inr ⟨t, _, _, false, rfl, upd_same, .cons (.own _) (.cons (.own _) (.cons (.own _) (.cons (.own _) (.cons (.own _) (.cons (.own _) (.nil)))))), kitAny_cons T.kit_NoSuchStep_NoSuchRank (fun _ => kitAny_cons T.kit_NoSuchStep_NoSuchLevel (fun _ => kitAny_cons T.kit_NoSuchStep_NoSuchNode (fun _ => kitAny_cons T.kit_NoSuchStep_NoSuchState (fun _ => kitAny_cons T.kit_NoSuchStep_NoSuchLetter (fun _ => kitAny_cons T.kit_NoSuchStep_GameError (fun _ => kitAny_nil) (fun z => nomatch z)) (fun z => nomatch z)) (fun z => nomatch z)) (fun z => nomatch z)) (fun z => nomatch z)) (fun z => nomatch z), by show 4 ≤ sizeLine; decide, fun b hb => ?_⟩⟩
        exact ⟨b, _, _, none, _, _, rfl, ((s1.trans (same_new hd)).trans (same_new ht)).trans (same_new hb), upd_same, fun q => absurd q c, fun _ => .inl ⟨w1, rfl, rfl⟩⟩
      · intro d hd
        have n1 := ne_of_none hx1 hd
        refine (show wCl _ _ _ _ _ _ _ _ from ⟨false, T.exm_NoSuchRank_NoSuchStep, ⟨(fun z => nomatch z), fun _ => ⟨true, T.exm_NoSuchRank_NoSuchRank, ⟨fun _ e he => ?_, fun z => nomatch z⟩⟩⟩⟩)
        refine ⟨_, rfl, ζ.NoSuchRank, rfl, T.e_NoSuchRank.E, ⟨_, upd_same⟩, .inl ⟨_, _, true, rfl, .own _, T.kit_NoSuchRank_OutOfRange, _, rfl, iteT ?_⟩⟩
        refine ⟨_, rfl, ζ.NoSuchRank, rfl, T.e_NoSuchRank.E, ⟨_, upd_same⟩, .inl ⟨_, _, true, rfl, .own _, T.kit_NoSuchRank_LadderreachError, _, rfl, iteT ?_⟩⟩
        refine ⟨_, rfl, ζ.NoSuchRank, rfl, T.e_NoSuchRank.E, ⟨_, upd_same⟩, .inl ⟨_, _, true, rfl, .ty _, T.kit_NoSuchRank_ValueError, ?_⟩⟩
        refine ⟨_, rfl, rfl, rfl, d, _, _, rfl, upd_same, rfl, _, rfl, _, rfl, by show 6 ≤ sizeLine; decide, fun t ht => ?_⟩
        have nt := ne_of_none upd_same ht
        refine ⟨ζ.NoSuchRank, rfl, T.e_NoSuchRank.E, ⟨_, (upd_ne nt).trans upd_same⟩, .inr ⟨t, _, _, false, rfl, upd_same, .cons (.own _) (.cons (.own _) (.cons (.own _) (.cons (.own _) (.cons (.own _) (.cons (.own _) (.nil)))))), kitAny_cons T.kit_NoSuchRank_NoSuchStep (fun _ => kitAny_cons T.kit_NoSuchRank_NoSuchLevel (fun _ => kitAny_cons T.kit_NoSuchRank_NoSuchNode (fun _ => kitAny_cons T.kit_NoSuchRank_NoSuchState (fun _ => kitAny_cons T.kit_NoSuchRank_NoSuchLetter (fun _ => kitAny_cons T.kit_NoSuchRank_GameError (fun _ => kitAny_nil) (fun z => nomatch z)) (fun z => nomatch z)) (fun z => nomatch z)) (fun z => nomatch z)) (fun z => nomatch z)) (fun z => nomatch z), by show 4 ≤ sizeLine; decide, fun b hb => ?_⟩⟩
        exact ⟨b, _, _, none, _, _, rfl, ((s1.trans (same_new hd)).trans (same_new ht)).trans (same_new hb), upd_same, fun q => absurd q c, fun _ => .inr (.inl ⟨w1, w2, rfl, rfl⟩)⟩
      · exact ⟨by show 2 ≤ sizeLine; decide, fun b hb => ⟨b, _, _, none, _, _, rfl, s1.trans (same_new hb), upd_same, fun q => absurd q c, fun _ => .inr (.inr ⟨w1, w2, o, ho, rfl, rfl⟩)⟩⟩
  · rintro σ' H' ⟨b, xs, ds, z4, z5, z6, rfl, s2, hb, a1, a2⟩
    exact ⟨_, rfl, kk b H' xs ds s2 hb a1 a2⟩
end
end LR

set_option Elab.async false
set_option maxRecDepth 100000
set_option linter.all false
set_option maxHeartbeats 4000000
namespace LR
open PySem PySem.Spec PyProof.Rows L2
section
variable {P : Program} {w : World} {K : PySem.W.Frag} {mg : Str → Option Value} {base : Heap} {ζ : Cs}
abbrev lawLevel : Nat := 6
theorem ok_law (T : Txt P K mg ζ) {f : Addr} {fd : FuncData} (F : Fun K "law" "law" s_law f fd) : FnOk P w K mg base CX0 6 f fd ["script"] (spLaw K) := by
  have c_pool : Cal P w K mg base 1 "_law_pool" (spPool K) := ok_pool T
  have c_draw : Cal P w K mg base 1 "_law_draw" spDraw := ok_draw T
  have c_wild : Cal P w K mg base 2 "_law_wild" spWild := ok_wild T
  have c_levels : Cal P w K mg base 2 "_law_levels" spLevels := ok_levels T
  have c_Ladder : Mak P w K mg base 2 "Ladder" ζ.Ladder (spInit ζ.Ladder) := ok_init T
  have c_least_due : Cal P w K mg base 2 "_law_least_due" (spLDue K) := ok_ldue T
  have c_greatest_due : Cal P w K mg base 2 "_law_greatest_due" (spGDue K) := ok_gdue T
  have c_asked : Cal P w K mg base 5 "_law_asked" (spAsked ζ.Ladder) := ok_asked T
  have c_sides : Cal P w K mg base 4 "_law_sides" (spSides ζ.Ladder K) := ok_sides T
  have c_same : Cal P w K mg base 4 "_law_same" (spSame 2) := ok_same T 2
  refine F.ok sc_law (fun vs H Q E h => ?_) (fun cdv A outer s H vs Q E hr h => ⟨_, pss_cons (ps_set (i := 1) sc_law.nd rfl (Or.inl rfl) (pe_c c_pool hr (by first | decide | omega) (by rfl) (pa_cons (pv 0) (pa_cons (pe_int) (pa_nil)))))
 (pss_cons (ps_set (i := 2) sc_law.nd rfl (Or.inl rfl) (pe_op op_add (pe_int) (pe_c c_draw hr (by first | decide | omega) (by rfl) (pa_cons (pv 1) (pa_cons (pe_int) (pa_nil))))))
 (pss_cons (ps_set (i := 3) sc_law.nd rfl (Or.inl rfl) (pe_int))
 (pss_cut (ps_if (pt_cmpR op_eq (pe_c c_draw hr (by first | decide | omega) (by rfl) (pa_cons (pv 1) (pa_cons (pe_int) (pa_nil)))) (pe_int) (nomark _))
 (pss_one (ps_set (i := 3) sc_law.nd rfl (Or.inl rfl) (pe_int)))
 (pss_nil))
 (pss_cons (ps_set (i := 4) sc_law.nd rfl (Or.inl rfl) (pe_c c_levels hr (by first | decide | omega) (by rfl) (pa_cons (pv 1) (pa_cons (pv 2) (pa_cons (pv 3) (pa_nil))))))
 (pss_cons (ps_set (i := 5) sc_law.nd rfl (Or.inl rfl) (pe_callTy call_list_of (by rfl) T.n_list b_list (pa_cons (pv 4) (pa_nil))))
 (pss_cons (ps_set (i := 6) sc_law.nd rfl (Or.inl rfl) (pe_mk c_Ladder hr (by first | decide | omega) (by rfl) (pa_cons (pv 2) (pa_cons (pv 5) (pa_nil)))))
 (pss_cons (ps_set (i := 1) sc_law.nd rfl (Or.inl rfl) (pe_c c_pool hr (by first | decide | omega) (by rfl) (pa_cons (pv 0) (pa_cons (pe_int) (pa_nil)))))
 (pss_cons (ps_for PassesOwn.never rfl (pi_range1 rfl T.n_range (pa_cons (pe_int) (pa_nil))) (pg_name (i := 7) sc_law.nd rfl (Or.inl rfl))
 (pss_cons (ps_set (i := 8) sc_law.nd rfl (Or.inl rfl) (pe_c c_wild hr (by first | decide | omega) (by rfl) (pa_cons (pv 1) (pa_cons (pe_int) (pa_cons (pe_op op_mul (pe_int) (pv 2)) (pa_nil))))))
 (pss_cons (ps_set (i := 9) sc_law.nd rfl (Or.inl rfl) (pe_c c_wild hr (by first | decide | omega) (by rfl) (pa_cons (pv 1) (pa_cons (pe_int) (pa_cons (pe_callB call_len_seq (by rfl) T.n_len b_len (pa_cons (pv 4) (pa_nil))) (pa_nil))))))
 (pss_cons (ps_set (i := 10) sc_law.nd rfl (Or.inl rfl) (pe_c c_wild hr (by first | decide | omega) (by rfl) (pa_cons (pv 1) (pa_cons (pe_int) (pa_cons (pe_callB call_len_seq (by rfl) T.n_len b_len (pa_cons (pv 4) (pa_nil))) (pa_nil))))))
 (pss_cons (ps_set (i := 11) sc_law.nd rfl (Or.inl rfl) (pe_c c_least_due hr (by first | decide | omega) (by rfl) (pa_cons (pv 4) (pa_cons (pv 2) (pa_cons (pv 8) (pa_cons (pv 9) (pa_nil)))))))
 (pss_cons (ps_set (i := 12) sc_law.nd rfl (Or.inl rfl) (pe_c c_greatest_due hr (by first | decide | omega) (by rfl) (pa_cons (pv 4) (pa_cons (pv 2) (pa_cons (pv 10) (pa_cons (pv 8) (pa_nil)))))))
 (pss_cons (ps_if (pt_not (pt_val (pe_c c_same hr (by first | decide | omega) (by rfl) (pa_cons (pe_c c_asked hr (by first | decide | omega) (by rfl) (pa_cons (pv 6) (pa_cons (pe_int) (pa_cons (pv 8) (pa_cons (pv 9) (pa_nil)))))) (pa_cons (pv 11) (pa_nil))))))
 (pss_one (ps_ret (pe_bl)))
 (pss_nil))
 (pss_cons (ps_if (pt_not (pt_val (pe_c c_same hr (by first | decide | omega) (by rfl) (pa_cons (pe_c c_asked hr (by first | decide | omega) (by rfl) (pa_cons (pv 6) (pa_cons (pe_int) (pa_cons (pv 10) (pa_cons (pv 8) (pa_nil)))))) (pa_cons (pv 12) (pa_nil))))))
 (pss_one (ps_ret (pe_bl)))
 (pss_nil))
 (pss_one (ps_if (pt_not (pt_val (pe_c c_sides hr (by first | decide | omega) (by rfl) (pa_cons (pv 6) (pa_cons (pv 4) (pa_cons (pv 8) (pa_cons (pv 9) (pa_cons (pv 10) (pa_cons (pv 11) (pa_cons (pv 12) (pa_nil)))))))))))
 (pss_one (ps_ret (pe_bl)))
 (pss_nil)))))))))))
 (pss_one (ps_ret (pe_c c_same hr (by first | decide | omega) (by rfl) (pa_cons (pv 5) (pa_cons (pv 4) (pa_nil)))))))))))))), ?_⟩)
  · obtain ⟨a, ns, rfl, _⟩ := h; rfl
  obtain ⟨a, ns, rfl, hS, kk⟩ := h
  refine ⟨_, rfl, a, ns, 0, rfl, hS, fun p x1 x2 x3 x4 hp => ?_⟩
  have p1 : IsPool (upd H p (.lst [.int x1, .int x2, .int x3, .int x4])) p := .upd
  have k1 : Keep p H (upd H p (.lst [.int x1, .int x2, .int x3, .int x4])) := Keep.refl.upd
  generalize upd H p (.lst [.int x1, .int x2, .int x3, .int x4]) = H1 at p1 k1 ⊢
  refine ⟨_, rfl, p, 3, rfl, p1, by decide, by decide, fun h0 H2 h00 h01 k2 p2 => ⟨_, _, rfl, rfl, ?_⟩⟩
  refine ⟨fun σ' H' => Keep p H H' ∧ IsPool H' p ∧ ∃ lim : Int, (0 ≤ lim ∧ lim ≤ 24) ∧ σ' = [some (.ref a), some (.ref p), some (.int (1 + h0)), some (.int lim), none, none, none, none, none, none, none, none, none], ?_, ?_⟩
  · refine ⟨_, rfl, p, 16, rfl, p2, by decide, by decide, fun d H3 d0 d1 k3 p3 => ⟨rfl, _, rfl, ite2 (fun _ => ?_) (fun _ => ?_)⟩⟩
    · exact ⟨(k1.trans k2).trans k3, p3, 24, ⟨by decide, by decide⟩, rfl⟩
    · exact ⟨(k1.trans k2).trans k3, p3, 7, ⟨by decide, by decide⟩, rfl⟩
  rintro σ' H3 ⟨k3, p3, lim, ⟨l0, l1⟩, rfl⟩
  refine ⟨_, rfl, _, rfl, _, rfl, p, _, lim, rfl, p3, ⟨by omega, by omega⟩, ⟨l0, by omega⟩, fun H4 D ls k4 p4 hD h4 hlen hb => ?_⟩
  have kk4 := k3.trans k4
  refine ⟨_, rfl, D, _, rfl, .inl (SqL.of h4), fun E1 hE1 => ?_⟩
  have s5 : Same H4 (upd H4 E1 (.lst (ls.map V.int))) := same_new hE1
  have h5 : (upd H4 E1 (.lst (ls.map V.int))) E1 = some (.lst (ls.map V.int)) := upd_same
  have h5D := s5 _ _ h4
  have kk5 := kk4.same s5
  generalize upd H4 E1 (.lst (ls.map V.int)) = H5 at s5 h5 h5D kk5 ⊢
  refine ⟨_, rfl, _, rfl, fun x dx nx ndx nex => ?_⟩
  have s6 : Same H5 (upd (upd H5 dx (.own x)) x (.ins ζ.Ladder dx [])) := (same_new ndx).new (by rw [upd_ne nex.symm]; exact nx)
  refine ⟨x, E1, dx, 1 + h0, ls, rfl, upd_same, s6 _ _ h5, by omega, by omega, hb, fun H7 k7 LA => ⟨rfl, ?_⟩⟩
  have s7 : Same H5 H7 := fun b o e => k7 b (ne_of_none e nx) o (s6 b o e)
  have h7 := s7 _ _ h5
  have h7D := s7 _ _ h5D
  have kk7 := kk5.same s7
  refine ⟨_, rfl, a, ns, 1, rfl, seq_after hS hp kk7, fun q y1 y2 y3 y4 hq => ?_⟩
  have qD := ne_of_none h7D hq
  have qE := ne_of_none h7 hq
  have p8 : IsPool (upd H7 q (.lst [.int y1, .int y2, .int y3, .int y4])) q := .upd
  have s8 : Same H7 (upd H7 q (.lst [.int y1, .int y2, .int y3, .int y4])) := same_new hq
  have h8D := s8 _ _ h7D
  have h8E := s8 _ _ h7
  have LA8 := LA.same s8
  generalize upd H7 q (.lst [.int y1, .int y2, .int y3, .int y4]) = H8 at p8 s8 h8D h8E LA8 ⊢
  have lst8 : ∃ l, H8 q = some (.lst l) := by obtain ⟨_, _, _, _, e⟩ := p8; exact ⟨_, e⟩
  have big : ∀ v : Int, -3000000 ≤ v → v ≤ 3000000 → v.natAbs < 2 ^ 1900 := fun v a b => Nat.lt_of_le_of_lt (show v.natAbs ≤ 3000000 by omega) (Nat.lt_of_lt_of_le (show 3000000 < 2 ^ 22 by decide) (Nat.pow_le_pow_right (by decide) (by decide)))
  have ll : (ls.map V.int).length = ls.length := List.length_map ..
  refine ⟨_, rfl, by decide, by decide, ?_⟩
  refine for_range (lo := 0) (n := 3) (fun i σ H' => Keep q H8 H' ∧ IsPool H' q ∧ ∃ z7 z8 z9 z10 z11 z12 : Option V, σ = [some (.ref a), some (.ref q), some (.int (1 + h0)), some (.int lim), some (.ref D), some (.ref E1), some (.ref x), z7, z8, z9, z10, z11, z12]) ⟨.refl, p8, none, none, none, none, none, none, rfl⟩ ?_ ?_
  · rintro i σ H' hi ⟨kI, pI, z7, z8, z9, z10, z11, z12, rfl⟩
    refine ⟨_, rfl, _, rfl, _, _, rfl, rfl, .inl ⟨by decide, by decide⟩, q, 0, 2 * (1 + h0), rfl, pI, ⟨by omega, by omega, by omega⟩, fun rk Ha r0 r1 ka pa => ?_⟩
    have ka := kI.trans ka
    refine ⟨_, rfl, _, rfl, D, _, rfl, .inl (SqL.of (ka _ qD _ h8D)), q, 0, _, rfl, pa, ⟨by omega, by omega, by omega⟩, fun gl Hb g0 g1 kb pb => ?_⟩
    have kb := ka.trans kb
    refine ⟨_, rfl, _, rfl, D, _, rfl, .inl (SqL.of (kb _ qD _ h8D)), q, 0, _, rfl, pb, ⟨by omega, by omega, by omega⟩, fun sr Hc c0 c1 kc pc => ?_⟩
    have kc := kb.trans kc
    refine ⟨_, rfl, _, rfl, _, rfl, _, rfl, D, ls, _, rk, gl, rfl, SqL.of (kc _ qD _ h8D), by omega, ⟨by omega, by omega⟩, big _ r0 r1, big _ g0 g1, fun bu Hd xs ds sd hbu la => ?_⟩
    have kd := kc.same sd
    refine ⟨_, rfl, _, rfl, _, rfl, _, rfl, D, ls, _, sr, rk, rfl, SqL.of (kd _ qD _ h8D), by omega, ⟨by omega, by omega⟩, big _ c0 c1, big _ r0 r1, fun bg He ys es se hbg ga => ?_⟩
    have ke := kd.same se
    have hbu := se _ _ hbu
    refine ⟨_, rfl, _, rfl, _, rfl, x, _, ls, 0, rk, gl, rfl, LA8.keep ke lst8, by omega, big _ r0 r1, big _ g0 g1, fun b1 Hf as1 fs1 sf hb1 a1 _ => ?_⟩
    have kf := ke.same sf
    have hbu := sf _ _ hbu
    have hbg := sf _ _ hbg
    have la1 := a1 rfl
    refine ⟨_, rfl, _, _, .lst fs1, .lst ds, rfl, .lst hb1 (la1.ats Hf).1 (la1.ats Hf).2.1, .lst hbu (la.ats Hf).1 (la.ats Hf).2.1, by rw [dep]; exact Nat.succ_lt_succ (la.ats Hf).2.2, fun r hr1 => ⟨_, rfl, ?_⟩⟩
    rw [hr1.mpr (by rw [la1.one la])]
    refine iteF ?_
    refine ⟨_, rfl, _, rfl, _, rfl, x, _, ls, 1, sr, rk, rfl, LA8.keep kf lst8, by omega, big _ c0 c1, big _ r0 r1, fun b2 Hg as2 fs2 sg hb2 _ a2 => ?_⟩
    have kg := kf.same sg
    have hbu := sg _ _ hbu
    have hbg := sg _ _ hbg
    have ga1 := a2 (by decide)
    refine ⟨_, rfl, _, _, .lst fs2, .lst es, rfl, .lst hb2 (ga1.ats Hg).1 (ga1.ats Hg).2.1, .lst hbg (ga.ats Hg).1 (ga.ats Hg).2.1, by rw [dep]; exact Nat.succ_lt_succ (ga.ats Hg).2.2, fun r hr2 => ⟨_, rfl, ?_⟩⟩
    rw [hr2.mpr (by rw [ga1.one ga])]
    refine iteF ?_
    refine ⟨_, rfl, _, rfl, _, rfl, _, rfl, _, rfl, _, rfl, _, rfl, x, D, bu, bg, ls, _, rk, gl, sr, xs, ys, ds, es, rfl, LA8.keep kg lst8, SqL.of (kg _ qD _ h8D), by omega, hbu, la, hbg, ga, _, rfl, ?_⟩
    exact iteF ⟨kg, ((((pc.same sd).same se).same sf).same sg), _, _, _, _, _, _, rfl⟩
  · rintro σ H' ⟨kI, pI, z7, z8, z9, z10, z11, z12, rfl⟩
    refine ⟨_, rfl, _, rfl, _, _, _, _, rfl, .lst (kI _ qE _ h8E) (ats_ints _ _) (by omega), .lst (kI _ qD _ h8D) (ats_ints _ _) (by omega), ?_, fun b hb2 => ?_⟩
    · rw [dep, deps_ints]; decide
    rw [hb2.mpr rfl]
    exact kk _
end
end LR

set_option Elab.async false
set_option maxRecDepth 100000
set_option linter.all false
set_option maxHeartbeats 4000000
namespace LR
open PySem PySem.Spec PyProof.Rows L2
theorem all_mk {P : Program} {K : PySem.W.Frag} {h : Heap} {mg : Str → Option Value} (X : K.In h) (G : h.Ns mainGlobals mg)
    {od_check_height an_check_height : Option Addr} {sl_check_height : Array (Option Value)} {oc_check_height kV_check_height dc_check_height pm_check_height ct_check_height : Value} {f_check_height : Addr} {cd_check_height : Value} {od_check_row an_check_row : Option Addr} {sl_check_row : Array (Option Value)} {oc_check_row kV_check_row dc_check_row pm_check_row ct_check_row : Value} {f_check_row : Addr} {cd_check_row : Value} {od_check_step an_check_step : Option Addr} {sl_check_step : Array (Option Value)} {oc_check_step kV_check_step dc_check_step pm_check_step ct_check_step : Value} {f_check_step : Addr} {cd_check_step : Value} {od_check_rank an_check_rank : Option Addr} {sl_check_rank : Array (Option Value)} {oc_check_rank kV_check_rank dc_check_rank pm_check_rank ct_check_rank : Value} {f_check_rank : Addr} {cd_check_rank : Value} {od__counts_from an__counts_from : Option Addr} {sl__counts_from : Array (Option Value)} {oc__counts_from kV__counts_from dc__counts_from pm__counts_from ct__counts_from : Value} {f__counts_from : Addr} {cd__counts_from : Value} {od_pool an_pool : Option Addr} {sl_pool : Array (Option Value)} {oc_pool kV_pool dc_pool pm_pool ct_pool : Value} {f_pool : Addr} {cd_pool : Value} {od_draw an_draw : Option Addr} {sl_draw : Array (Option Value)} {oc_draw kV_draw dc_draw pm_draw ct_draw : Value} {f_draw : Addr} {cd_draw : Value} {od_levels an_levels : Option Addr} {sl_levels : Array (Option Value)} {oc_levels kV_levels dc_levels pm_levels ct_levels : Value} {f_levels : Addr} {cd_levels : Value} {od_number an_number : Option Addr} {sl_number : Array (Option Value)} {oc_number kV_number dc_number pm_number ct_number : Value} {f_number : Addr} {cd_number : Value} {od_same an_same : Option Addr} {sl_same : Array (Option Value)} {oc_same kV_same dc_same pm_same ct_same : Value} {f_same : Addr} {cd_same : Value} {od_wild an_wild : Option Addr} {sl_wild : Array (Option Value)} {oc_wild kV_wild dc_wild pm_wild ct_wild : Value} {f_wild : Addr} {cd_wild : Value} {od_lowest an_lowest : Option Addr} {sl_lowest : Array (Option Value)} {oc_lowest kV_lowest dc_lowest pm_lowest ct_lowest : Value} {f_lowest : Addr} {cd_lowest : Value} {od_highest an_highest : Option Addr} {sl_highest : Array (Option Value)} {oc_highest kV_highest dc_highest pm_highest ct_highest : Value} {f_highest : Addr} {cd_highest : Value} {od_asked an_asked : Option Addr} {sl_asked : Array (Option Value)} {oc_asked kV_asked dc_asked pm_asked ct_asked : Value} {f_asked : Addr} {cd_asked : Value} {od_least_due an_least_due : Option Addr} {sl_least_due : Array (Option Value)} {oc_least_due kV_least_due dc_least_due pm_least_due ct_least_due : Value} {f_least_due : Addr} {cd_least_due : Value} {od_greatest_due an_greatest_due : Option Addr} {sl_greatest_due : Array (Option Value)} {oc_greatest_due kV_greatest_due dc_greatest_due pm_greatest_due ct_greatest_due : Value} {f_greatest_due : Addr} {cd_greatest_due : Value} {od_sides an_sides : Option Addr} {sl_sides : Array (Option Value)} {oc_sides kV_sides dc_sides pm_sides ct_sides : Value} {f_sides : Addr} {cd_sides : Value} {od_law an_law : Option Addr} {sl_law : Array (Option Value)} {oc_law kV_law dc_law pm_law ct_law : Value} {f_law : Addr} {cd_law : Value} {C_Ladder : Addr} {od_L_init an_L_init : Option Addr} {sl_L_init : Array (Option Value)} {oc_L_init kV_L_init dc_L_init pm_L_init ct_L_init : Value} {f_L_init : Addr} {cd_L_init : Value} {od_L_allows an_L_allows : Option Addr} {sl_L_allows : Array (Option Value)} {oc_L_allows kV_L_allows dc_L_allows pm_L_allows ct_L_allows : Value} {f_L_allows : Addr} {cd_L_allows : Value} {od_L_least an_L_least : Option Addr} {sl_L_least : Array (Option Value)} {oc_L_least kV_L_least dc_L_least pm_L_least ct_L_least : Value} {f_L_least : Addr} {cd_L_least : Value} {od_L_greatest an_L_greatest : Option Addr} {sl_L_greatest : Array (Option Value)} {oc_L_greatest kV_L_greatest dc_L_greatest pm_L_greatest ct_L_greatest : Value} {f_L_greatest : Addr} {cd_L_greatest : Value} {od_Llets an_Llets : Option Addr} {sl_Llets : Array (Option Value)} {oc_Llets kV_Llets dc_Llets pm_Llets ct_Llets : Value} {f_Llets : Addr} {cd_Llets : Value} {u_Ladder_MOST_LEVELS : Value} {C_NoSuchStep : Addr} {nm_NoSuchStep qn_NoSuchStep : Str} {ns_NoSuchStep : Addr} {bs_NoSuchStep bm_NoSuchStep sb_NoSuchStep : List Value} {sn_NoSuchStep : List Str} {ab_NoSuchStep : Bool} {co_NoSuchStep : Option Bool} {dd_NoSuchStep : Option Addr} {k0_NoSuchStep k1_NoSuchStep k2_NoSuchStep k3_NoSuchStep k5_NoSuchStep : Option Value} {od_NoSuchStep_init an_NoSuchStep_init : Option Addr} {sl_NoSuchStep_init : Array (Option Value)} {oc_NoSuchStep_init kV_NoSuchStep_init dc_NoSuchStep_init pm_NoSuchStep_init ct_NoSuchStep_init : Value} {f_NoSuchStep_init : Addr} {cda_NoSuchStep_init cc_NoSuchStep_init : Addr} {ccl_NoSuchStep_init : Value} {cdd_NoSuchStep_init : Option Addr} {cvs_NoSuchStep_init : Array Value} {ccs_NoSuchStep_init : Array (Option Value)} {cfi_NoSuchStep_init : Str} {ctf_NoSuchStep_init : Tok} {ecl_NoSuchStep_init : Value} {eld_NoSuchStep_init : Option Addr} {esl_NoSuchStep_init : Array (Option Value)} {C_NoSuchRank : Addr} {nm_NoSuchRank qn_NoSuchRank : Str} {ns_NoSuchRank : Addr} {bs_NoSuchRank bm_NoSuchRank sb_NoSuchRank : List Value} {sn_NoSuchRank : List Str} {ab_NoSuchRank : Bool} {co_NoSuchRank : Option Bool} {dd_NoSuchRank : Option Addr} {k0_NoSuchRank k1_NoSuchRank k2_NoSuchRank k3_NoSuchRank k5_NoSuchRank : Option Value} {od_NoSuchRank_init an_NoSuchRank_init : Option Addr} {sl_NoSuchRank_init : Array (Option Value)} {oc_NoSuchRank_init kV_NoSuchRank_init dc_NoSuchRank_init pm_NoSuchRank_init ct_NoSuchRank_init : Value} {f_NoSuchRank_init : Addr} {cda_NoSuchRank_init cc_NoSuchRank_init : Addr} {ccl_NoSuchRank_init : Value} {cdd_NoSuchRank_init : Option Addr} {cvs_NoSuchRank_init : Array Value} {ccs_NoSuchRank_init : Array (Option Value)} {cfi_NoSuchRank_init : Str} {ctf_NoSuchRank_init : Tok} {ecl_NoSuchRank_init : Value} {eld_NoSuchRank_init : Option Addr} {esl_NoSuchRank_init : Array (Option Value)} {C_OutOfRange : Addr} {C_LadderreachError : Addr} {C_NoSuchLevel : Addr} {C_NoSuchNode : Addr} {C_NoSuchState : Addr} {C_NoSuchLetter : Addr} {C_GameError : Addr}
    (z_super : PySem.W.nsIn K mainGlobals "super" = some none)
    (z_any : PySem.W.nsIn K cStatics "thirdparty.any" = some none)
    (z_top : (P.main.scope.names.lookup ("super" : Str)).isSome = false)
    (z_len : PySem.W.nsIn K mainGlobals "len" = some none)
    (z_abs : PySem.W.nsIn K mainGlobals "abs" = some none)
    (z_max : PySem.W.nsIn K mainGlobals "max" = some none)
    (z_min : PySem.W.nsIn K mainGlobals "min" = some none)
    (z_isinstance : PySem.W.nsIn K mainGlobals "isinstance" = some none)
    (z_int : PySem.W.nsIn K mainGlobals "int" = some none)
    (z_bool : PySem.W.nsIn K mainGlobals "bool" = some none)
    (z_str : PySem.W.nsIn K mainGlobals "str" = some none)
    (z_list : PySem.W.nsIn K mainGlobals "list" = some none)
    (z_tuple : PySem.W.nsIn K mainGlobals "tuple" = some none)
    (z_range : PySem.W.nsIn K mainGlobals "range" = some none)
    (z_enumerate : PySem.W.nsIn K mainGlobals "enumerate" = some none)
    (z_reversed : PySem.W.nsIn K mainGlobals "reversed" = some none)
    (z_ValueError : PySem.W.nsIn K mainGlobals "ValueError" = some none)
    (o_gt : PySem.W.specialIn K (.builtin "object.__class__") "__get__" = some (some (.builtin "getset_descriptor.__get__")))
    (o_tk : PySem.W.takesIn K (.builtin "object.__class__") = some true)
    (a_check_height : PySem.W.nsIn K mainGlobals "check_height" = some (some (.ref f_check_height)))
    (l_check_height : K.lookup f_check_height = some ⟨oc_check_height, od_check_height, .func (PySem.W.fnOf "check_height" "check_height" (defArgs s_check_height) (defBody s_check_height) (defScope s_check_height) .none kV_check_height dc_check_height pm_check_height an_check_height cd_check_height ct_check_height), sl_check_height⟩)
    (c_check_height : PySem.W.codeIn K cd_check_height "check_height" = true)
    (k_check_height : PySem.W.keepIn K (.ref f_check_height) = true)
    (a_check_row : PySem.W.nsIn K mainGlobals "check_row" = some (some (.ref f_check_row)))
    (l_check_row : K.lookup f_check_row = some ⟨oc_check_row, od_check_row, .func (PySem.W.fnOf "check_row" "check_row" (defArgs s_check_row) (defBody s_check_row) (defScope s_check_row) .none kV_check_row dc_check_row pm_check_row an_check_row cd_check_row ct_check_row), sl_check_row⟩)
    (c_check_row : PySem.W.codeIn K cd_check_row "check_row" = true)
    (k_check_row : PySem.W.keepIn K (.ref f_check_row) = true)
    (a_check_step : PySem.W.nsIn K mainGlobals "check_step" = some (some (.ref f_check_step)))
    (l_check_step : K.lookup f_check_step = some ⟨oc_check_step, od_check_step, .func (PySem.W.fnOf "check_step" "check_step" (defArgs s_check_step) (defBody s_check_step) (defScope s_check_step) .none kV_check_step dc_check_step pm_check_step an_check_step cd_check_step ct_check_step), sl_check_step⟩)
    (c_check_step : PySem.W.codeIn K cd_check_step "check_step" = true)
    (k_check_step : PySem.W.keepIn K (.ref f_check_step) = true)
    (a_check_rank : PySem.W.nsIn K mainGlobals "check_rank" = some (some (.ref f_check_rank)))
    (l_check_rank : K.lookup f_check_rank = some ⟨oc_check_rank, od_check_rank, .func (PySem.W.fnOf "check_rank" "check_rank" (defArgs s_check_rank) (defBody s_check_rank) (defScope s_check_rank) .none kV_check_rank dc_check_rank pm_check_rank an_check_rank cd_check_rank ct_check_rank), sl_check_rank⟩)
    (c_check_rank : PySem.W.codeIn K cd_check_rank "check_rank" = true)
    (k_check_rank : PySem.W.keepIn K (.ref f_check_rank) = true)
    (a__counts_from : PySem.W.nsIn K mainGlobals "_counts_from" = some (some (.ref f__counts_from)))
    (l__counts_from : K.lookup f__counts_from = some ⟨oc__counts_from, od__counts_from, .func (PySem.W.fnOf "_counts_from" "_counts_from" (defArgs s__counts_from) (defBody s__counts_from) (defScope s__counts_from) .none kV__counts_from dc__counts_from pm__counts_from an__counts_from cd__counts_from ct__counts_from), sl__counts_from⟩)
    (c__counts_from : PySem.W.codeIn K cd__counts_from "_counts_from" = true)
    (k__counts_from : PySem.W.keepIn K (.ref f__counts_from) = true)
    (a_pool : PySem.W.nsIn K mainGlobals "_law_pool" = some (some (.ref f_pool)))
    (l_pool : K.lookup f_pool = some ⟨oc_pool, od_pool, .func (PySem.W.fnOf "_law_pool" "_law_pool" (defArgs s_pool) (defBody s_pool) (defScope s_pool) .none kV_pool dc_pool pm_pool an_pool cd_pool ct_pool), sl_pool⟩)
    (c_pool : PySem.W.codeIn K cd_pool "_law_pool" = true)
    (k_pool : PySem.W.keepIn K (.ref f_pool) = true)
    (a_draw : PySem.W.nsIn K mainGlobals "_law_draw" = some (some (.ref f_draw)))
    (l_draw : K.lookup f_draw = some ⟨oc_draw, od_draw, .func (PySem.W.fnOf "_law_draw" "_law_draw" (defArgs s_draw) (defBody s_draw) (defScope s_draw) .none kV_draw dc_draw pm_draw an_draw cd_draw ct_draw), sl_draw⟩)
    (c_draw : PySem.W.codeIn K cd_draw "_law_draw" = true)
    (k_draw : PySem.W.keepIn K (.ref f_draw) = true)
    (a_levels : PySem.W.nsIn K mainGlobals "_law_levels" = some (some (.ref f_levels)))
    (l_levels : K.lookup f_levels = some ⟨oc_levels, od_levels, .func (PySem.W.fnOf "_law_levels" "_law_levels" (defArgs s_levels) (defBody s_levels) (defScope s_levels) .none kV_levels dc_levels pm_levels an_levels cd_levels ct_levels), sl_levels⟩)
    (c_levels : PySem.W.codeIn K cd_levels "_law_levels" = true)
    (k_levels : PySem.W.keepIn K (.ref f_levels) = true)
    (a_number : PySem.W.nsIn K mainGlobals "_law_number" = some (some (.ref f_number)))
    (l_number : K.lookup f_number = some ⟨oc_number, od_number, .func (PySem.W.fnOf "_law_number" "_law_number" (defArgs s_number) (defBody s_number) (defScope s_number) .none kV_number dc_number pm_number an_number cd_number ct_number), sl_number⟩)
    (c_number : PySem.W.codeIn K cd_number "_law_number" = true)
    (k_number : PySem.W.keepIn K (.ref f_number) = true)
    (a_same : PySem.W.nsIn K mainGlobals "_law_same" = some (some (.ref f_same)))
    (l_same : K.lookup f_same = some ⟨oc_same, od_same, .func (PySem.W.fnOf "_law_same" "_law_same" (defArgs s_same) (defBody s_same) (defScope s_same) .none kV_same dc_same pm_same an_same cd_same ct_same), sl_same⟩)
    (c_same : PySem.W.codeIn K cd_same "_law_same" = true)
    (k_same : PySem.W.keepIn K (.ref f_same) = true)
    (a_wild : PySem.W.nsIn K mainGlobals "_law_wild" = some (some (.ref f_wild)))
    (l_wild : K.lookup f_wild = some ⟨oc_wild, od_wild, .func (PySem.W.fnOf "_law_wild" "_law_wild" (defArgs s_wild) (defBody s_wild) (defScope s_wild) .none kV_wild dc_wild pm_wild an_wild cd_wild ct_wild), sl_wild⟩)
    (c_wild : PySem.W.codeIn K cd_wild "_law_wild" = true)
    (k_wild : PySem.W.keepIn K (.ref f_wild) = true)
    (a_lowest : PySem.W.nsIn K mainGlobals "_law_lowest" = some (some (.ref f_lowest)))
    (l_lowest : K.lookup f_lowest = some ⟨oc_lowest, od_lowest, .func (PySem.W.fnOf "_law_lowest" "_law_lowest" (defArgs s_lowest) (defBody s_lowest) (defScope s_lowest) .none kV_lowest dc_lowest pm_lowest an_lowest cd_lowest ct_lowest), sl_lowest⟩)
    (c_lowest : PySem.W.codeIn K cd_lowest "_law_lowest" = true)
    (k_lowest : PySem.W.keepIn K (.ref f_lowest) = true)
    (a_highest : PySem.W.nsIn K mainGlobals "_law_highest" = some (some (.ref f_highest)))
    (l_highest : K.lookup f_highest = some ⟨oc_highest, od_highest, .func (PySem.W.fnOf "_law_highest" "_law_highest" (defArgs s_highest) (defBody s_highest) (defScope s_highest) .none kV_highest dc_highest pm_highest an_highest cd_highest ct_highest), sl_highest⟩)
    (c_highest : PySem.W.codeIn K cd_highest "_law_highest" = true)
    (k_highest : PySem.W.keepIn K (.ref f_highest) = true)
    (a_asked : PySem.W.nsIn K mainGlobals "_law_asked" = some (some (.ref f_asked)))
    (l_asked : K.lookup f_asked = some ⟨oc_asked, od_asked, .func (PySem.W.fnOf "_law_asked" "_law_asked" (defArgs s_asked) (defBody s_asked) (defScope s_asked) .none kV_asked dc_asked pm_asked an_asked cd_asked ct_asked), sl_asked⟩)
    (c_asked : PySem.W.codeIn K cd_asked "_law_asked" = true)
    (k_asked : PySem.W.keepIn K (.ref f_asked) = true)
    (a_least_due : PySem.W.nsIn K mainGlobals "_law_least_due" = some (some (.ref f_least_due)))
    (l_least_due : K.lookup f_least_due = some ⟨oc_least_due, od_least_due, .func (PySem.W.fnOf "_law_least_due" "_law_least_due" (defArgs s_least_due) (defBody s_least_due) (defScope s_least_due) .none kV_least_due dc_least_due pm_least_due an_least_due cd_least_due ct_least_due), sl_least_due⟩)
    (c_least_due : PySem.W.codeIn K cd_least_due "_law_least_due" = true)
    (k_least_due : PySem.W.keepIn K (.ref f_least_due) = true)
    (a_greatest_due : PySem.W.nsIn K mainGlobals "_law_greatest_due" = some (some (.ref f_greatest_due)))
    (l_greatest_due : K.lookup f_greatest_due = some ⟨oc_greatest_due, od_greatest_due, .func (PySem.W.fnOf "_law_greatest_due" "_law_greatest_due" (defArgs s_greatest_due) (defBody s_greatest_due) (defScope s_greatest_due) .none kV_greatest_due dc_greatest_due pm_greatest_due an_greatest_due cd_greatest_due ct_greatest_due), sl_greatest_due⟩)
    (c_greatest_due : PySem.W.codeIn K cd_greatest_due "_law_greatest_due" = true)
    (k_greatest_due : PySem.W.keepIn K (.ref f_greatest_due) = true)
    (a_sides : PySem.W.nsIn K mainGlobals "_law_sides" = some (some (.ref f_sides)))
    (l_sides : K.lookup f_sides = some ⟨oc_sides, od_sides, .func (PySem.W.fnOf "_law_sides" "_law_sides" (defArgs s_sides) (defBody s_sides) (defScope s_sides) .none kV_sides dc_sides pm_sides an_sides cd_sides ct_sides), sl_sides⟩)
    (c_sides : PySem.W.codeIn K cd_sides "_law_sides" = true)
    (k_sides : PySem.W.keepIn K (.ref f_sides) = true)
    (a_law : PySem.W.nsIn K mainGlobals "law" = some (some (.ref f_law)))
    (l_law : K.lookup f_law = some ⟨oc_law, od_law, .func (PySem.W.fnOf "law" "law" (defArgs s_law) (defBody s_law) (defScope s_law) .none kV_law dc_law pm_law an_law cd_law ct_law), sl_law⟩)
    (c_law : PySem.W.codeIn K cd_law "law" = true)
    (k_law : PySem.W.keepIn K (.ref f_law) = true)
    (aC_Ladder : PySem.W.nsIn K mainGlobals "Ladder" = some (some (.ref C_Ladder)))
    (pg_Ladder : PySem.W.plainGet K C_Ladder Str.empty = true)
    (hd_Ladder : PySem.W.hasDictIn K C_Ladder = true)
    (po_Ladder : PySem.W.plainOver K C_Ladder = true)
    (sa_Ladder : PySem.W.findIn K (.ref C_Ladder) "__setattr__" = some (some (.builtin "object.__setattr__")))
    (na_Ladder_height : PySem.W.findIn K (.ref C_Ladder) "height" = some none)
    (na_Ladder_levels : PySem.W.findIn K (.ref C_Ladder) "levels" = some none)
    (na_Ladder_top : PySem.W.findIn K (.ref C_Ladder) "top" = some none)
    (na_Ladder__counts : PySem.W.findIn K (.ref C_Ladder) "_counts" = some none)
    (mk_Ladder : PySem.W.makesIn K C_Ladder = true)
    (kc_Ladder : PySem.W.keepIn K (.ref C_Ladder) = true)
    (a_L_init : PySem.W.findIn K (.ref C_Ladder) "__init__" = some (some (.ref f_L_init)))
    (i_L_init : PySem.W.isFn K (.ref f_L_init) = true)
    (l_L_init : K.lookup f_L_init = some ⟨oc_L_init, od_L_init, .func (PySem.W.fnOf "__init__" "Ladder.__init__" (defArgs s_L_init) (defBody s_L_init) (defScope s_L_init) .none kV_L_init dc_L_init pm_L_init an_L_init cd_L_init ct_L_init), sl_L_init⟩)
    (c_L_init : PySem.W.codeIn K cd_L_init "Ladder.__init__" = true)
    (k_L_init : PySem.W.keepIn K (.ref f_L_init) = true)
    (a_L_allows : PySem.W.findIn K (.ref C_Ladder) "allows" = some (some (.ref f_L_allows)))
    (i_L_allows : PySem.W.isFn K (.ref f_L_allows) = true)
    (l_L_allows : K.lookup f_L_allows = some ⟨oc_L_allows, od_L_allows, .func (PySem.W.fnOf "allows" "Ladder.allows" (defArgs s_L_allows) (defBody s_L_allows) (defScope s_L_allows) .none kV_L_allows dc_L_allows pm_L_allows an_L_allows cd_L_allows ct_L_allows), sl_L_allows⟩)
    (c_L_allows : PySem.W.codeIn K cd_L_allows "Ladder.allows" = true)
    (k_L_allows : PySem.W.keepIn K (.ref f_L_allows) = true)
    (a_L_least : PySem.W.findIn K (.ref C_Ladder) "least" = some (some (.ref f_L_least)))
    (i_L_least : PySem.W.isFn K (.ref f_L_least) = true)
    (l_L_least : K.lookup f_L_least = some ⟨oc_L_least, od_L_least, .func (PySem.W.fnOf "least" "Ladder.least" (defArgs s_L_least) (defBody s_L_least) (defScope s_L_least) .none kV_L_least dc_L_least pm_L_least an_L_least cd_L_least ct_L_least), sl_L_least⟩)
    (c_L_least : PySem.W.codeIn K cd_L_least "Ladder.least" = true)
    (k_L_least : PySem.W.keepIn K (.ref f_L_least) = true)
    (a_L_greatest : PySem.W.findIn K (.ref C_Ladder) "greatest" = some (some (.ref f_L_greatest)))
    (i_L_greatest : PySem.W.isFn K (.ref f_L_greatest) = true)
    (l_L_greatest : K.lookup f_L_greatest = some ⟨oc_L_greatest, od_L_greatest, .func (PySem.W.fnOf "greatest" "Ladder.greatest" (defArgs s_L_greatest) (defBody s_L_greatest) (defScope s_L_greatest) .none kV_L_greatest dc_L_greatest pm_L_greatest an_L_greatest cd_L_greatest ct_L_greatest), sl_L_greatest⟩)
    (c_L_greatest : PySem.W.codeIn K cd_L_greatest "Ladder.greatest" = true)
    (k_L_greatest : PySem.W.keepIn K (.ref f_L_greatest) = true)
    (a_Llets : PySem.W.findIn K (.ref C_Ladder) "_lets" = some (some (.ref f_Llets)))
    (i_Llets : PySem.W.isFn K (.ref f_Llets) = true)
    (l_Llets : K.lookup f_Llets = some ⟨oc_Llets, od_Llets, .func (PySem.W.fnOf "_lets" "Ladder._lets" (defArgs s_Llets) (defBody s_Llets) (defScope s_Llets) .none kV_Llets dc_Llets pm_Llets an_Llets cd_Llets ct_Llets), sl_Llets⟩)
    (c_Llets : PySem.W.codeIn K cd_Llets "Ladder._lets" = true)
    (k_Llets : PySem.W.keepIn K (.ref f_Llets) = true)
    (cr_Ladder_MOST_LEVELS : PySem.W.readsIn K C_Ladder (.type "type") = true)
    (cg_Ladder_MOST_LEVELS : PySem.W.specialIn K (.ref C_Ladder) "__getattribute__" = some (some (.builtin "type.__getattribute__")))
    (cf_Ladder_MOST_LEVELS : PySem.W.findCls K (.ref C_Ladder) (.type "type") "MOST_LEVELS" = some (.val u_Ladder_MOST_LEVELS))
    (cx_Ladder_MOST_LEVELS : RelV (.int 24) u_Ladder_MOST_LEVELS)
    (aN_NoSuchStep : PySem.W.nsIn K mainGlobals "NoSuchStep" = some (some (.ref C_NoSuchStep)))
    (x_NoSuchStep : K.lookup C_NoSuchStep = some (excClassObj nm_NoSuchStep qn_NoSuchStep C_NoSuchStep ns_NoSuchStep bs_NoSuchStep bm_NoSuchStep true sn_NoSuchStep sb_NoSuchStep ab_NoSuchStep co_NoSuchStep dd_NoSuchStep k0_NoSuchStep k1_NoSuchStep k2_NoSuchStep k3_NoSuchStep k5_NoSuchStep "ValueError.__new__"))
    (r_NoSuchStep : PySem.HandSPX.refsVE bm_NoSuchStep = true)
    (sa_NoSuchStep : PySem.W.findIn K (.ref C_NoSuchStep) "__setattr__" = some (some (.builtin "object.__setattr__")))
    (xb_NoSuchStep : PySem.W.subIn K (.ref C_NoSuchStep) (.type "BaseException") = some true)
    (tc_NoSuchStep : PySem.W.typeIn K (.ref C_NoSuchStep) = some (.type "type"))
    (kc_NoSuchStep : PySem.W.keepIn K (.ref C_NoSuchStep) = true)
    (ga_NoSuchStep : PySem.W.findIn K (.ref C_NoSuchStep) "__getattribute__" = some (some (.builtin "BaseException.__getattribute__")))
    (gg_NoSuchStep : PySem.W.findIn K (.ref C_NoSuchStep) "__getattr__" = some none)
    (ac_NoSuchStep : PySem.W.findIn K (.ref C_NoSuchStep) "__class__" = some (some (.builtin "object.__class__")))
    (mo_NoSuchStep : PySem.W.mroIn K C_NoSuchStep (.type "object") = some true)
    (hd_NoSuchStep : PySem.W.hasDictIn K C_NoSuchStep = true)
    (ic_NoSuchStep : PySem.W.isClsIn K C_NoSuchStep = true)
    (no_NoSuchStep : PySem.W.findIn K (.ref C_NoSuchStep) "step" = some none)
    (sv_NoSuchStep : PySem.W.subIn K (.ref C_NoSuchStep) (.type "ValueError") = some true)
    (mr_NoSuchStep : PySem.W.mroIn K C_NoSuchStep (.ref C_NoSuchStep) = some true)
    (sm_NoSuchStep : PySem.W.ks_superIn K C_NoSuchStep C_NoSuchStep "__init__" = some (some (.builtin "ValueError.__init__")))
    (a_NoSuchStep_init : PySem.W.findIn K (.ref C_NoSuchStep) "__init__" = some (some (.ref f_NoSuchStep_init)))
    (t_NoSuchStep_init : PySem.W.typeIn K (.ref f_NoSuchStep_init) = some (.type "function"))
    (l_NoSuchStep_init : K.lookup f_NoSuchStep_init = some ⟨oc_NoSuchStep_init, od_NoSuchStep_init, .func (PySem.W.ksFn "__init__" "NoSuchStep.__init__" (defArgs s_NoSuchStep_init) (defBody s_NoSuchStep_init) (defScope s_NoSuchStep_init) .none kV_NoSuchStep_init dc_NoSuchStep_init pm_NoSuchStep_init an_NoSuchStep_init (.ref cda_NoSuchStep_init) ct_NoSuchStep_init cc_NoSuchStep_init), sl_NoSuchStep_init⟩)
    (c_NoSuchStep_init : PySem.W.codeIn K (.ref cda_NoSuchStep_init) "NoSuchStep.__init__" = true)
    (h_NoSuchStep_init : K.lookup cda_NoSuchStep_init = some ⟨ccl_NoSuchStep_init, cdd_NoSuchStep_init, .fields cvs_NoSuchStep_init, ccs_NoSuchStep_init⟩)
    (v_NoSuchStep_init : cvs_NoSuchStep_init[2]? = some (.str cfi_NoSuchStep_init ctf_NoSuchStep_init))
    (p_NoSuchStep_init : ((P.main.file : Str) == cfi_NoSuchStep_init) = true)
    (e_NoSuchStep_init : K.lookup cc_NoSuchStep_init = some ⟨ecl_NoSuchStep_init, eld_NoSuchStep_init, .cell (some (.ref C_NoSuchStep)), esl_NoSuchStep_init⟩)
    (aN_NoSuchRank : PySem.W.nsIn K mainGlobals "NoSuchRank" = some (some (.ref C_NoSuchRank)))
    (x_NoSuchRank : K.lookup C_NoSuchRank = some (excClassObj nm_NoSuchRank qn_NoSuchRank C_NoSuchRank ns_NoSuchRank bs_NoSuchRank bm_NoSuchRank true sn_NoSuchRank sb_NoSuchRank ab_NoSuchRank co_NoSuchRank dd_NoSuchRank k0_NoSuchRank k1_NoSuchRank k2_NoSuchRank k3_NoSuchRank k5_NoSuchRank "ValueError.__new__"))
    (r_NoSuchRank : PySem.HandSPX.refsVE bm_NoSuchRank = true)
    (sa_NoSuchRank : PySem.W.findIn K (.ref C_NoSuchRank) "__setattr__" = some (some (.builtin "object.__setattr__")))
    (xb_NoSuchRank : PySem.W.subIn K (.ref C_NoSuchRank) (.type "BaseException") = some true)
    (tc_NoSuchRank : PySem.W.typeIn K (.ref C_NoSuchRank) = some (.type "type"))
    (kc_NoSuchRank : PySem.W.keepIn K (.ref C_NoSuchRank) = true)
    (ga_NoSuchRank : PySem.W.findIn K (.ref C_NoSuchRank) "__getattribute__" = some (some (.builtin "BaseException.__getattribute__")))
    (gg_NoSuchRank : PySem.W.findIn K (.ref C_NoSuchRank) "__getattr__" = some none)
    (ac_NoSuchRank : PySem.W.findIn K (.ref C_NoSuchRank) "__class__" = some (some (.builtin "object.__class__")))
    (mo_NoSuchRank : PySem.W.mroIn K C_NoSuchRank (.type "object") = some true)
    (hd_NoSuchRank : PySem.W.hasDictIn K C_NoSuchRank = true)
    (ic_NoSuchRank : PySem.W.isClsIn K C_NoSuchRank = true)
    (no_NoSuchRank : PySem.W.findIn K (.ref C_NoSuchRank) "rank" = some none)
    (sv_NoSuchRank : PySem.W.subIn K (.ref C_NoSuchRank) (.type "ValueError") = some true)
    (mr_NoSuchRank : PySem.W.mroIn K C_NoSuchRank (.ref C_NoSuchRank) = some true)
    (sm_NoSuchRank : PySem.W.ks_superIn K C_NoSuchRank C_NoSuchRank "__init__" = some (some (.builtin "ValueError.__init__")))
    (a_NoSuchRank_init : PySem.W.findIn K (.ref C_NoSuchRank) "__init__" = some (some (.ref f_NoSuchRank_init)))
    (t_NoSuchRank_init : PySem.W.typeIn K (.ref f_NoSuchRank_init) = some (.type "function"))
    (l_NoSuchRank_init : K.lookup f_NoSuchRank_init = some ⟨oc_NoSuchRank_init, od_NoSuchRank_init, .func (PySem.W.ksFn "__init__" "NoSuchRank.__init__" (defArgs s_NoSuchRank_init) (defBody s_NoSuchRank_init) (defScope s_NoSuchRank_init) .none kV_NoSuchRank_init dc_NoSuchRank_init pm_NoSuchRank_init an_NoSuchRank_init (.ref cda_NoSuchRank_init) ct_NoSuchRank_init cc_NoSuchRank_init), sl_NoSuchRank_init⟩)
    (c_NoSuchRank_init : PySem.W.codeIn K (.ref cda_NoSuchRank_init) "NoSuchRank.__init__" = true)
    (h_NoSuchRank_init : K.lookup cda_NoSuchRank_init = some ⟨ccl_NoSuchRank_init, cdd_NoSuchRank_init, .fields cvs_NoSuchRank_init, ccs_NoSuchRank_init⟩)
    (v_NoSuchRank_init : cvs_NoSuchRank_init[2]? = some (.str cfi_NoSuchRank_init ctf_NoSuchRank_init))
    (p_NoSuchRank_init : ((P.main.file : Str) == cfi_NoSuchRank_init) = true)
    (e_NoSuchRank_init : K.lookup cc_NoSuchRank_init = some ⟨ecl_NoSuchRank_init, eld_NoSuchRank_init, .cell (some (.ref C_NoSuchRank)), esl_NoSuchRank_init⟩)
    (aN_OutOfRange : PySem.W.nsIn K mainGlobals "OutOfRange" = some (some (.ref C_OutOfRange)))
    (aN_LadderreachError : PySem.W.nsIn K mainGlobals "LadderreachError" = some (some (.ref C_LadderreachError)))
    (aN_NoSuchLevel : PySem.W.nsIn K mainGlobals "NoSuchLevel" = some (some (.ref C_NoSuchLevel)))
    (aN_NoSuchNode : PySem.W.nsIn K mainGlobals "NoSuchNode" = some (some (.ref C_NoSuchNode)))
    (aN_NoSuchState : PySem.W.nsIn K mainGlobals "NoSuchState" = some (some (.ref C_NoSuchState)))
    (aN_NoSuchLetter : PySem.W.nsIn K mainGlobals "NoSuchLetter" = some (some (.ref C_NoSuchLetter)))
    (aN_GameError : PySem.W.nsIn K mainGlobals "GameError" = some (some (.ref C_GameError)))
    (kit_NoSuchStep_OutOfRange : PySem.W.kitOne K (.ref C_NoSuchStep) (.ref C_OutOfRange) = some true)
    (kit_NoSuchStep_LadderreachError : PySem.W.kitOne K (.ref C_NoSuchStep) (.ref C_LadderreachError) = some true)
    (kit_NoSuchStep_ValueError : PySem.W.kitOne K (.ref C_NoSuchStep) (.type "ValueError") = some true)
    (kit_NoSuchStep_NoSuchRank : PySem.W.kitOne K (.ref C_NoSuchStep) (.ref C_NoSuchRank) = some false)
    (kit_NoSuchStep_NoSuchLevel : PySem.W.kitOne K (.ref C_NoSuchStep) (.ref C_NoSuchLevel) = some false)
    (kit_NoSuchStep_NoSuchNode : PySem.W.kitOne K (.ref C_NoSuchStep) (.ref C_NoSuchNode) = some false)
    (kit_NoSuchStep_NoSuchState : PySem.W.kitOne K (.ref C_NoSuchStep) (.ref C_NoSuchState) = some false)
    (kit_NoSuchStep_NoSuchLetter : PySem.W.kitOne K (.ref C_NoSuchStep) (.ref C_NoSuchLetter) = some false)
    (kit_NoSuchStep_GameError : PySem.W.kitOne K (.ref C_NoSuchStep) (.ref C_GameError) = some false)
    (kit_NoSuchRank_OutOfRange : PySem.W.kitOne K (.ref C_NoSuchRank) (.ref C_OutOfRange) = some true)
    (kit_NoSuchRank_LadderreachError : PySem.W.kitOne K (.ref C_NoSuchRank) (.ref C_LadderreachError) = some true)
    (kit_NoSuchRank_ValueError : PySem.W.kitOne K (.ref C_NoSuchRank) (.type "ValueError") = some true)
    (kit_NoSuchRank_NoSuchStep : PySem.W.kitOne K (.ref C_NoSuchRank) (.ref C_NoSuchStep) = some false)
    (kit_NoSuchRank_NoSuchLevel : PySem.W.kitOne K (.ref C_NoSuchRank) (.ref C_NoSuchLevel) = some false)
    (kit_NoSuchRank_NoSuchNode : PySem.W.kitOne K (.ref C_NoSuchRank) (.ref C_NoSuchNode) = some false)
    (kit_NoSuchRank_NoSuchState : PySem.W.kitOne K (.ref C_NoSuchRank) (.ref C_NoSuchState) = some false)
    (kit_NoSuchRank_NoSuchLetter : PySem.W.kitOne K (.ref C_NoSuchRank) (.ref C_NoSuchLetter) = some false)
    (kit_NoSuchRank_GameError : PySem.W.kitOne K (.ref C_NoSuchRank) (.ref C_GameError) = some false)
    (exm_NoSuchStep_NoSuchStep : PySem.W.exmOne K (.ref C_NoSuchStep) (.ref C_NoSuchStep) = some true)
    (exm_NoSuchRank_NoSuchStep : PySem.W.exmOne K (.ref C_NoSuchRank) (.ref C_NoSuchStep) = some false)
    (exm_NoSuchRank_NoSuchRank : PySem.W.exmOne K (.ref C_NoSuchRank) (.ref C_NoSuchRank) = some true) :
    Txt P K mg ⟨C_Ladder, C_NoSuchStep, C_NoSuchRank, C_OutOfRange, C_LadderreachError, C_NoSuchLevel, C_NoSuchNode, C_NoSuchState, C_NoSuchLetter, C_GameError⟩ := {
    n_len := PySem.W.mg_none_of X G z_len,
    n_abs := PySem.W.mg_none_of X G z_abs,
    n_max := PySem.W.mg_none_of X G z_max,
    n_min := PySem.W.mg_none_of X G z_min,
    n_isinstance := PySem.W.mg_none_of X G z_isinstance,
    n_int := PySem.W.mg_none_of X G z_int,
    n_bool := PySem.W.mg_none_of X G z_bool,
    n_str := PySem.W.mg_none_of X G z_str,
    n_list := PySem.W.mg_none_of X G z_list,
    n_tuple := PySem.W.mg_none_of X G z_tuple,
    n_range := PySem.W.mg_none_of X G z_range,
    n_enumerate := PySem.W.mg_none_of X G z_enumerate,
    n_reversed := PySem.W.mg_none_of X G z_reversed,
    n_ValueError := PySem.W.mg_none_of X G z_ValueError,
    objc := ⟨o_gt, o_tk⟩,
    d_check_height := ⟨_, _, fun_mk (st := s_check_height) l_check_height c_check_height k_check_height, PySem.W.mg_of X G a_check_height, (fun_mk (st := s_check_height) l_check_height c_check_height k_check_height).binds (ps := ["height"]) (fun _ _ _ _ _ _ us hl => match us, hl with | [_], _ => rfl)⟩,
    d_check_row := ⟨_, _, fun_mk (st := s_check_row) l_check_row c_check_row k_check_row, PySem.W.mg_of X G a_check_row, (fun_mk (st := s_check_row) l_check_row c_check_row k_check_row).binds (ps := ["height", "row", "most"]) (fun _ _ _ _ _ _ us hl => match us, hl with | [_, _, _], _ => rfl)⟩,
    d_check_step := ⟨_, _, fun_mk (st := s_check_step) l_check_step c_check_step k_check_step, PySem.W.mg_of X G a_check_step, (fun_mk (st := s_check_step) l_check_step c_check_step k_check_step).binds (ps := ["top", "step"]) (fun _ _ _ _ _ _ us hl => match us, hl with | [_, _], _ => rfl)⟩,
    d_check_rank := ⟨_, _, fun_mk (st := s_check_rank) l_check_rank c_check_rank k_check_rank, PySem.W.mg_of X G a_check_rank, (fun_mk (st := s_check_rank) l_check_rank c_check_rank k_check_rank).binds (ps := ["height", "rank"]) (fun _ _ _ _ _ _ us hl => match us, hl with | [_, _], _ => rfl)⟩,
    d__counts_from := ⟨_, _, fun_mk (st := s__counts_from) l__counts_from c__counts_from k__counts_from, PySem.W.mg_of X G a__counts_from, (fun_mk (st := s__counts_from) l__counts_from c__counts_from k__counts_from).binds (ps := ["level", "levels"]) (fun _ _ _ _ _ _ us hl => match us, hl with | [_, _], _ => rfl)⟩,
    d_pool := ⟨_, _, fun_mk (st := s_pool) l_pool c_pool k_pool, PySem.W.mg_of X G a_pool, (fun_mk (st := s_pool) l_pool c_pool k_pool).binds (ps := ["script", "k"]) (fun _ _ _ _ _ _ us hl => match us, hl with | [_, _], _ => rfl)⟩,
    d_draw := ⟨_, _, fun_mk (st := s_draw) l_draw c_draw k_draw, PySem.W.mg_of X G a_draw, (fun_mk (st := s_draw) l_draw c_draw k_draw).binds (ps := ["pool", "many"]) (fun _ _ _ _ _ _ us hl => match us, hl with | [_, _], _ => rfl)⟩,
    d_levels := ⟨_, _, fun_mk (st := s_levels) l_levels c_levels k_levels, PySem.W.mg_of X G a_levels, (fun_mk (st := s_levels) l_levels c_levels k_levels).binds (ps := ["pool", "height", "limit"]) (fun _ _ _ _ _ _ us hl => match us, hl with | [_, _, _], _ => rfl)⟩,
    d_number := ⟨_, _, fun_mk (st := s_number) l_number c_number k_number, PySem.W.mg_of X G a_number, (fun_mk (st := s_number) l_number c_number k_number).binds (ps := ["value"]) (fun _ _ _ _ _ _ us hl => match us, hl with | [_], _ => rfl)⟩,
    d_same := ⟨_, _, fun_mk (st := s_same) l_same c_same k_same, PySem.W.mg_of X G a_same, (fun_mk (st := s_same) l_same c_same k_same).binds (ps := ["answer", "due"]) (fun _ _ _ _ _ _ us hl => match us, hl with | [_, _], _ => rfl)⟩,
    d_wild := ⟨_, _, fun_mk (st := s_wild) l_wild c_wild k_wild, PySem.W.mg_of X G a_wild, (fun_mk (st := s_wild) l_wild c_wild k_wild).binds (ps := ["pool", "floor", "ceiling"]) (fun _ _ _ _ _ _ us hl => match us, hl with | [_, _, _], _ => rfl)⟩,
    d_lowest := ⟨_, _, fun_mk (st := s_lowest) l_lowest c_lowest k_lowest, PySem.W.mg_of X G a_lowest, (fun_mk (st := s_lowest) l_lowest c_lowest k_lowest).binds (ps := ["levels", "rank", "goal"]) (fun _ _ _ _ _ _ us hl => match us, hl with | [_, _, _], _ => rfl)⟩,
    d_highest := ⟨_, _, fun_mk (st := s_highest) l_highest c_highest k_highest, PySem.W.mg_of X G a_highest, (fun_mk (st := s_highest) l_highest c_highest k_highest).binds (ps := ["levels", "source", "rank"]) (fun _ _ _ _ _ _ us hl => match us, hl with | [_, _, _], _ => rfl)⟩,
    d_asked := ⟨_, _, fun_mk (st := s_asked) l_asked c_asked k_asked, PySem.W.mg_of X G a_asked, (fun_mk (st := s_asked) l_asked c_asked k_asked).binds (ps := ["made", "way", "one", "two"]) (fun _ _ _ _ _ _ us hl => match us, hl with | [_, _, _, _], _ => rfl)⟩,
    d_least_due := ⟨_, _, fun_mk (st := s_least_due) l_least_due c_least_due k_least_due, PySem.W.mg_of X G a_least_due, (fun_mk (st := s_least_due) l_least_due c_least_due k_least_due).binds (ps := ["levels", "height", "rank", "goal"]) (fun _ _ _ _ _ _ us hl => match us, hl with | [_, _, _, _], _ => rfl)⟩,
    d_greatest_due := ⟨_, _, fun_mk (st := s_greatest_due) l_greatest_due c_greatest_due k_greatest_due, PySem.W.mg_of X G a_greatest_due, (fun_mk (st := s_greatest_due) l_greatest_due c_greatest_due k_greatest_due).binds (ps := ["levels", "height", "source", "rank"]) (fun _ _ _ _ _ _ us hl => match us, hl with | [_, _, _, _], _ => rfl)⟩,
    d_sides := ⟨_, _, fun_mk (st := s_sides) l_sides c_sides k_sides, PySem.W.mg_of X G a_sides, (fun_mk (st := s_sides) l_sides c_sides k_sides).binds (ps := ["made", "levels", "rank", "goal", "source", "under", "upper"]) (fun _ _ _ _ _ _ us hl => match us, hl with | [_, _, _, _, _, _, _], _ => rfl)⟩,
    d_law := ⟨_, _, fun_mk (st := s_law) l_law c_law k_law, PySem.W.mg_of X G a_law, (fun_mk (st := s_law) l_law c_law k_law).binds (ps := ["script"]) (fun _ _ _ _ _ _ us hl => match us, hl with | [_], _ => rfl)⟩,
    cl_Ladder := ⟨pg_Ladder, hd_Ladder, po_Ladder, sa_Ladder⟩,
    mg_Ladder := PySem.W.mg_of X G aC_Ladder,
    na_Ladder_height := na_Ladder_height,
    na_Ladder_levels := na_Ladder_levels,
    na_Ladder_top := na_Ladder_top,
    na_Ladder__counts := na_Ladder__counts,
    mk_Ladder := ⟨_, _, fun_mk (st := s_L_init) l_L_init c_L_init k_L_init, ⟨mk_Ladder, a_L_init, i_L_init, kc_Ladder⟩, PySem.W.mg_of X G aC_Ladder, (fun_mk (st := s_L_init) l_L_init c_L_init k_L_init).binds (ps := ["self", "height", "levels"]) (fun _ _ _ _ _ _ us hl => match us, hl with | [_, _, _], _ => rfl)⟩,
    mt_L_allows := ⟨_, _, fun_mk (st := s_L_allows) l_L_allows c_L_allows k_L_allows, ⟨a_L_allows, i_L_allows, k_L_allows⟩, (fun_mk (st := s_L_allows) l_L_allows c_L_allows k_L_allows).binds (ps := ["self", "source", "rank", "target"]) (fun _ _ _ _ _ _ us hl => match us, hl with | [_, _, _, _], _ => rfl)⟩,
    mt_L_least := ⟨_, _, fun_mk (st := s_L_least) l_L_least c_L_least k_L_least, ⟨a_L_least, i_L_least, k_L_least⟩, (fun_mk (st := s_L_least) l_L_least c_L_least k_L_least).binds (ps := ["self", "rank", "target"]) (fun _ _ _ _ _ _ us hl => match us, hl with | [_, _, _], _ => rfl)⟩,
    mt_L_greatest := ⟨_, _, fun_mk (st := s_L_greatest) l_L_greatest c_L_greatest k_L_greatest, ⟨a_L_greatest, i_L_greatest, k_L_greatest⟩, (fun_mk (st := s_L_greatest) l_L_greatest c_L_greatest k_L_greatest).binds (ps := ["self", "source", "rank"]) (fun _ _ _ _ _ _ us hl => match us, hl with | [_, _, _], _ => rfl)⟩,
    mt_Llets := ⟨_, _, fun_mk (st := s_Llets) l_Llets c_Llets k_Llets, ⟨a_Llets, i_Llets, k_Llets⟩, (fun_mk (st := s_Llets) l_Llets c_Llets k_Llets).binds (ps := ["self", "source", "rank", "target"]) (fun _ _ _ _ _ _ us hl => match us, hl with | [_, _, _, _], _ => rfl)⟩,
    cv_Ladder_MOST_LEVELS := ⟨_, _, ⟨cr_Ladder_MOST_LEVELS, cg_Ladder_MOST_LEVELS⟩, ⟨cf_Ladder_MOST_LEVELS, cx_Ladder_MOST_LEVELS⟩⟩,
    mg_NoSuchStep := PySem.W.mg_of X G aN_NoSuchStep,
    e_NoSuchStep := { gC := PySem.W.mg_of X G aN_NoSuchStep, T := ⟨⟨_, _, _, _, _, _, _, _, _, _, _, _, _, _, _, x_NoSuchStep, r_NoSuchStep⟩, sa_NoSuchStep, xb_NoSuchStep, tc_NoSuchStep, kc_NoSuchStep⟩, E := ⟨ic_NoSuchStep, ga_NoSuchStep, gg_NoSuchStep, xb_NoSuchStep, ac_NoSuchStep, mo_NoSuchStep, hd_NoSuchStep⟩, X := ⟨ga_NoSuchStep, gg_NoSuchStep, xb_NoSuchStep, hd_NoSuchStep⟩, no := no_NoSuchStep, sm := sm_NoSuchStep, mr := mr_NoSuchStep, sv := sv_NoSuchStep, ini := ⟨_, _, _, _, a_NoSuchStep_init, t_NoSuchStep_init, ⟨⟨_, _, _, l_NoSuchStep_init⟩, ⟨_, rfl, rfl⟩, ⟨_, _, _, _, _, _, h_NoSuchStep_init, v_NoSuchStep_init, p_NoSuchStep_init⟩, ⟨_, _, _, e_NoSuchStep_init⟩, Option.isSome_iff_exists.mp ic_NoSuchStep, PySem.W.mg_none_of X G z_super, z_top, z_any⟩, .all (fun us hl => match us, hl with | [_, _], _ => rfl), _, _, _, _, _, _, _, _, rfl, l_NoSuchStep_init, c_NoSuchStep_init⟩ },
    mg_NoSuchRank := PySem.W.mg_of X G aN_NoSuchRank,
    e_NoSuchRank := { gC := PySem.W.mg_of X G aN_NoSuchRank, T := ⟨⟨_, _, _, _, _, _, _, _, _, _, _, _, _, _, _, x_NoSuchRank, r_NoSuchRank⟩, sa_NoSuchRank, xb_NoSuchRank, tc_NoSuchRank, kc_NoSuchRank⟩, E := ⟨ic_NoSuchRank, ga_NoSuchRank, gg_NoSuchRank, xb_NoSuchRank, ac_NoSuchRank, mo_NoSuchRank, hd_NoSuchRank⟩, X := ⟨ga_NoSuchRank, gg_NoSuchRank, xb_NoSuchRank, hd_NoSuchRank⟩, no := no_NoSuchRank, sm := sm_NoSuchRank, mr := mr_NoSuchRank, sv := sv_NoSuchRank, ini := ⟨_, _, _, _, a_NoSuchRank_init, t_NoSuchRank_init, ⟨⟨_, _, _, l_NoSuchRank_init⟩, ⟨_, rfl, rfl⟩, ⟨_, _, _, _, _, _, h_NoSuchRank_init, v_NoSuchRank_init, p_NoSuchRank_init⟩, ⟨_, _, _, e_NoSuchRank_init⟩, Option.isSome_iff_exists.mp ic_NoSuchRank, PySem.W.mg_none_of X G z_super, z_top, z_any⟩, .all (fun us hl => match us, hl with | [_, _], _ => rfl), _, _, _, _, _, _, _, _, rfl, l_NoSuchRank_init, c_NoSuchRank_init⟩ },
    mg_OutOfRange := PySem.W.mg_of X G aN_OutOfRange,
    mg_LadderreachError := PySem.W.mg_of X G aN_LadderreachError,
    mg_NoSuchLevel := PySem.W.mg_of X G aN_NoSuchLevel,
    mg_NoSuchNode := PySem.W.mg_of X G aN_NoSuchNode,
    mg_NoSuchState := PySem.W.mg_of X G aN_NoSuchState,
    mg_NoSuchLetter := PySem.W.mg_of X G aN_NoSuchLetter,
    mg_GameError := PySem.W.mg_of X G aN_GameError,
    kit_NoSuchStep_OutOfRange := kit_NoSuchStep_OutOfRange,
    kit_NoSuchStep_LadderreachError := kit_NoSuchStep_LadderreachError,
    kit_NoSuchStep_ValueError := kit_NoSuchStep_ValueError,
    kit_NoSuchStep_NoSuchRank := kit_NoSuchStep_NoSuchRank,
    kit_NoSuchStep_NoSuchLevel := kit_NoSuchStep_NoSuchLevel,
    kit_NoSuchStep_NoSuchNode := kit_NoSuchStep_NoSuchNode,
    kit_NoSuchStep_NoSuchState := kit_NoSuchStep_NoSuchState,
    kit_NoSuchStep_NoSuchLetter := kit_NoSuchStep_NoSuchLetter,
    kit_NoSuchStep_GameError := kit_NoSuchStep_GameError,
    kit_NoSuchRank_OutOfRange := kit_NoSuchRank_OutOfRange,
    kit_NoSuchRank_LadderreachError := kit_NoSuchRank_LadderreachError,
    kit_NoSuchRank_ValueError := kit_NoSuchRank_ValueError,
    kit_NoSuchRank_NoSuchStep := kit_NoSuchRank_NoSuchStep,
    kit_NoSuchRank_NoSuchLevel := kit_NoSuchRank_NoSuchLevel,
    kit_NoSuchRank_NoSuchNode := kit_NoSuchRank_NoSuchNode,
    kit_NoSuchRank_NoSuchState := kit_NoSuchRank_NoSuchState,
    kit_NoSuchRank_NoSuchLetter := kit_NoSuchRank_NoSuchLetter,
    kit_NoSuchRank_GameError := kit_NoSuchRank_GameError,
    exm_NoSuchStep_NoSuchStep := exm_NoSuchStep_NoSuchStep,
    exm_NoSuchRank_NoSuchStep := exm_NoSuchRank_NoSuchStep,
    exm_NoSuchRank_NoSuchRank := exm_NoSuchRank_NoSuchRank }
theorem walk {l : PySem.W.OpenLaw} {q : Program} {loose : List Str} {XP : (Str → Option Value) → Heap → Prop} {YP : World → Heap → Prop} {d : DefRec} {K : Params → PySem.W.Frag} (hn : l.most = some 63) (hdf : d.params.defaults = []) (hd : d.name = "law")
    (hY : ∀ (w : World) (h : Heap), YP w h → (K w.params).In h)
    (F : ∀ (w : World) (mg : Str → Option Value) (h : Heap), (K w.params).In h → h.Ns mainGlobals mg → ∃ c, Txt l.prog (K w.params) mg c) :
    PySem.W.WalkO q loose XP YP l.row.toRowW d [] (fun f vs => PySem.call f vs) :=
  L2.walk_of (n := 63) (k := lawLevel) (x := "script") (CX := fun _ => CX0) (sp := fun w => spLaw (K w.params)) hn (by decide) hdf ⟨rfl, by decide, by decide⟩ hY
    (fun w mg fa h KX G hmg => by
      obtain ⟨ζ, T⟩ := F w mg h KX G
      obtain ⟨f, fd, Ff, hm, b⟩ := T.d_law.ex
      rw [hd, hm] at hmg
      cases hmg
      refine ⟨fd, fun s v => ?_, fun base _ _ => ok_law T Ff⟩
      obtain ⟨oc, od, kV, doc, pm, an, cdv, ct, osl, rfl, lk, hcd⟩ := Ff.ex
      exact .of_eq rfl)
    (fun _ _ a ns hl _ hS => ⟨a, ns, rfl, hS, fun _ => rfl⟩) fun _ _ _ _ _ z => z
end LR
open PySem PySem.W PyProof.Rows in
set_option maxRecDepth 100000 in
set_option maxHeartbeats 0 in
theorem PySem.Challenge.cw_ladderreach_k18_least_and_greatest_steps_holds : PySem.Challenge.rw_ladderreach_k18_least_and_greatest_steps.Holds := by
  w_on; o_law; k_head; (case hw => w_witness2)
  k_fill
  refine LR.walk (l := PySem.Challenge.rw_ladderreach_k18_least_and_greatest_steps) rfl rfl rfl (fun w h Y => PySem.W.kIn_of Y) ?F
  case F =>
    intro w mg h KX G
    refine' ⟨_, LR.all_mk (P := PySem.Challenge.rw_ladderreach_k18_least_and_greatest_steps.prog) KX G ?z_super ?z_any ?z_top ?z_len ?z_abs ?z_max ?z_min ?z_isinstance ?z_int ?z_bool ?z_str ?z_list ?z_tuple ?z_range ?z_enumerate ?z_reversed ?z_ValueError ?o_gt ?o_tk ?a_check_height ?l_check_height ?c_check_height ?k_check_height ?a_check_row ?l_check_row ?c_check_row ?k_check_row ?a_check_step ?l_check_step ?c_check_step ?k_check_step ?a_check_rank ?l_check_rank ?c_check_rank ?k_check_rank ?a__counts_from ?l__counts_from ?c__counts_from ?k__counts_from ?a_pool ?l_pool ?c_pool ?k_pool ?a_draw ?l_draw ?c_draw ?k_draw ?a_levels ?l_levels ?c_levels ?k_levels ?a_number ?l_number ?c_number ?k_number ?a_same ?l_same ?c_same ?k_same ?a_wild ?l_wild ?c_wild ?k_wild ?a_lowest ?l_lowest ?c_lowest ?k_lowest ?a_highest ?l_highest ?c_highest ?k_highest ?a_asked ?l_asked ?c_asked ?k_asked ?a_least_due ?l_least_due ?c_least_due ?k_least_due ?a_greatest_due ?l_greatest_due ?c_greatest_due ?k_greatest_due ?a_sides ?l_sides ?c_sides ?k_sides ?a_law ?l_law ?c_law ?k_law ?aC_Ladder ?pg_Ladder ?hd_Ladder ?po_Ladder ?sa_Ladder ?na_Ladder_height ?na_Ladder_levels ?na_Ladder_top ?na_Ladder__counts ?mk_Ladder ?kc_Ladder ?a_L_init ?i_L_init ?l_L_init ?c_L_init ?k_L_init ?a_L_allows ?i_L_allows ?l_L_allows ?c_L_allows ?k_L_allows ?a_L_least ?i_L_least ?l_L_least ?c_L_least ?k_L_least ?a_L_greatest ?i_L_greatest ?l_L_greatest ?c_L_greatest ?k_L_greatest ?a_Llets ?i_Llets ?l_Llets ?c_Llets ?k_Llets ?cr_Ladder_MOST_LEVELS ?cg_Ladder_MOST_LEVELS ?cf_Ladder_MOST_LEVELS ?cx_Ladder_MOST_LEVELS ?aN_NoSuchStep ?x_NoSuchStep ?r_NoSuchStep ?sa_NoSuchStep ?xb_NoSuchStep ?tc_NoSuchStep ?kc_NoSuchStep ?ga_NoSuchStep ?gg_NoSuchStep ?ac_NoSuchStep ?mo_NoSuchStep ?hd_NoSuchStep ?ic_NoSuchStep ?no_NoSuchStep ?sv_NoSuchStep ?mr_NoSuchStep ?sm_NoSuchStep ?a_NoSuchStep_init ?t_NoSuchStep_init ?l_NoSuchStep_init ?c_NoSuchStep_init ?h_NoSuchStep_init ?v_NoSuchStep_init ?p_NoSuchStep_init ?e_NoSuchStep_init ?aN_NoSuchRank ?x_NoSuchRank ?r_NoSuchRank ?sa_NoSuchRank ?xb_NoSuchRank ?tc_NoSuchRank ?kc_NoSuchRank ?ga_NoSuchRank ?gg_NoSuchRank ?ac_NoSuchRank ?mo_NoSuchRank ?hd_NoSuchRank ?ic_NoSuchRank ?no_NoSuchRank ?sv_NoSuchRank ?mr_NoSuchRank ?sm_NoSuchRank ?a_NoSuchRank_init ?t_NoSuchRank_init ?l_NoSuchRank_init ?c_NoSuchRank_init ?h_NoSuchRank_init ?v_NoSuchRank_init ?p_NoSuchRank_init ?e_NoSuchRank_init ?aN_OutOfRange ?aN_LadderreachError ?aN_NoSuchLevel ?aN_NoSuchNode ?aN_NoSuchState ?aN_NoSuchLetter ?aN_GameError ?kit_NoSuchStep_OutOfRange ?kit_NoSuchStep_LadderreachError ?kit_NoSuchStep_ValueError ?kit_NoSuchStep_NoSuchRank ?kit_NoSuchStep_NoSuchLevel ?kit_NoSuchStep_NoSuchNode ?kit_NoSuchStep_NoSuchState ?kit_NoSuchStep_NoSuchLetter ?kit_NoSuchStep_GameError ?kit_NoSuchRank_OutOfRange ?kit_NoSuchRank_LadderreachError ?kit_NoSuchRank_ValueError ?kit_NoSuchRank_NoSuchStep ?kit_NoSuchRank_NoSuchLevel ?kit_NoSuchRank_NoSuchNode ?kit_NoSuchRank_NoSuchState ?kit_NoSuchRank_NoSuchLetter ?kit_NoSuchRank_GameError ?exm_NoSuchStep_NoSuchStep ?exm_NoSuchRank_NoSuchStep ?exm_NoSuchRank_NoSuchRank⟩
    (case z_super => k_is)
    (case z_any => k_is)
    (case z_top => first | rfl | decide +kernel)
    (case z_len => k_is)
    (case z_abs => k_is)
    (case z_max => k_is)
    (case z_min => k_is)
    (case z_isinstance => k_is)
    (case z_int => k_is)
    (case z_bool => k_is)
    (case z_str => k_is)
    (case z_list => k_is)
    (case z_tuple => k_is)
    (case z_range => k_is)
    (case z_enumerate => k_is)
    (case z_reversed => k_is)
    (case z_ValueError => k_is)
    (case o_gt => k_is)
    (case o_tk => k_is)
    (case a_check_height => k_is)
    (case l_check_height => k_is)
    (case c_check_height => k_is)
    (case k_check_height => k_is)
    (case a_check_row => k_is)
    (case l_check_row => k_is)
    (case c_check_row => k_is)
    (case k_check_row => k_is)
    (case a_check_step => k_is)
    (case l_check_step => k_is)
    (case c_check_step => k_is)
    (case k_check_step => k_is)
    (case a_check_rank => k_is)
    (case l_check_rank => k_is)
    (case c_check_rank => k_is)
    (case k_check_rank => k_is)
    (case a__counts_from => k_is)
    (case l__counts_from => k_is)
    (case c__counts_from => k_is)
    (case k__counts_from => k_is)
    (case a_pool => k_is)
    (case l_pool => k_is)
    (case c_pool => k_is)
    (case k_pool => k_is)
    (case a_draw => k_is)
    (case l_draw => k_is)
    (case c_draw => k_is)
    (case k_draw => k_is)
    (case a_levels => k_is)
    (case l_levels => k_is)
    (case c_levels => k_is)
    (case k_levels => k_is)
    (case a_number => k_is)
    (case l_number => k_is)
    (case c_number => k_is)
    (case k_number => k_is)
    (case a_same => k_is)
    (case l_same => k_is)
    (case c_same => k_is)
    (case k_same => k_is)
    (case a_wild => k_is)
    (case l_wild => k_is)
    (case c_wild => k_is)
    (case k_wild => k_is)
    (case a_lowest => k_is)
    (case l_lowest => k_is)
    (case c_lowest => k_is)
    (case k_lowest => k_is)
    (case a_highest => k_is)
    (case l_highest => k_is)
    (case c_highest => k_is)
    (case k_highest => k_is)
    (case a_asked => k_is)
    (case l_asked => k_is)
    (case c_asked => k_is)
    (case k_asked => k_is)
    (case a_least_due => k_is)
    (case l_least_due => k_is)
    (case c_least_due => k_is)
    (case k_least_due => k_is)
    (case a_greatest_due => k_is)
    (case l_greatest_due => k_is)
    (case c_greatest_due => k_is)
    (case k_greatest_due => k_is)
    (case a_sides => k_is)
    (case l_sides => k_is)
    (case c_sides => k_is)
    (case k_sides => k_is)
    (case a_law => k_is)
    (case l_law => k_is)
    (case c_law => k_is)
    (case k_law => k_is)
    (case aC_Ladder => k_is)
    (case pg_Ladder => k_is)
    (case hd_Ladder => k_is)
    (case po_Ladder => k_is)
    (case sa_Ladder => k_is)
    (case na_Ladder_height => k_is)
    (case na_Ladder_levels => k_is)
    (case na_Ladder_top => k_is)
    (case na_Ladder__counts => k_is)
    (case mk_Ladder => k_is)
    (case kc_Ladder => k_is)
    (case a_L_init => k_is)
    (case i_L_init => k_is)
    (case l_L_init => k_is)
    (case c_L_init => k_is)
    (case k_L_init => k_is)
    (case a_L_allows => k_is)
    (case i_L_allows => k_is)
    (case l_L_allows => k_is)
    (case c_L_allows => k_is)
    (case k_L_allows => k_is)
    (case a_L_least => k_is)
    (case i_L_least => k_is)
    (case l_L_least => k_is)
    (case c_L_least => k_is)
    (case k_L_least => k_is)
    (case a_L_greatest => k_is)
    (case i_L_greatest => k_is)
    (case l_L_greatest => k_is)
    (case c_L_greatest => k_is)
    (case k_L_greatest => k_is)
    (case a_Llets => k_is)
    (case i_Llets => k_is)
    (case l_Llets => k_is)
    (case c_Llets => k_is)
    (case k_Llets => k_is)
    (case cr_Ladder_MOST_LEVELS => k_is)
    (case cg_Ladder_MOST_LEVELS => k_is)
    (case cf_Ladder_MOST_LEVELS => k_is)
    (case cx_Ladder_MOST_LEVELS => exact ⟨_, rfl⟩)
    (case aN_NoSuchStep => k_is)
    (case x_NoSuchStep => k_is)
    (case r_NoSuchStep => first | rfl | decide +kernel)
    (case sa_NoSuchStep => k_is)
    (case xb_NoSuchStep => k_is)
    (case tc_NoSuchStep => k_is)
    (case kc_NoSuchStep => k_is)
    (case ga_NoSuchStep => k_is)
    (case gg_NoSuchStep => k_is)
    (case ac_NoSuchStep => k_is)
    (case mo_NoSuchStep => k_is)
    (case hd_NoSuchStep => k_is)
    (case ic_NoSuchStep => k_is)
    (case no_NoSuchStep => k_is)
    (case sv_NoSuchStep => k_is)
    (case mr_NoSuchStep => first | k_is | kernel_rfl)
    (case sm_NoSuchStep => first | ks_is | kernel_rfl)
    (case a_NoSuchStep_init => k_is)
    (case t_NoSuchStep_init => k_is)
    (case l_NoSuchStep_init => k_is)
    (case c_NoSuchStep_init => k_is)
    (case h_NoSuchStep_init => k_is)
    (case v_NoSuchStep_init => rfl)
    (case p_NoSuchStep_init => first | rfl | decide +kernel)
    (case e_NoSuchStep_init => k_is)
    (case aN_NoSuchRank => k_is)
    (case x_NoSuchRank => k_is)
    (case r_NoSuchRank => first | rfl | decide +kernel)
    (case sa_NoSuchRank => k_is)
    (case xb_NoSuchRank => k_is)
    (case tc_NoSuchRank => k_is)
    (case kc_NoSuchRank => k_is)
    (case ga_NoSuchRank => k_is)
    (case gg_NoSuchRank => k_is)
    (case ac_NoSuchRank => k_is)
    (case mo_NoSuchRank => k_is)
    (case hd_NoSuchRank => k_is)
    (case ic_NoSuchRank => k_is)
    (case no_NoSuchRank => k_is)
    (case sv_NoSuchRank => k_is)
    (case mr_NoSuchRank => first | k_is | kernel_rfl)
    (case sm_NoSuchRank => first | ks_is | kernel_rfl)
    (case a_NoSuchRank_init => k_is)
    (case t_NoSuchRank_init => k_is)
    (case l_NoSuchRank_init => k_is)
    (case c_NoSuchRank_init => k_is)
    (case h_NoSuchRank_init => k_is)
    (case v_NoSuchRank_init => rfl)
    (case p_NoSuchRank_init => first | rfl | decide +kernel)
    (case e_NoSuchRank_init => k_is)
    (case aN_OutOfRange => k_is)
    (case aN_LadderreachError => k_is)
    (case aN_NoSuchLevel => k_is)
    (case aN_NoSuchNode => k_is)
    (case aN_NoSuchState => k_is)
    (case aN_NoSuchLetter => k_is)
    (case aN_GameError => k_is)
    (case kit_NoSuchStep_OutOfRange => first | k_is | kernel_rfl)
    (case kit_NoSuchStep_LadderreachError => first | k_is | kernel_rfl)
    (case kit_NoSuchStep_ValueError => first | k_is | kernel_rfl)
    (case kit_NoSuchStep_NoSuchRank => first | k_is | kernel_rfl)
    (case kit_NoSuchStep_NoSuchLevel => first | k_is | kernel_rfl)
    (case kit_NoSuchStep_NoSuchNode => first | k_is | kernel_rfl)
    (case kit_NoSuchStep_NoSuchState => first | k_is | kernel_rfl)
    (case kit_NoSuchStep_NoSuchLetter => first | k_is | kernel_rfl)
    (case kit_NoSuchStep_GameError => first | k_is | kernel_rfl)
    (case kit_NoSuchRank_OutOfRange => first | k_is | kernel_rfl)
    (case kit_NoSuchRank_LadderreachError => first | k_is | kernel_rfl)
    (case kit_NoSuchRank_ValueError => first | k_is | kernel_rfl)
    (case kit_NoSuchRank_NoSuchStep => first | k_is | kernel_rfl)
    (case kit_NoSuchRank_NoSuchLevel => first | k_is | kernel_rfl)
    (case kit_NoSuchRank_NoSuchNode => first | k_is | kernel_rfl)
    (case kit_NoSuchRank_NoSuchState => first | k_is | kernel_rfl)
    (case kit_NoSuchRank_NoSuchLetter => first | k_is | kernel_rfl)
    (case kit_NoSuchRank_GameError => first | k_is | kernel_rfl)
    (case exm_NoSuchStep_NoSuchStep => first | k_is | kernel_rfl)
    (case exm_NoSuchRank_NoSuchStep => first | k_is | kernel_rfl)
    (case exm_NoSuchRank_NoSuchRank => first | k_is | kernel_rfl)

