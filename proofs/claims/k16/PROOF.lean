import PyProof.Rows.All
import Wide.All
import OpenK.AllK
import Wide.FinOn
import HandS.ForMost
import HandS.IsInst
import HandS.Conv
import HandS.ClsMeth
import HandS.TupAny
import HandS.Walk
import HandS.RevRange
import KE.KExcSuper
import HandS.ForExc
import HandS.ExcInit
import HandS.ExcIs
import HandS.ExcField
import HandS.TryMany
import HandS.FStr
import HandS.ExcSuper
import KE.KExcIs
import KE.GoesEnum
import KE.GoesMore
import KE.DataMinMax
import HandS.SortKw
import HandS.OwnIter
import HandS.IterVal
import HandS.TryOnly
import PySem.Challenge.RW_ladderreach_k16_gap_high_and_allowed
set_option Elab.async false
set_option maxRecDepth 100000
set_option linter.all false
set_option maxHeartbeats 4000000
namespace LR
open PySem PySem.Spec PyProof.Rows L2
/-! ## defs, methods, classes that keep a promise -/
structure Cal (P : Program) (w : World) (K : PySem.W.Frag) (mg : Str → Option Value) (base : Heap) (k : Nat) (x : Str) (sp : Sp) : Prop where
  ex : ∃ (f : Addr) (fd : FuncData) (ps : List Str), FnOk P w K mg base CX0 k f fd ps sp ∧ mg x = some (.ref f) ∧ PySem.W.keepIn K (.ref f) = true ∧ Binds K fd ps []
structure Met (P : Program) (w : World) (K : PySem.W.Frag) (mg : Str → Option Value) (base : Heap) (k : Nat) (C : Addr) (m : Str) (sp : Sp) : Prop where
  ex : ∃ (f : Addr) (fd : FuncData) (ps : List Str), Cls K C ∧ Meth K C m f ∧ FnOk P w K mg base CX0 k f fd ps sp ∧ Binds K fd ps []
structure Mak (P : Program) (w : World) (K : PySem.W.Frag) (mg : Str → Option Value) (base : Heap) (k : Nat) (x : Str) (C : Addr) (sp : Sp) : Prop where
  ex : ∃ (f : Addr) (fd : FuncData) (ps : List Str), Mk K C f ∧ FnOk P w K mg base CX0 k f fd ps sp ∧ mg x = some (.ref C) ∧ Binds K fd ps []
section
variable {X : Cx} {k j : Nat} {C : Addr} {x m : Str} {sp : Sp} {p pos apos : Pos} {e o : Expr} {es : List Expr} {ta : TE} {t : TA}
theorem pe_c (c : Cal X.prog X.w X.K X.mg X.base k x sp) (hr : Room j X.A) (hk : k ≤ j) (hg : Gl X x) (ha : PA X (e :: es) t)
    (hdb : (x == ("__debug__" : Str)) = false := by decide) (he : starEach (e :: es) X.env = (false, eval e X.env) :: starEach es X.env := by rfl) (hpl : (backTo pos (starEach es X.env)).any (·.1) = false := by rfl) :
    PE X (.Call (.Name x p) (e :: es) [] pos) (tCall sp [] E0 t) := by
  obtain ⟨f, fd, ps, F, hm, kp, b⟩ := c.ex
  exact pe_call F (hr.mono hk) hg hm kp b .nil pass0 ha hdb he hpl
theorem pe_mk (c : Mak X.prog X.w X.K X.mg X.base k x C sp) (hr : Room j X.A) (hk : k + 1 ≤ j) (hg : Gl X x) (ha : PA X (e :: es) t)
    (hdb : (x == ("__debug__" : Str)) = false := by decide) (he : starEach (e :: es) X.env = (false, eval e X.env) :: starEach es X.env := by rfl) (hpl : (backTo pos (starEach es X.env)).any (·.1) = false := by rfl) :
    PE X (.Call (.Name x p) (e :: es) [] pos) (tMake C sp [] E0 t) := by
  obtain ⟨f, fd, ps, M, F, hm, b⟩ := c.ex
  exact pe_make M F (hr.mono hk) hg hm b .nil pass0 ha hdb he hpl
theorem pe_mt {pl : Sem Bool} (c : Met X.prog X.w X.K X.mg X.base k C m sp) (hr : Room j X.A) (hk : k ≤ j) (he : PE X o ta) (ha : PA X (e :: es) t)
    (hst : starEach (e :: es) X.env = (false, eval e X.env) :: starEach es X.env := by rfl) (hpl : (backTo pos (starEach es X.env)).any (·.1) = false := by rfl)
    (ht : eval (.Call (.Attribute o m apos) (e :: es) [] pos) X.env = (do
      let ov ← eval o X.env
      standAt apos.atName
      let (f, first) ← holding [ov] (getMethod ov m pl)
      callWith pos f first (backTo pos (starEach (e :: es) X.env)) (backToKw pos (keywordEach [] X.env))) := by rfl) :
    PE X (.Call (.Attribute o m apos) (e :: es) [] pos) (tMeth C m sp [] E0 ta t) := by
  obtain ⟨f, fd, ps, hc, hm, F, b⟩ := c.ex
  exact pe_meth (pl := pl) he hc hm F (hr.mono hk) b .nil pass0 ha hst hpl ht
theorem pe_mt0 {pl : Sem Bool} (c : Met X.prog X.w X.K X.mg X.base k C m sp) (hr : Room j X.A) (hk : k ≤ j) (he : PE X o ta)
    (ht : eval (.Call (.Attribute o m apos) [] [] pos) X.env = (do
      let ov ← eval o X.env
      standAt apos.atName
      let (f, first) ← holding [ov] (getMethod ov m pl)
      callWith pos f first (backTo pos (starEach [] X.env)) (backToKw pos (keywordEach [] X.env))) := by rfl) :
    PE X (.Call (.Attribute o m apos) [] [] pos) (tMeth C m sp [] E0 ta tNil) := by
  obtain ⟨f, fd, ps, hc, hm, F, b⟩ := c.ex
  exact pe_meth0 (pl := pl) he hc hm F (hr.mono hk) b .nil pass0 ht
end
structure DefIn (K : PySem.W.Frag) (mg : Str → Option Value) (x : Str) (st : Stmt) (ps : List Str) : Prop where
  ex : ∃ (f : Addr) (fd : FuncData), Fun K x x st f fd ∧ mg x = some (.ref f) ∧ Binds K fd ps []
structure MetIn (K : PySem.W.Frag) (C : Addr) (m qual : Str) (st : Stmt) (ps : List Str) : Prop where
  ex : ∃ (f : Addr) (fd : FuncData), Fun K m qual st f fd ∧ Meth K C m f ∧ Binds K fd ps []
structure MakIn (K : PySem.W.Frag) (mg : Str → Option Value) (x : Str) (C : Addr) (qual : Str) (st : Stmt) (ps : List Str) : Prop where
  ex : ∃ (f : Addr) (fd : FuncData), Fun K "__init__" qual st f fd ∧ Mk K C f ∧ mg x = some (.ref C) ∧ Binds K fd ps []
section
variable {P : Program} {w : World} {K : PySem.W.Frag} {mg : Str → Option Value} {base : Heap}
theorem DefIn.cal {x : Str} {st : Stmt} {N ps : List Str} {k : Nat} {sp : Sp} (D : DefIn K mg x st ps) (S : FnScope N ps (defScope st)) (len : ∀ vs H Q E, sp vs H Q E → vs.length = ps.length)
    (hbody : ∀ (f : Addr) (cdv : Value) (A : Around) (outer : List Env) (s : Shared) (H : Hp) (vs : List V) (Q : VK) (E : XK), Room k (A.deeper (envOfC x (defScope st) s.heap.objs.size f cdv)) → sp vs H Q E →
      ∃ t, PSs (cxOf CX0 P w K mg base N x (defScope st) f cdv A outer s H E).nox (defBody st) t ∧ t { nx := fun _ H' => Q .non H', rt := Q } (start N vs) H) : Cal P w K mg base (k + 1) x sp := by
  obtain ⟨f, fd, F, hm, b⟩ := D.ex
  exact ⟨f, fd, ps, F.ok S len (hbody f), hm, F.kp, b⟩
theorem MetIn.met {C : Addr} {m qual : Str} {st : Stmt} {N ps : List Str} {k : Nat} {sp : Sp} (c : Cls K C) (D : MetIn K C m qual st ps) (S : FnScope N ps (defScope st)) (len : ∀ vs H Q E, sp vs H Q E → vs.length = ps.length)
    (hbody : ∀ (f : Addr) (cdv : Value) (A : Around) (outer : List Env) (s : Shared) (H : Hp) (vs : List V) (Q : VK) (E : XK), Room k (A.deeper (envOfC qual (defScope st) s.heap.objs.size f cdv)) → sp vs H Q E →
      ∃ t, PSs (cxOf CX0 P w K mg base N qual (defScope st) f cdv A outer s H E).nox (defBody st) t ∧ t { nx := fun _ H' => Q .non H', rt := Q } (start N vs) H) : Met P w K mg base (k + 1) C m sp := by
  obtain ⟨f, fd, F, hm, b⟩ := D.ex
  exact ⟨f, fd, ps, c, hm, F.ok S len (hbody f), b⟩
theorem MakIn.mak {C : Addr} {x qual : Str} {st : Stmt} {N ps : List Str} {k : Nat} {sp : Sp} (D : MakIn K mg x C qual st ps) (S : FnScope N ps (defScope st)) (len : ∀ vs H Q E, sp vs H Q E → vs.length = ps.length)
    (hbody : ∀ (f : Addr) (cdv : Value) (A : Around) (outer : List Env) (s : Shared) (H : Hp) (vs : List V) (Q : VK) (E : XK), Room k (A.deeper (envOfC qual (defScope st) s.heap.objs.size f cdv)) → sp vs H Q E →
      ∃ t, PSs (cxOf CX0 P w K mg base N qual (defScope st) f cdv A outer s H E).nox (defBody st) t ∧ t { nx := fun _ H' => Q .non H', rt := Q } (start N vs) H) : Mak P w K mg base (k + 1) x C sp := by
  obtain ⟨f, fd, F, M, hm, b⟩ := D.ex
  exact ⟨f, fd, ps, M, F.ok S len (hbody f), hm, b⟩
end
theorem Cal.mono {P w K mg base j k x sp} (c : Cal P w K mg base j x sp) (h : j ≤ k) : Cal P w K mg base k x sp := by
  obtain ⟨f, fd, ps, F, r⟩ := c.ex
  exact ⟨f, fd, ps, F.mono h, r⟩
theorem Cal.imp {P w K mg base k x sp sp'} (c : Cal P w K mg base k x sp) (h : ∀ vs H Q E, sp' vs H Q E → sp vs H Q E) : Cal P w K mg base k x sp' := by
  obtain ⟨f, fd, ps, F, r⟩ := c.ex
  exact ⟨f, fd, ps, F.imp h, r⟩
/-! ## what the built-in names stand for -/
theorem b_len : bootBuiltins "len" = some (.builtin "len") := by decide +kernel
theorem b_abs : bootBuiltins "abs" = some (.builtin "abs") := by decide +kernel
theorem b_max : bootBuiltins "max" = some (.builtin "max") := by decide +kernel
theorem b_min : bootBuiltins "min" = some (.builtin "min") := by decide +kernel
theorem b_isinstance : bootBuiltins "isinstance" = some (.builtin "isinstance") := by decide +kernel
theorem b_int : bootBuiltins "int" = some (.type "int") := by decide +kernel
theorem b_bool : bootBuiltins "bool" = some (.type "bool") := by decide +kernel
theorem b_str : bootBuiltins "str" = some (.type "str") := by decide +kernel
theorem b_list : bootBuiltins "list" = some (.type "list") := by decide +kernel
theorem b_tuple : bootBuiltins "tuple" = some (.type "tuple") := by decide +kernel
/-! ## heaps -/
/-- all that was tracked stands, but for what is at p -/
def Keep (p : Addr) (H H' : Hp) : Prop := ∀ b, b ≠ p → ∀ o, H b = some o → H' b = some o
theorem Keep.refl {p H} : Keep p H H := fun _ _ _ h => h
theorem Keep.trans {p H H1 H2} (a : Keep p H H1) (b : Keep p H1 H2) : Keep p H H2 := fun c n o h => b c n o (a c n o h)
theorem Keep.upd {p H H' o} (a : Keep p H H') : Keep p H (upd H' p o) := fun c n u h => by rw [upd_ne n]; exact a c n u h
theorem Keep.new {p H H' q o} (a : Keep p H H') (h : H' q = none) : Keep p H (L2.upd H' q o) := fun c n u h1 => by
  rw [upd_ne (ne_of_none (a c n u h1) h)]; exact a c n u h1
theorem Keep.same {p H H' H2} (a : Keep p H H') (b : Same H' H2) : Keep p H H2 := fun c n o h => b c o (a c n o h)
theorem _root_.L2.Same.keep {p H H'} (a : Same H H') : Keep p H H' := fun c _ o h => a c o h
theorem same_new {H q o} (h : H q = none) : Same H (upd H q o) := fun c u h1 => by rw [upd_ne (ne_of_none h1 h)]; exact h1
theorem _root_.L2.Same.new {H H' q o} (a : Same H H') (h : H' q = none) : Same H (upd H' q o) := a.trans (same_new h)
theorem Keep.seq {p a : Addr} {K H H' xs} (k : Keep p H H') (h : SqL K H a xs) (n : a ≠ p) : SqL K H' a xs := by
  rcases h with (h | ⟨o, h⟩) | h
  · exact .inl (.inl (k _ n _ h))
  · exact .inl (.inr ⟨o, k _ n _ h⟩)
  · exact .inr h
theorem Keep.seqT {p a : Addr} {K H H' xs} (k : Keep p H H') (h : SqT K H a xs) (n : a ≠ p) : SqT K H' a xs := by
  rcases h with (h | ⟨o, h⟩) | h
  · exact .inl (.inl (k _ n _ h))
  · exact .inl (.inr ⟨o, k _ n _ h⟩)
  · exact .inr h
theorem _root_.L2.Same.seqT {K H H' a xs} (e : Same H H') (h : SqT K H a xs) : SqT K H' a xs := by
  rcases h with (h | ⟨o, h⟩) | h
  · exact .inl (.inl (e _ _ h))
  · exact .inl (.inr ⟨o, e _ _ h⟩)
  · exact .inr h
/-- a pool of the law: a list of four ints -/
def IsPool (H : Hp) (p : Addr) : Prop := ∃ a b c d : Int, H p = some (.lst [.int a, .int b, .int c, .int d])
theorem IsPool.ne {H p b o} (h : IsPool H p) (hb : H b = some o) (ho : ∀ l, o ≠ .lst l) : b ≠ p := by
  obtain ⟨_, _, _, _, h⟩ := h
  exact ne_of hb h (ho _)
theorem IsPool.same {H H' p} (s : Same H H') (h : IsPool H p) : IsPool H' p := by
  obtain ⟨a, b, c, d, h⟩ := h; exact ⟨a, b, c, d, s _ _ h⟩
theorem IsPool.upd {H p a b c d} : IsPool (upd H p (.lst [.int a, .int b, .int c, .int d])) p := ⟨a, b, c, d, upd_same⟩
theorem Keep.free {p q H H'} (k : Keep p H H') (n : q ≠ p) (h : H' q = none) : H q = none := by
  cases e : H q with
  | none => rfl
  | some o => rw [k q n o e] at h; cases h
theorem IsPool.some {H p} (h : IsPool H p) : ∃ l, H p = some (.lst l) := by
  obtain ⟨_, _, _, _, h⟩ := h; exact ⟨_, h⟩
theorem IsPool.free {H p q} (h : IsPool H p) (hq : H q = none) : q ≠ p := by
  obtain ⟨_, _, _, _, h⟩ := h
  exact (ne_of_none h hq).symm
def spLaw (K : PySem.W.Frag) : Sp := fun vs H Q _ => ∃ (a : Addr) (ns : List Int), vs = [.ref a] ∧ SqL K H a (ns.map V.int) ∧ ∀ H', Q (.bl true) H'
theorem seq_after {K : PySem.W.Frag} {H H' : Hp} {a p : Addr} {xs : List V} (h : SqL K H a xs) (hp : H p = none) (k : Keep p H H') : SqL K H' a xs := by
  rcases h with (h | ⟨o, h⟩) | h
  · exact .inl (.inl (k _ (ne_of_none h hp) _ h))
  · exact .inl (.inr ⟨o, k _ (ne_of_none h hp) _ h⟩)
  · exact .inr h
theorem map_get {ls : List Int} {i : Nat} {x : V} (h : (ls.map V.int)[i]? = some x) : ∃ l, ls[i]? = some l ∧ x = .int l := by
  rw [List.getElem?_map] at h
  obtain ⟨l, el, e⟩ := Option.map_eq_some_iff.mp h
  exact ⟨l, el, e.symm⟩
theorem get_map {ls : List Int} {i : Nat} {l : Int} (h : ls[i]? = some l) : (ls.map V.int)[i]? = some (.int l) := by
  rw [List.getElem?_map, h]; rfl
/-- a statement, then the rest, with a word between them -/
def tCut (t u : TS) : TS := fun D σ H => ∃ Mid : L2.St → Hp → Prop, t { D with nx := Mid } σ H ∧ ∀ σ' H', Mid σ' H' → u D σ' H'
theorem pss_cut {X : Cx} {st : Stmt} {rest : List Stmt} {t u : TS} (h1 : PS X st t) (h2 : PSs X rest u) : PSs X (st :: rest) (tCut t u) := by
  refine ⟨fun pins s σ H D I h => ?_⟩
  obtain ⟨Mid, hm, hu⟩ := h
  refine wpAny_execs_cons (thn (h1.run pins s σ H { D with nx := Mid } I hm) fun f s1 q => ?_)
  cases f with
  | next =>
    obtain ⟨σ', H', I', q⟩ := q
    exact h2.run pins s1 σ' H' D I' (hu σ' H' q)
  | ret v => exact q
  | brk => exact q
  | cont => exact q
theorem lc_yes {Q : Bool → Hp → Prop} {σ : L2.St} {H : Hp} (h : Q true H) : tYes σ H Q := h
theorem ite_b {c : Bool} {A B : Prop} (h1 : c = true → A) (h2 : c = false → B) : if c = true then A else B := by
  cases c with
  | true => exact h1 rfl
  | false => exact iteF (h2 rfl)
end LR

set_option Elab.async false
set_option maxRecDepth 100000
set_option linter.all false
set_option maxHeartbeats 4000000
namespace LR
open PySem PySem.Spec PyProof.Rows L2
/-! ## data of the law, as they lie in the heap -/
inductive Dt where
  | non | bl (b : Bool) | int (i : Int) | str (x : Str) | lst (l : List Dt) | tup (l : List Dt)
mutual
inductive At (H : Hp) : V → Dt → Prop
  | non : At H .non .non
  | bl (b : Bool) : At H (.bl b) (.bl b)
  | int (i : Int) : At H (.int i) (.int i)
  | str (x : Str) : At H (.str x) (.str x)
  | lst {p : Addr} {xs : List V} {ds : List Dt} (h : H p = some (.lst xs)) (a : Ats H xs ds) (z : xs.length ≤ 100000) : At H (.ref p) (.lst ds)
  | tup {p : Addr} {xs : List V} {ds : List Dt} (h : H p = some (.tup xs)) (a : Ats H xs ds) (z : xs.length ≤ 100000) : At H (.ref p) (.tup ds)
inductive Ats (H : Hp) : List V → List Dt → Prop
  | nil : Ats H [] []
  | cons {x : V} {d : Dt} {xs : List V} {ds : List Dt} (h : At H x d) (t : Ats H xs ds) : Ats H (x :: xs) (d :: ds)
end
mutual
def dep : Dt → Nat
  | .lst l => deps l + 1
  | .tup l => deps l + 1
  | _ => 0
def deps : List Dt → Nat
  | [] => 0
  | d :: r => max (dep d) (deps r)
end
theorem deps_mem {d : Dt} : ∀ {l : List Dt}, d ∈ l → dep d ≤ deps l
  | e :: r, h => by
    rw [deps]
    rcases List.mem_cons.mp h with rfl | h
    · exact Nat.le_max_left _ _
    · exact Nat.le_trans (deps_mem h) (Nat.le_max_right _ _)
theorem deps_ints : ∀ l : List Int, deps (l.map Dt.int) = 0
  | [] => rfl
  | i :: r => by rw [List.map_cons, deps, deps_ints r]; rfl
theorem Ats.length {H : Hp} {xs ds} (h : Ats H xs ds) : xs.length = ds.length := by
  revert ds; induction xs with
  | nil => intro ds h; cases h; rfl
  | cons x xs ih => intro ds h; cases h with | cons a t => rw [List.length_cons, List.length_cons, ih t]
theorem Ats.get {H : Hp} : ∀ {xs ds} (h : Ats H xs ds) {i : Nat} {x : V}, xs[i]? = some x → ∃ d, ds[i]? = some d ∧ At H x d := by
  intro xs; induction xs with
  | nil => intro ds h i x e; simp at e
  | cons y xs ih => 
    intro ds h i x e
    cases h with
    | cons a t =>
      cases i with
      | zero => exact ⟨_, rfl, by simp at e; subst e; exact a⟩
      | succ i => exact ih t (by simpa using e)
theorem Ats.getD {H : Hp} {xs ds} (h : Ats H xs ds) {i : Nat} {d : Dt} (e : ds[i]? = some d) : ∃ x, xs[i]? = some x ∧ At H x d := by
  have hl := h.length
  have hi : i < xs.length := by rw [hl]; exact (List.getElem?_eq_some_iff.mp e).1
  obtain ⟨d', e', a⟩ := h.get (List.getElem?_eq_getElem hi)
  rw [e] at e'; cases e'
  exact ⟨_, List.getElem?_eq_getElem hi, a⟩
theorem ats_ints (H : Hp) : ∀ l : List Int, Ats H (l.map V.int) (l.map Dt.int)
  | [] => .nil
  | i :: r => .cons (.int i) (ats_ints H r)
mutual
theorem At.same {H H' : Hp} (s : Same H H') : ∀ {x d}, At H x d → At H' x d
  | _, _, .non => .non
  | _, _, .bl b => .bl b
  | _, _, .int i => .int i
  | _, _, .str x => .str x
  | _, _, .lst h a z => .lst (s _ _ h) (a.same s) z
  | _, _, .tup h a z => .tup (s _ _ h) (a.same s) z
theorem Ats.same {H H' : Hp} (s : Same H H') : ∀ {xs ds}, Ats H xs ds → Ats H' xs ds
  | _, _, .nil => .nil
  | _, _, .cons h t => .cons (h.same s) (t.same s)
end
theorem ats_ints_eq {l m : List Int} (h : l.map Dt.int = m.map Dt.int) : l = m := by
  induction l generalizing m with
  | nil => cases m with
    | nil => rfl
    | cons => simp at h
  | cons x l ih => cases m with
    | nil => simp at h
    | cons y m => 
      simp only [List.map_cons, List.cons.injEq, Dt.int.injEq] at h
      rw [h.1, ih h.2]
def ty : Dt → String
  | .non => "NoneType" | .bl _ => "bool" | .int _ => "int" | .str _ => "str" | .lst _ => "list" | .tup _ => "tuple"
def isL : Dt → Bool | .lst _ => true | _ => false
def isU : Dt → Bool | .tup _ => true | _ => false
def isB : Dt → Bool | .bl _ => true | _ => false
def isI : Dt → Bool | .int _ => true | .bl _ => true | _ => false
def isN : Dt → Bool | .int _ => true | _ => false
def isS : Dt → Bool | .str _ => true | _ => false
theorem At.tyX {K H x d} (h : At H x d) : TyX K H x (.type (ty d)) := by
  cases h with
  | non => exact .base .non
  | bl b => exact .base (.bl b)
  | int i => exact .base (.int i)
  | str x => exact .base (.str x)
  | lst h _ _ => exact .base (.lst h)
  | tup h _ _ => exact .base (.tup h)
theorem kitL (d : Dt) : kitB (ty d) "list" = some (isL d) := by
  cases d with
  | non => exact (by decide +kernel : kitB "NoneType" "list" = some false)
  | bl b => exact (by decide +kernel : kitB "bool" "list" = some false)
  | int i => exact (by decide +kernel : kitB "int" "list" = some false)
  | str x => exact (by decide +kernel : kitB "str" "list" = some false)
  | lst l => exact (by decide +kernel : kitB "list" "list" = some true)
  | tup l => exact (by decide +kernel : kitB "tuple" "list" = some false)

theorem kitU (d : Dt) : kitB (ty d) "tuple" = some (isU d) := by
  cases d with
  | non => exact (by decide +kernel : kitB "NoneType" "tuple" = some false)
  | bl b => exact (by decide +kernel : kitB "bool" "tuple" = some false)
  | int i => exact (by decide +kernel : kitB "int" "tuple" = some false)
  | str x => exact (by decide +kernel : kitB "str" "tuple" = some false)
  | lst l => exact (by decide +kernel : kitB "list" "tuple" = some false)
  | tup l => exact (by decide +kernel : kitB "tuple" "tuple" = some true)

theorem kitBo (d : Dt) : kitB (ty d) "bool" = some (isB d) := by
  cases d with
  | non => exact (by decide +kernel : kitB "NoneType" "bool" = some false)
  | bl b => exact (by decide +kernel : kitB "bool" "bool" = some true)
  | int i => exact (by decide +kernel : kitB "int" "bool" = some false)
  | str x => exact (by decide +kernel : kitB "str" "bool" = some false)
  | lst l => exact (by decide +kernel : kitB "list" "bool" = some false)
  | tup l => exact (by decide +kernel : kitB "tuple" "bool" = some false)

theorem kitI (d : Dt) : kitB (ty d) "int" = some (isI d) := by
  cases d with
  | non => exact (by decide +kernel : kitB "NoneType" "int" = some false)
  | bl b => exact (by decide +kernel : kitB "bool" "int" = some true)
  | int i => exact (by decide +kernel : kitB "int" "int" = some true)
  | str x => exact (by decide +kernel : kitB "str" "int" = some false)
  | lst l => exact (by decide +kernel : kitB "list" "int" = some false)
  | tup l => exact (by decide +kernel : kitB "tuple" "int" = some false)

theorem kitS (d : Dt) : kitB (ty d) "str" = some (isS d) := by
  cases d with
  | non => exact (by decide +kernel : kitB "NoneType" "str" = some false)
  | bl b => exact (by decide +kernel : kitB "bool" "str" = some false)
  | int i => exact (by decide +kernel : kitB "int" "str" = some false)
  | str x => exact (by decide +kernel : kitB "str" "str" = some true)
  | lst l => exact (by decide +kernel : kitB "list" "str" = some false)
  | tup l => exact (by decide +kernel : kitB "tuple" "str" = some false)

theorem isi {K H x d T b} {Q : VK} (a : At H x d) (hb : kitB (ty d) T = some b) (q : Q (.bl b) H) : rIsi K [x, .ty T] H Q := ⟨x, .ty T, _, _, b, rfl, .ty T, a.tyX, kit_ty hb, q⟩
end LR

set_option Elab.async false
set_option maxRecDepth 100000
set_option linter.all false
set_option maxHeartbeats 4000000
namespace LR
open PySem PySem.Spec PyProof.Rows L2
/-! ## the mathematics of a ladder -/
def cnt (lv : Int) (l : List Int) : Int := ((l.filter (fun x => decide (lv ≤ x))).length : Int)
/-- levels of at least lv below step i -/
def cn (ls : List Int) (lv : Int) (i : Nat) : Int := cnt lv (ls.take i)
def cnL (ls : List Int) (lv : Int) (n : Nat) : List V := (List.range n).map fun i => V.int (cn ls lv i)
theorem cnL_get {ls lv n i} (h : i < n) : (cnL ls lv n)[i]? = some (V.int (cn ls lv i)) := by
  unfold cnL; rw [List.getElem?_map, List.getElem?_range h]; rfl
theorem cnL_length {ls lv n} : (cnL ls lv n).length = n := by unfold cnL; rw [List.length_map, List.length_range]
theorem cnL_succ {ls lv n} : cnL ls lv (n + 1) = cnL ls lv n ++ [V.int (cn ls lv n)] := by
  unfold cnL; rw [List.range_succ, List.map_append]; rfl
theorem cn_succ {ls : List Int} {lv : Int} {i : Nat} {z : Int} (h : ls[i]? = some z) : cn ls lv (i + 1) = cn ls lv i + (if lv ≤ z then 1 else 0) := by
  unfold cn cnt
  rw [List.take_succ, h, List.filter_append, List.length_append]
  simp only [Option.toList]
  by_cases c : lv ≤ z
  · simp [c]
  · simp [c]
def lfs (h : Int) (tl : Addr) (n : Int) (tc : Addr) : List (Str × V) := [("height", .int h), ("levels", .ref tl), ("top", .int n), ("_counts", .ref tc)]
/-- what lies in the heap of the tuple of counts -/
def Counts (H : Hp) (ls : List Int) (tc : Addr) (h : Int) : Prop := ∃ cs : List Addr, H tc = some (.tup (cs.map V.ref)) ∧ cs.length = (h + 1).toNat ∧ ∀ (j : Nat) (a : Addr), cs[j]? = some a → H a = some (.tup (cnL ls (j + 1) (ls.length + 1)))
/-- a ladder of height h and row ls stands at x -/
def LadderAt (C : Addr) (H : Hp) (x : Addr) (h : Int) (ls : List Int) : Prop := ∃ dx tl tc, H x = some (.ins C dx (lfs h tl ls.length tc)) ∧ H tl = some (.tup (ls.map V.int)) ∧ Counts H ls tc h
theorem LadderAt.same {C H H' x h ls} (s : Same H H') (a : LadderAt C H x h ls) : LadderAt C H' x h ls := by
  obtain ⟨dx, tl, tc, h1, h2, cs, h3, h4, h5⟩ := a
  exact ⟨dx, tl, tc, s _ _ h1, s _ _ h2, cs, s _ _ h3, h4, fun j a e => s _ _ (h5 j a e)⟩
theorem LadderAt.keep {C H H' x h ls p} (s : Keep p H H') (hp : ∃ l, H p = some (.lst l)) (a : LadderAt C H x h ls) : LadderAt C H' x h ls := by
  obtain ⟨l, hp⟩ := hp
  obtain ⟨dx, tl, tc, h1, h2, cs, h3, h4, h5⟩ := a
  have k : ∀ b o, H b = some o → (∀ l, o ≠ .lst l) → H' b = some o := fun b o e n => s _ (ne_of e hp (n _)) _ e
  exact ⟨dx, tl, tc, k _ _ h1 (fun l z => by cases z), k _ _ h2 (fun l z => by cases z), cs, k _ _ h3 (fun l z => by cases z), h4, fun j a e => k _ _ (h5 j a e) (fun l z => by cases z)⟩
/-- what the ladder answers: an edge of rank p from u to w -/
def alw (ls : List Int) (u p w : Int) : Bool := if p % 2 = 0 then decide (cn ls (p / 2 + 1) w.toNat ≤ cn ls (p / 2 + 1) u.toNat) else decide (cn ls (p / 2 + 1) w.toNat < cn ls (p / 2 + 1) u.toNat)
/-! ## the mathematics of allowed edges -/
theorem cn_le_succ (ls : List Int) (lv : Int) (i : Nat) : cn ls lv i ≤ cn ls lv (i + 1) := by
  cases h : ls[i]? with
  | none =>
    have hl : ls.length ≤ i := List.getElem?_eq_none_iff.mp h
    unfold cn
    rw [List.take_of_length_le hl, List.take_of_length_le (by omega)]
    exact Int.le_refl _
  | some z =>
    rw [cn_succ h]
    split <;> omega
theorem cn_mono (ls : List Int) (lv : Int) {i k : Nat} (h : i ≤ k) : cn ls lv i ≤ cn ls lv k := by
  induction h with
  | refl => exact Int.le_refl _
  | step _ ih => exact Int.le_trans ih (cn_le_succ _ _ _)
/-- equal counts: no level of at least lv between -/
theorem cn_eq (ls : List Int) (lv : Int) {i k : Nat} (h : i ≤ k) : cn ls lv k ≤ cn ls lv i ↔ ∀ (m : Nat) (z : Int), i ≤ m → m < k → ls[m]? = some z → z < lv := by
  induction h with
  | refl => exact ⟨fun _ m z a b => by omega, fun _ => Int.le_refl _⟩
  | @step k hk ih =>
    have m1 := cn_mono ls lv hk
    have m2 := cn_le_succ ls lv k
    show cn ls lv (k + 1) ≤ cn ls lv i ↔ ∀ (m : Nat) (z : Int), i ≤ m → m < k + 1 → ls[m]? = some z → z < lv
    constructor
    · intro c m z a b e
      by_cases q : m < k
      · exact ih.mp (by omega) m z a q e
      · have : m = k := by omega
        subst this
        have e2 := cn_succ (lv := lv) e
        by_cases q2 : lv ≤ z
        · rw [if_pos q2] at e2; omega
        · omega
    · intro c
      have c1 := ih.mpr fun m z a b e => c m z a (by omega) e
      cases e : ls[k]? with
      | none =>
        have hl : ls.length ≤ k := List.getElem?_eq_none_iff.mp e
        have : cn ls lv (k + 1) = cn ls lv k := by
          unfold cn
          rw [List.take_of_length_le hl, List.take_of_length_le (by omega)]
        omega
      | some z =>
        have e2 := cn_succ (lv := lv) e
        have := c k z hk (by omega) e
        rw [if_neg (by omega)] at e2
        omega
/-- what is allowed never leads above in a higher count -/
theorem alw_count {ls : List Int} {u p v lv : Int} (h : alw ls u p v = true) (hl : p / 2 + 1 ≤ lv) : cn ls lv v.toNat ≤ cn ls lv u.toNat := by
  by_cases c : v.toNat ≤ u.toNat
  · exact cn_mono _ _ c
  have c : u.toNat ≤ v.toNat := by omega
  unfold alw at h
  have hle : cn ls (p / 2 + 1) v.toNat ≤ cn ls (p / 2 + 1) u.toNat := by
    split at h
    · exact of_decide_eq_true h
    · have := of_decide_eq_true h; omega
  rw [cn_eq _ _ c] at hle ⊢
  intro m z a b e
  have := hle m z a b e
  omega
theorem alw_step {ls : List Int} {u p v : Int} : alw ls u p v = true ↔ (p % 2 = 0 → cn ls (p / 2 + 1) v.toNat ≤ cn ls (p / 2 + 1) u.toNat) ∧ (¬ p % 2 = 0 → cn ls (p / 2 + 1) v.toNat < cn ls (p / 2 + 1) u.toNat) := by
  unfold alw
  split
  · rename_i c; exact ⟨fun h => ⟨fun _ => of_decide_eq_true h, fun q => absurd c q⟩, fun h => decide_eq_true (h.1 c)⟩
  · rename_i c; exact ⟨fun h => ⟨fun q => absurd q c, fun _ => of_decide_eq_true h⟩, fun h => decide_eq_true (h.2 c)⟩
theorem alw_trans {ls : List Int} {u p v q w : Int} (h1 : alw ls u p v = true) (h2 : alw ls v q w = true) : alw ls u (max p q) w = true := by
  by_cases c : p ≤ q
  · rw [Int.max_eq_right c]
    have k := alw_count h1 (lv := q / 2 + 1) (by omega)
    rw [alw_step] at h2 ⊢
    exact ⟨fun e => Int.le_trans (h2.1 e) k, fun e => Int.lt_of_lt_of_le (h2.2 e) k⟩
  · rw [Int.max_eq_left (by omega)]
    have k := alw_count h2 (lv := p / 2 + 1) (by omega)
    rw [alw_step] at h1 ⊢
    exact ⟨fun e => Int.le_trans k (h1.1 e), fun e => Int.lt_of_le_of_lt k (h1.2 e)⟩
theorem alw_loop {ls : List Int} {u p : Int} (h : alw ls u p u = true) : p % 2 = 0 := by
  rw [alw_step] at h
  apply Classical.byContradiction
  intro c
  exact absurd (h.2 c) (Int.lt_irrefl _)
/-- g is the greatest level from place lo to hi, 0 if there is none -/
def IsGap (ls : List Int) (lo hi : Nat) (g : Int) : Prop := 0 ≤ g ∧ (∀ (m : Nat) (z : Int), lo ≤ m → m < hi → ls[m]? = some z → z ≤ g) ∧ (g = 0 ∨ ∃ m : Nat, lo ≤ m ∧ m < hi ∧ ls[m]? = some g)
theorem IsGap.le {ls : List Int} {lo hi : Nat} {g j : Int} (h : IsGap ls lo hi g) (hj : 0 ≤ j) : g ≤ j ↔ ∀ (m : Nat) (z : Int), lo ≤ m → m < hi → ls[m]? = some z → z < j + 1 := by
  constructor
  · intro c m z a b e
    have := h.2.1 m z a b e
    omega
  · intro c
    rcases h.2.2 with e | ⟨m, a, b, e⟩
    · omega
    · have := c m g a b e
      omega
/-- what the law says of an edge is what the ladder answers -/
theorem alw_gap {ls : List Int} {u p v g : Int} (hu : 0 ≤ u) (hv : 0 ≤ v) (hp : 0 ≤ p) (h : IsGap ls (min u.toNat v.toNat) (max u.toNat v.toNat) g) :
    alw ls u p v = if p % 2 = 0 then (decide (v ≤ u) || decide (2 * g ≤ p)) else (decide (v < u) && decide (p < 2 * g)) := by
  rw [Bool.eq_iff_iff, alw_step]
  by_cases c : v ≤ u
  · have e1 : min u.toNat v.toNat = v.toNat := by omega
    have e2 : max u.toNat v.toNat = u.toNat := by omega
    rw [e1, e2] at h
    have m1 := cn_mono ls (p / 2 + 1) (show v.toNat ≤ u.toNat by omega)
    have k := cn_eq ls (p / 2 + 1) (show v.toNat ≤ u.toNat by omega)
    rw [← h.le (by omega)] at k
    split
    · rename_i e
      simp only [decide_eq_true c, Bool.true_or]
      exact ⟨fun _ => trivial, fun _ => ⟨fun _ => m1, fun q => absurd e q⟩⟩
    · rename_i e
      rw [Bool.and_eq_true, decide_eq_true_eq, decide_eq_true_eq]
      constructor
      · intro q
        have q := q.2 e
        have hg : ¬ g ≤ p / 2 := fun z => by have := k.mpr z; omega
        refine ⟨?_, by omega⟩
        rcases Int.lt_or_eq_of_le c with z | z
        · exact z
        · subst z; omega
      · intro ⟨q1, q2⟩
        have hg : ¬ g ≤ p / 2 := by omega
        refine ⟨fun z => absurd z e, fun _ => ?_⟩
        have : ¬ cn ls (p / 2 + 1) u.toNat ≤ cn ls (p / 2 + 1) v.toNat := fun z => hg (k.mp z)
        omega
  · have e1 : min u.toNat v.toNat = u.toNat := by omega
    have e2 : max u.toNat v.toNat = v.toNat := by omega
    rw [e1, e2] at h
    have m1 := cn_mono ls (p / 2 + 1) (show u.toNat ≤ v.toNat by omega)
    have k := cn_eq ls (p / 2 + 1) (show u.toNat ≤ v.toNat by omega)
    rw [← h.le (by omega)] at k
    split
    · rename_i e
      simp only [decide_eq_false c, Bool.false_or, decide_eq_true_eq]
      exact ⟨fun q => by have := k.mp (q.1 e); omega, fun q => ⟨fun _ => k.mpr (by omega), fun z => absurd e z⟩⟩
    · rename_i e
      have c2 : ¬ v < u := by omega
      simp only [decide_eq_false c2, Bool.false_and]
      exact ⟨fun q => by have := q.2 e; omega, fun q => by cases q⟩
/-- places and ranks of a walk of allowed edges -/
def Path (ls : List Int) (h : Int) (pl rk : List Int) : Prop := pl.length = rk.length + 1 ∧ (∀ z ∈ pl, 0 ≤ z ∧ z ≤ ls.length) ∧ (∀ r ∈ rk, 0 ≤ r ∧ r ≤ 2 * h) ∧ ∀ (i : Nat) (u p v : Int), pl[i]? = some u → rk[i]? = some p → pl[i + 1]? = some v → alw ls u p v = true
theorem Path.add {ls : List Int} {h : Int} {pl rk : List Int} {u p v : Int} (a : Path ls h (pl ++ [u]) rk) (hp : 0 ≤ p ∧ p ≤ 2 * h) (hv : 0 ≤ v ∧ v ≤ ls.length) (e : alw ls u p v = true) : Path ls h (pl ++ [u] ++ [v]) (rk ++ [p]) := by
  obtain ⟨a1, a2, a3, a4⟩ := a
  have a1' : pl.length = rk.length := by simpa using a1
  refine ⟨by simp [a1'], fun z hz => ?_, fun r hr => ?_, fun i u' p' v' h1 h2 h3 => ?_⟩
  · rcases List.mem_append.mp hz with q | q
    · exact a2 z q
    · have : z = v := by simpa using q
      rw [this]; exact hv
  · rcases List.mem_append.mp hr with q | q
    · exact a3 r q
    · have : r = p := by simpa using q
      rw [this]; exact hp
  · have hi : i < rk.length + 1 := by
      have := (List.getElem?_eq_some_iff.mp h2).1
      simpa using this
    by_cases q : i < rk.length
    · rw [List.getElem?_append_left (by simp; omega)] at h1 h3
      rw [List.getElem?_append_left q] at h2
      exact a4 i u' p' v' h1 h2 h3
    · have : i = rk.length := by omega
      subst this
      rw [List.getElem?_append_left (by simp; omega), ← a1', List.getElem?_append_right (Nat.le_refl _)] at h1
      rw [List.getElem?_append_right (Nat.le_refl _)] at h2
      rw [List.getElem?_append_right (by simp; omega)] at h3
      simp [a1'] at h1 h2 h3
      rw [← h1, ← h2, ← h3]; exact e
end LR

set_option Elab.async false
set_option maxRecDepth 100000
set_option linter.all false
set_option maxHeartbeats 4000000
namespace LR
open PySem PySem.Spec PyProof.Rows L2
def oV : Option Int → V
  | none => .non
  | some k => .int k
def oD : Option Int → Dt
  | none => .non
  | some k => .int k
theorem at_o (H : Hp) (o : Option Int) : At H (oV o) (oD o) := by
  cases o with
  | none => exact .non
  | some k => exact .int k
/-- o is the least step from which rank p is allowed to w -/
def LeastIs (ls : List Int) (p w : Int) (o : Option Int) : Prop := (∀ k, o = some k → 0 ≤ k ∧ k ≤ ls.length) ∧ ∀ u : Int, 0 ≤ u → u ≤ ls.length → (alw ls u p w = true ↔ ∃ k, o = some k ∧ k ≤ u)
def GreatestIs (ls : List Int) (u p : Int) (o : Option Int) : Prop := (∀ k, o = some k → 0 ≤ k ∧ k ≤ ls.length) ∧ ∀ w : Int, 0 ≤ w → w ≤ ls.length → (alw ls u p w = true ↔ ∃ k, o = some k ∧ w ≤ k)
theorem LeastIs.one {ls p w o o'} (a : LeastIs ls p w o) (b : LeastIs ls p w o') : o = o' := by
  have key : ∀ {x y : Option Int}, LeastIs ls p w x → LeastIs ls p w y → ∀ k, x = some k → ∃ j, y = some j ∧ j ≤ k := fun a b k e => by
    obtain ⟨k0, k1⟩ := a.1 k e
    exact (b.2 k k0 k1).mp ((a.2 k k0 k1).mpr ⟨k, e, Int.le_refl _⟩)
  cases o with
  | none => cases o' with
    | none => rfl
    | some k => obtain ⟨j, e, _⟩ := key b a k rfl; cases e
  | some k => 
    obtain ⟨j, e, h⟩ := key a b k rfl
    subst e
    obtain ⟨i, e, h2⟩ := key b a j rfl
    cases e
    rw [Int.le_antisymm h h2]
theorem GreatestIs.one {ls u p o o'} (a : GreatestIs ls u p o) (b : GreatestIs ls u p o') : o = o' := by
  have key : ∀ {x y : Option Int}, GreatestIs ls u p x → GreatestIs ls u p y → ∀ k, x = some k → ∃ j, y = some j ∧ k ≤ j := fun a b k e => by
    obtain ⟨k0, k1⟩ := a.1 k e
    exact (b.2 k k0 k1).mp ((a.2 k k0 k1).mpr ⟨k, e, Int.le_refl _⟩)
  cases o with
  | none => cases o' with
    | none => rfl
    | some k => obtain ⟨j, e, _⟩ := key b a k rfl; cases e
  | some k =>
    obtain ⟨j, e, h⟩ := key a b k rfl
    subst e
    obtain ⟨i, e, h2⟩ := key b a j rfl
    cases e
    rw [Int.le_antisymm h h2]
/-- what is allowed, level by level -/
theorem alw_lv {ls : List Int} {u p w : Int} (hu : 0 ≤ u) (hw : 0 ≤ w) : alw ls u p w = true ↔
    if p % 2 = 0 then w ≤ u ∨ ∀ (m : Nat) (z : Int), u ≤ m → (m : Int) < w → ls[m]? = some z → z < p / 2 + 1
    else w < u ∧ ∃ (m : Nat) (z : Int), w ≤ m ∧ (m : Int) < u ∧ ls[m]? = some z ∧ p / 2 + 1 ≤ z := by
  rw [alw_step]
  split
  · rename_i e
    by_cases c : w ≤ u
    · exact ⟨fun _ => .inl c, fun _ => ⟨fun _ => cn_mono _ _ (by omega), fun q => absurd e q⟩⟩
    · have k := cn_eq ls (p / 2 + 1) (show u.toNat ≤ w.toNat by omega)
      constructor
      · intro h
        exact .inr fun m z a b e2 => k.mp (h.1 e) m z (by omega) (by omega) e2
      · rintro (h | h)
        · exact absurd h c
        · exact ⟨fun _ => k.mpr fun m z a b e2 => h m z (by omega) (by omega) e2, fun q => absurd e q⟩
  · rename_i e
    by_cases c : w < u
    · have k := cn_eq ls (p / 2 + 1) (show w.toNat ≤ u.toNat by omega)
      constructor
      · intro h
        refine ⟨c, Classical.byContradiction fun q => ?_⟩
        have : cn ls (p / 2 + 1) u.toNat ≤ cn ls (p / 2 + 1) w.toNat := k.mpr fun m z a b e2 => by
          apply Classical.byContradiction
          intro q2
          exact q ⟨m, z, by omega, by omega, e2, by omega⟩
        have := h.2 e
        omega
      · rintro ⟨_, m, z, a, b, e2, h⟩
        refine ⟨fun q => absurd q e, fun _ => ?_⟩
        have : ¬ cn ls (p / 2 + 1) u.toNat ≤ cn ls (p / 2 + 1) w.toNat := fun q => by
          have := k.mp q m z (by omega) (by omega) e2
          omega
        omega
    · have := cn_mono ls (p / 2 + 1) (show u.toNat ≤ w.toNat by omega)
      exact ⟨fun h => by have := h.2 e; omega, fun h => absurd h.1 c⟩
theorem alw_up {ls : List Int} {u u' p w : Int} (h : alw ls u p w = true) (le : u ≤ u') : alw ls u' p w = true := by
  have m := cn_mono ls (p / 2 + 1) (show u.toNat ≤ u'.toNat by omega)
  rw [alw_step] at h ⊢
  exact ⟨fun e => Int.le_trans (h.1 e) m, fun e => Int.lt_of_lt_of_le (h.2 e) m⟩
theorem alw_down {ls : List Int} {u p w w' : Int} (h : alw ls u p w = true) (le : w' ≤ w) : alw ls u p w' = true := by
  have m := cn_mono ls (p / 2 + 1) (show w'.toNat ≤ w.toNat by omega)
  rw [alw_step] at h ⊢
  exact ⟨fun e => Int.le_trans m (h.1 e), fun e => Int.lt_of_le_of_lt m (h.2 e)⟩
/-- the first step that does, or none -/
theorem least_found {ls : List Int} {p w : Int} {k : Nat} (hk : k ≤ ls.length) (h : alw ls k p w = true) (hn : ∀ j : Nat, j < k → alw ls j p w = false) : LeastIs ls p w (some (k : Int)) := by
  refine ⟨fun j e => by cases e; omega, fun u u0 u1 => ⟨fun q => ⟨k, rfl, ?_⟩, fun ⟨j, e, le⟩ => ?_⟩⟩
  · apply Classical.byContradiction
    intro c
    have := hn u.toNat (by omega)
    rw [Int.toNat_of_nonneg u0, q] at this
    cases this
  · cases e; exact alw_up h le
theorem least_none {ls : List Int} {p w : Int} (hn : ∀ j : Nat, j ≤ ls.length → alw ls j p w = false) : LeastIs ls p w none := by
  refine ⟨fun j e => (by cases e), fun u u0 u1 => ⟨fun q => ?_, fun ⟨j, e, le⟩ => (by cases e)⟩⟩
  have := hn u.toNat (by omega)
  rw [Int.toNat_of_nonneg u0, q] at this
  cases this
theorem greatest_found {ls : List Int} {u p : Int} {k : Nat} (hk : k ≤ ls.length) (h : alw ls u p k = true) (hn : ∀ j : Nat, k < j → j ≤ ls.length → alw ls u p j = false) : GreatestIs ls u p (some (k : Int)) := by
  refine ⟨fun j e => by cases e; omega, fun w u0 u1 => ⟨fun q => ⟨k, rfl, ?_⟩, fun ⟨j, e, le⟩ => ?_⟩⟩
  · apply Classical.byContradiction
    intro c
    have := hn w.toNat (by omega) (by omega)
    rw [Int.toNat_of_nonneg u0, q] at this
    cases this
  · cases e; exact alw_down h le
theorem greatest_none {ls : List Int} {u p : Int} (hn : ∀ j : Nat, j ≤ ls.length → alw ls u p j = false) : GreatestIs ls u p none := by
  refine ⟨fun j e => (by cases e), fun w u0 u1 => ⟨fun q => ?_, fun ⟨j, e, le⟩ => (by cases e)⟩⟩
  have := hn w.toNat (by omega)
  rw [Int.toNat_of_nonneg u0, q] at this
  cases this
end LR

set_option Elab.async false
set_option maxRecDepth 100000
set_option linter.all false
set_option maxHeartbeats 4000000
namespace LR
open PySem PySem.Spec PyProof.Rows L2
/-! ## defs that say super(): the cell __class__ stands in the written part -/
structure CScope (N P : List Str) (sc : Scope) : Prop where
  kind : sc.kind = .function
  co : sc.isCoroutine = false
  gen : sc.isGenerator = false
  nd : N.Nodup
  pre : N.take P.length = P
  par : ∀ x ∈ P, sc.names.lookup x = some .local
  nocell : ∀ y ∈ sc.names, y.2 ≠ .cell
  free : ∀ y ∈ sc.names, y.2 = .free → y.1 = "__class__"
def cxC (CX : CXT) (P : Program) (w : World) (K : PySem.W.Frag) (mg : Str → Option Value) (base : Heap) (N : List Str) (qual : Str) (scope : Scope) (f : Addr) (cd : Value) (cc : Addr) (A : Around) (outer : List Env) (s : Shared) (H : Hp) (E : XK) : Cx where
  prog := P
  w := w
  K := K
  mg := mg
  base := base
  A := A.deeper (PySem.W.ksEnv qual scope s.heap.objs.size f cd cc)
  N := N
  s_0 := s
  H_0 := H
  env := PySem.W.ksEnv qual scope s.heap.objs.size f cd cc
  outer := outer
  stack := PySem.W.ksEnv qual scope s.heap.objs.size f cd cc :: outer
  ex := []
  calm := true
  fn := fun _ => false
  pn := []
  xe := fun e s' => wpAny (model P w) (A.deeper (PySem.W.ksEnv qual scope s.heap.objs.size f cd cc)) (leaving (PySem.W.ksEnv qual scope s.heap.objs.size f cd cc) e) (fun _ s'' => CX outer H s E e s'') (fun e' s'' => CX outer H s E e' s'') s'
/-! ### statements at the def's own node -/
structure NE (X : Cx) (body : List Stmt) (e : Expr) (t : TE) : Prop where
  run : ∀ (pins : List (Addr × Obj)) (s : Shared) (σ : L2.St) (H : Hp) (Q : VK), Inv X pins σ H s → t σ H Q → PySem.wpAt (model X.prog X.w) X.A (.func body X.env) (eval e X.env) (EP X pins σ Q) X.xe s
structure NS (X : Cx) (body : List Stmt) (st : Stmt) (t : TS) : Prop where
  run : ∀ (pins : List (Addr × Obj)) (s : Shared) (σ : L2.St) (H : Hp) (D : Ends), Inv X pins σ H s → t D σ H → PySem.wpAt (model X.prog X.w) X.A (.func body X.env) (exec st X.env) (SP X pins D) X.xe s
structure NSs (X : Cx) (body : List Stmt) (st : List Stmt) (t : TS) : Prop where
  run : ∀ (pins : List (Addr × Obj)) (s : Shared) (σ : L2.St) (H : Hp) (D : Ends), Inv X pins σ H s → t D σ H → PySem.wpAt (model X.prog X.w) X.A (.func body X.env) (execs st X.env) (SP X pins D) X.xe s
section
variable {X : Cx} {body : List Stmt} {st : Stmt} {rest : List Stmt} {t u : TS} {e : Expr} {te : TE} {pos : Pos}
theorem nss_ps (h : PSs X rest t) : NSs X body rest t := ⟨fun pins s σ H D I q => wpAt_of_wpAny (h.run pins s σ H D I q)⟩
theorem ns_ps (h : PS X st t) : NS X body st t := ⟨fun pins s σ H D I q => wpAt_of_wpAny (h.run pins s σ H D I q)⟩
theorem nss_cons (h1 : NS X body st t) (h2 : NSs X body rest u) : NSs X body (st :: rest) (tSeq t u) := by
  refine ⟨fun pins s σ H D I h => ?_⟩
  refine PySem.ks_wpAt_execs_cons (PySem.ks_wpAt_mono (h1.run pins s σ H { D with nx := u D } I h) (fun f s1 q => ?_) fun _ _ z => z)
  cases f with
  | next =>
    obtain ⟨σ', H', I', q⟩ := q
    exact h2.run pins s1 σ' H' D I' q
  | ret v => exact q
  | brk => exact q
  | cont => exact q
theorem nss_nil : NSs X body [] tNext := nss_ps pss_nil
theorem nss_one (h : NS X body st t) : NSs X body [st] (tSeq t tNext) := nss_cons h nss_nil
theorem ns_expr (h : NE X body e te) (hi : interactive X.env = false := by rfl) (hs : swapsWith e none pos.line X.env = pure false := by rfl) : NS X body (.Expr e pos) (tDrop te) := by
  refine ⟨fun pins s σ H D I q => ?_⟩
  refine PySem.ks_wpAt_Expr_any (PySem.ks_wpAt_mono (h.run pins s σ H _ I q) (fun v s1 hh => ?_) fun _ _ z => z) hi hs
  obtain ⟨x, H1, I1, r1, q1⟩ := hh
  exact ⟨σ, H1, I1, q1⟩
theorem ns_ret (h : NE X body e te) : NS X body (.Return (some e) pos) (tRet te) := by
  refine ⟨fun pins s σ H D I q => ?_⟩
  refine PySem.ks_wpAt_Return_some (PySem.ks_wpAt_mono (h.run pins s σ H _ I q) (fun v s1 hh => ?_) fun _ _ z => z)
  obtain ⟨x, H1, I1, r1, q1⟩ := hh
  exact ⟨x, σ, H1, I1, r1, q1⟩
end
theorem lk_mem {l : List (Str × Value)} {y : Str} {u : Value} (nd : (l.map (·.1)).Nodup) (h : (y, u) ∈ l) : l.lookup y = some u := by
  induction l with
  | nil => cases h
  | cons p r ih =>
    obtain ⟨z, v⟩ := p
    have hz : ((z, v) :: r).map (·.1) = z :: r.map (·.1) := rfl
    rw [hz] at nd
    obtain ⟨n1, n2⟩ := List.nodup_cons.mp nd
    rcases List.mem_cons.mp h with q | q
    · cases q
      simp [List.lookup]
    · have ne : (y == z) = false := by
        simp only [beq_eq_false_iff_ne, ne_eq]
        intro e; subst e
        exact n1 (List.mem_map_of_mem (f := (·.1)) q)
      simp only [List.lookup, ne]
      exact ih n2 q
theorem nodup_rev {α : Type} : ∀ {l : List α}, l.Nodup → l.reverse.Nodup := fun {l} h => by
  unfold List.Nodup at h ⊢
  rw [List.pairwise_reverse]
  exact h.imp fun a b => a b.symm
theorem zip_lk {ps : List Str} {us : List Value} {i : Nat} {y : Str} {u : Value} (nd : ps.Nodup) (hl : us.length = ps.length) (h1 : ps[i]? = some y) (h2 : us[i]? = some u) : (ps.zip us).reverse.lookup y = some u := by
  refine lk_mem ?_ ?_
  · rw [List.map_reverse]
    refine nodup_rev ?_
    have : (ps.zip us).map (·.1) = ps := List.map_fst_zip (by omega)
    rw [this]; exact nd
  · rw [List.mem_reverse]
    refine List.mem_of_getElem? (i := i) ?_
    rw [List.getElem?_zip_eq_some]; exact ⟨h1, h2⟩
section
variable {CX : CXT} {P : Program} {w : World} {K : PySem.W.Frag} {mg : Str → Option Value} {base : Heap} {k : Nat} {f cc D : Addr} {name qual : Str} {params : Arguments} {body : List Stmt} {scope : Scope} {dV kV doc pm cdv ct oc cl : Value} {an od cld : Option Addr}
    {osl csl : Array (Option Value)} {N ps : List Str} {sp : Sp}
theorem fn_ofC (lk : K.lookup f = some ⟨oc, od, .func (PySem.W.ksFn name qual params body scope dV kV doc pm an cdv ct cc), osl⟩) (lc : K.lookup cc = some ⟨cl, cld, .cell (some (.ref D)), csl⟩) (hcd : PySem.W.codeIn K cdv qual = true) (S : CScope N ps scope)
    (len : ∀ vs H Q E, sp vs H Q E → vs.length = ps.length)
    (hbody : ∀ (A : Around) (outer : List Env) (s : Shared) (H : Hp) (vs : List V) (Q : VK) (E : XK), Room k (A.deeper (PySem.W.ksEnv qual scope s.heap.objs.size f cdv cc)) → sp vs H Q E →
      ∃ t, NSs (cxC CX P w K mg base N qual scope f cdv cc A outer s H E) body body t ∧ t { nx := fun _ H' => Q .non H', rt := Q } (L2.start N vs) H) :
    FnOk P w K mg base CX (k + 1) f (PySem.W.ksFn name qual params body scope dV kV doc pm an cdv ct cc) ps sp := by
  refine ⟨len, fun A outer s H args us vs Q E hr e0 hb r hsp => ?_⟩
  have hl := len _ _ _ _ hsp
  have hlu : us.length = ps.length := by rw [← hl]; exact r.length.symm
  have KX : K.In s.heap := e0.mod.kin.keeps fun b o e => (e0.bs b o e).1
  have lim : s.heap.NoLimit := e0.mod.nolimit.keeps fun b o e => (e0.bs b o e).1
  have hloc : ∀ y ∈ ps.zip us, scope.names.lookup y.1 = some .local := fun ⟨n, v⟩ hy => S.par n (List.of_mem_zip hy).1
  have ndP : ps.Nodup := by rw [← S.pre]; exact S.nd.sublist (List.take_sublist _ _)
  have hpl : ps.length ≤ N.length := by have := congrArg List.length S.pre; rw [List.length_take] at this; omega
  refine PySem.ks_codeAny_call_defAt (fd := PySem.W.ksFn name qual params body scope dV kV doc pm an cdv ct cc) (body := body) (binds := ps.zip us) hr.depth (KX _ _ lk) rfl lim (PySem.W.codeRec_of KX hcd) rfl hb S.nocell hloc (fun h₀ hns hk => ?_) S.co S.gen S.kind
  obtain ⟨t, ht, hq⟩ := hbody A outer s H vs Q E (hr.deeper _) hsp
  have noA : ∀ b : Addr, b ∉ (cxC CX P w K mg base N qual scope f cdv cc A outer s H E).ex := fun b z => absurd (show b ∈ ([] : List Addr) from z) (by simp)
  have hcells : ∀ (x : Str) (c : Addr), (cxC CX P w K mg base N qual scope f cdv cc A outer s H E).env.cells.lookup x = some c → x = "__class__" ∧ c = cc := fun x c h => by
    have h : List.lookup x [(("__class__" : Str), cc)] = some c := h
    simp only [List.lookup] at h
    split at h
    · rename_i e
      exact ⟨by simpa using e, (Option.some.inj h).symm⟩
    · cases h
  have hcc : base.get? cc = some ⟨cl, cld, .cell (some (.ref D)), csl⟩ := e0.mod.kin _ _ lc
  have I : Inv (cxC CX P w K mg base N qual scope f cdv cc A outer s H E) [] (start N vs) H { s with heap := h₀, toks := s.toks + (ps.zip us).length } := by
    refine ⟨⟨e0.mod, S.kind, rfl, rfl, Nat.le_refl _, fun y z c h1 h2 => ?_, fun y hy => ?_, fun y c hf _ => absurd hf (by show ¬ false = true; decide), fun _ => hr.hd, Around.frames_deeper e0.frames, .inr ⟨rfl, rfl⟩, fun b z => absurd z (noA b), e0.bs, e0.bsz, fun b _ _ => noA b, fun b z => absurd z (noA b), e0.funs, e0.frf⟩,
      rfl, e0.bare, Un.kept hk, ⟨_, hns, fun i y v h1 h2 h3 => ?_⟩, fun y c h => ?_, e0.hok.fresh (Nat.le_refl _), fun y c h => ?_, fun p hp => absurd (show p ∈ ([] : List (Addr × Obj)) from hp) (by simp), e0.hok.kept hk, ?_⟩
    · rw [(hcells _ _ h1).1, (hcells _ _ h2).1]
    · have hy : scope.names.lookup y = some .cell ∨ scope.names.lookup y = some .free := hy
      rcases hy with hy | hy
      · exact absurd rfl (S.nocell _ (PySem.mem_of_lookup hy))
      · have e := S.free _ (PySem.mem_of_lookup hy) rfl
        have e : y = "__class__" := e
        subst e
        exact ⟨cc, rfl⟩
    · have hi : i < vs.length := by
        unfold L2.start at h2
        by_cases hi : i < vs.length
        · exact hi
        · rw [List.getElem?_append_right (by simpa using hi)] at h2
          rw [List.getElem?_replicate] at h2
          split at h2 <;> cases h2
      have ha : vs[i]? = some v := by
        unfold L2.start at h2
        rw [List.getElem?_append_left (by simpa using hi), List.getElem?_map] at h2
        cases e : vs[i]? with
        | none => rw [e] at h2; cases h2
        | some a => rw [e] at h2; cases h2; rfl
      obtain ⟨u, hu, rv⟩ := r.get ha
      have hp : ps[i]? = some y := by
        rw [← S.pre, List.getElem?_take_of_lt (by omega)]; exact h1
      exact ⟨u, rv, .inl ⟨S.par y (List.mem_of_getElem? hp), zip_lk ndP hlu hp hu⟩⟩
    · rw [(hcells _ _ h).2]
      exact ⟨_, _, hk _ _ (KX _ _ lc), rfl⟩
    · rw [(hcells _ _ h).2]
      exact (e0.bs _ _ hcc).2
    · unfold L2.start
      show _ = N.length
      rw [List.length_append, List.length_map, List.length_replicate]
      omega
  refine PySem.ks_wpAt_mono (ht.run [] _ (start N vs) H _ I hq) (fun fl s' hs => ?_) fun e s' hs => hs
  have fin : ∀ {σ' : L2.St} {H' : Hp} {v : V} {u : Value}, Inv (cxC CX P w K mg base N qual scope f cdv cc A outer s H E) [] σ' H' s' → RelV v u → Q v H' → CE outer P w H s Q u s' :=
    fun {σ' H' v u} J rv q => ⟨v, H', J.os, J.bare, J.base, J.hok, rv, q⟩
  cases fl with
  | ret u =>
    obtain ⟨v, σ', H', J, rv, q⟩ := hs
    exact fin J rv q
  | next =>
    obtain ⟨σ', H', J, q⟩ := hs
    exact fin (v := V.non) (u := Value.none) J rfl q
  | brk =>
    obtain ⟨_, _, _, q⟩ := hs
    exact False.elim q
  | cont =>
    obtain ⟨_, _, _, q⟩ := hs
    exact False.elim q
end
end LR

set_option Elab.async false
set_option maxRecDepth 100000
set_option linter.all false
set_option maxHeartbeats 4000000
namespace LR
open PySem PySem.Spec PyProof.Rows L2
/-- what the written part says of a def with super(), standing at f, of the class at D -/
structure SupIn (prog : Program) (K : PySem.W.Frag) (mg : Str → Option Value) (f cc cda D : Addr) (fd : FuncData) (me : Str) : Prop where
  fn : ∃ oc od osl, K.lookup f = some ⟨oc, od, .func fd, osl⟩
  head : ∃ ar : Arg, (fd.params.posonlyargs ++ fd.params.args).head? = some ar ∧ ar.arg = me
  code : ∃ (ccl : Value) (cdd : Option Addr) (vs : Array Value) (ccs : Array (Option Value)) (file : Str) (tf : Tok), K.lookup cda = some ⟨ccl, cdd, .fields vs, ccs⟩ ∧ vs[2]? = some (.str file tf) ∧ ((prog.main.file : Str) == file) = true
  cell : ∃ cl cld csl, K.lookup cc = some ⟨cl, cld, .cell (some (.ref D)), csl⟩
  cls : ∃ cd, PySem.W.clsIn K D = some cd
  sup : mg "super" = none
  top : (prog.main.scope.names.lookup ("super" : Str)).isSome = false
  any : PySem.W.nsIn K cStatics "thirdparty.any" = some none
theorem b_super : bootBuiltins "super" = some (.type "super") := by first | decide +kernel | rfl | kernel_rfl
theorem pin_newA {X : Cx} {pins : List (Addr × Obj)} {σ : L2.St} {H : Hp} {s : Shared} {o : Obj} {h' : Heap} {a : Addr} {t' : Nat} (I : Inv X pins σ H s) (k : ∀ b u, s.heap.get? b = some u → h'.get? b = some u) (ha : s.heap.objs.size ≤ a) (ho : h'.get? a = some o) (hc : ∀ v, o.data ≠ .cell v) :
    Inv X ((a, o) :: pins) σ H { s with heap := h', toks := t' } := ClX.pin_new I k ha ho hc
section
variable {X : Cx} {pins : List (Addr × Obj)} {σ : L2.St} {H : Hp} {s : Shared} {body : List Stmt} {f cc cda D C x : Addr} {fd : FuncData} {self attr : Str} {p0 p1 : Pos} {whole : Sem Value} {Q : Value → Shared → Prop} {i : Nat}
theorem super_base (S : SupIn X.prog X.K X.mg f cc cda D fd self) (I : Inv X pins σ H s) {ox : Obj} (hx : s.heap.get? x = some ox) (hxc : ox.cls = .ref C) (hnc : ∀ c, ox.data ≠ .cls c) (hsub : PySem.W.mroIn X.K C (.ref D) = some true)
    (hi : X.N[i]? = some self) (hσ : σ[i]? = some (some (.ref x))) (hka : X.env.kindOf self = some .local)
    (hks : X.env.kindOf "super" = some .globalImplicit) (hkc : X.env.kindOf "__class__" = some .free) (hfu : X.env.func = some f) (hco : X.env.code = .ref cda) (hcl : X.env.cells.lookup ("__class__" : Str) = some cc)
    (hat : (attr == ("__class__" : Str)) = false)
    (h : ∀ (so : Addr) (h' : Heap), h'.get? so = some (PySem.W.ks_superObj D x C) → Inv X ((so, PySem.W.ks_superObj D x C) :: pins) σ H { s with heap := h' } → (∀ b u, s.heap.get? b = some u → h'.get? b = some u) → Q (.ref so) { s with heap := h' }) {E : Value → Shared → Prop} :
    PySem.wpAt (model X.prog X.w) X.A (.func body X.env) (attributeBase (.Call (.Name "super" p0) [] [] p1) attr X.env whole) Q E s := by
  obtain ⟨oc, od, osl, hf⟩ := S.fn
  obtain ⟨ar, hp, har⟩ := S.head
  obtain ⟨ccl, cdd, vs, ccs, file, tf, hcode, hvs, hfile⟩ := S.code
  obtain ⟨cl, cld, csl, hcell⟩ := S.cell
  obtain ⟨cdD, hD⟩ := S.cls
  have KX := I.kIn
  obtain ⟨oD, hD1, hD2⟩ : ∃ oD, s.heap.get? D = some oD ∧ oD.data = .cls cdD := by
    unfold PySem.W.clsIn at hD
    split at hD
    · rename_i c d cd' sl ho
      cases hD
      exact ⟨_, KX _ _ ho, rfl⟩
    · cases hD
  subst har
  have kind := I.ok.kind
  obtain ⟨mb, hb1, hb2⟩ := I.mod.blt
  refine PySem.ks_wpAt_super_base (env := X.env) hks hkc hat hfu (KX _ _ hf) rfl hp hco (KX _ _ hcode) rfl hvs hfile S.top ?_
  refine PySem.W.ks_loadName_global kind hks (Calls.loadGlobal_builtin (by rw [I.ok.glob]; exact I.mod.glob.keeps I.bk) S.sup (by rw [I.ok.blt]; exact hb1.keeps I.bk) ((hb2 _ (by decide)).trans b_super) ⟨rfl, ?_⟩)
  refine wpAny_loadName_free kind hkc hcl ⟨_, KX _ _ hcell, rfl⟩ ?_
  obtain ⟨m, hns, hloc⟩ := id I.loc
  obtain ⟨u, ru, hlook⟩ := hloc i _ _ hi hσ (.inl hka)
  obtain rfl : u = Value.ref x := ru
  rcases hlook with ⟨_, hm⟩ | ⟨hk, _⟩
  · refine wpAny_loadName_local kind hka hns hm ?_
    obtain ⟨hh, g, d, t, os⟩ := s
    refine PySem.ks_wpAny_isType_cls hD1 hD2 ⟨rfl, ?_⟩
    refine PySem.ks_wpAny_call_super hD1 hD2 hx hxc hnc (PySem.W.looks_mroIn KX hsub) (fun h' e k => ?_)
    exact h _ h' e (pin_newA (t' := t) I k (Nat.le_refl _) e (fun v z => by cases z)) k
  · rw [hka] at hk
    rcases hk with hk | hk <;> cases hk
end
/-! ### super().__init__(..) where the built-in's __init__ is meant -/
section
open PySem.W
variable {prog : Program} {w : World} {A : Around} {E : Value → Shared → Prop} {h : Heap} {g : Array GenState} {d : Drawn} {t : Nat} {os : OsState}
variable {nm q : Str} {C N : Addr} {bs bm : List Value} {hdct : Bool} {sn : List Str} {sub : List Value} {ab : Bool} {col : Option Bool} {dd : Option Addr} {k0 k1 k2 k3 k5 : Option Value}
theorem call_mwVE {u e t0 : Addr} {rest : List Value} {Q : Value → Shared → Prop}
    (hC : h.get? C = some (excClassObj nm q C N bs bm hdct sn sub ab col dd k0 k1 k2 k3 k5 "ValueError.__new__")) (he : h.get? e = some (HandSPX.excO C t0)) (hu : h.get? u = some (kxs_mw "ValueError.__init__" e)) (hrest : rest.length ≤ sizeLine)
    (hq : ∀ h' t1, (∀ b o, b ≠ e → h.get? b = some o → h'.get? b = some o) → h'.get? e = some (HandSPX.excO C t1) → Q .none ⟨h', g, d, t, os⟩) :
    wpAny (model prog w) A (call (.ref u) rest) Q E ⟨h, g, d, t, os⟩ := by
  refine wpAny_call (codeAny_of_tree ?_)
  show wpAny _ A.in1 (callAny (.ref u) ⟨rest, []⟩) _ _ _
  simp only [callAny]
  refine wpAny_bind (wpAny_load hu ?_)
  simp only [kxs_mw, show (Value.type "method-wrapper" == Value.type "method" || Value.type "method-wrapper" == Value.type "builtin_function_or_method" || Value.type "method-wrapper" == Value.type "method-wrapper") = true by decide, if_true]
  refine KFB.if_so (by decide) ?_
  refine wpAny_bind (ESX.check_bound F.excBase_ValueError hC he rfl ?_)
  refine wpAny_bind (wpAny_pure (wpAny_pure ?_))
  refine ⟨Code.quiet_builtin _ (by decide +kernel), codeAny_builtin F.excBase_ValueError.initEntry ?_⟩
  rw [Around.under_plainId F.excBase_ValueError.init.plain _]
  wp_walk
  refine hq _ h.objs.size (fun b o hb ho => ?_) ?_
  · rw [Heap.get?_update_other _ _ (Ne.symm hb)]
    exact Heap.get?_push_of_some _ ho
  · rw [Heap.get?_update_self _ (Heap.get?_push_of_some _ he) rfl]
    rfl
end
section
variable {X : Cx} {body : List Stmt} {f cc cda D C : Addr} {fd : FuncData} {me m : Str} {p0 p1 pos apos : Pos} {i : Nat} {e : Expr} {es : List Expr} {ta : TA} {pl : Sem Bool}
/-- super().__init__(e, ..) in an exception's own __init__: nothing of it is told -/
def tSupV (C : Addr) (i : Nat) (ta : TA) : TE := fun σ H Q => ∃ x : Addr, σ[i]? = some (some (.ref x)) ∧ H x = some (exo x C none) ∧ ta σ H fun vs H1 => vs.length ≤ 1000 ∧ H1 x = some (exo x C none) ∧ Q .non H1
theorem ne_supV (S : SupIn X.prog X.K X.mg f cc cda C fd me) (T : OexC X.K C) (hm : PySem.W.ks_superIn X.K C C "__init__" = some (some (.builtin "ValueError.__init__"))) (hsub : PySem.W.mroIn X.K C (.ref C) = some true) (hB : PySem.W.subIn X.K (.ref C) (.type "ValueError") = some true)
    (ha : PA X (e :: es) ta)
    (hi : X.N[i]? = some me := by rfl) (hka : X.env.kindOf me = some .local := by rfl)
    (hks : X.env.kindOf "super" = some .globalImplicit := by rfl) (hkc : X.env.kindOf "__class__" = some .free := by rfl) (hfu : X.env.func = some f := by rfl) (hco : X.env.code = .ref cda := by rfl) (hcl : X.env.cells.lookup ("__class__" : Str) = some cc := by rfl)
    (hst : starEach (e :: es) X.env = (false, eval e X.env) :: starEach es X.env := by rfl) (hpl : (backTo pos (starEach es X.env)).any (·.1) = false := by rfl)
    (ht : eval (.Call (.Attribute (.Call (.Name "super" p0) [] [] p1) "__init__" apos) (e :: es) [] pos) X.env = (do
      let ov ← attributeBase (.Call (.Name "super" p0) [] [] p1) "__init__" X.env (eval (.Call (.Name "super" p0) [] [] p1) X.env)
      standAt apos.atName
      let (f, first) ← holding [ov] (getMethod ov "__init__" pl)
      callWith pos f first (backTo pos (starEach (e :: es) X.env)) []) := by rfl) :
    NE X body (.Call (.Attribute (.Call (.Name "super" p0) [] [] p1) "__init__" apos) (e :: es) [] pos) (tSupV C i ta) := by
  refine ⟨fun pins s σ H Q I h => ?_⟩
  obtain ⟨x, hσ, hx, q⟩ := h
  obtain ⟨t1, hox⟩ := exo_at I.hok hx
  refine PySem.ks_wpAt_MethodCall (pl := pl) (super_base S I hox rfl (fun c z => by cases z) hsub hi hσ hka hks hkc hfu hco hcl (by decide) (fun so h' hso J k => ?_)) ht
  have KX := J.kIn
  have hox' := k _ _ hox
  have IA : PySem.W.InstAt h' x { cls := .ref C, dict := none, data := .fields #[.ref t1, .none, .none, .none, .bool false, .none] } C none := ⟨hox', rfl, rfl, trivial⟩
  cases hc : PySem.W.clsIn X.K C with
  | none => unfold PySem.W.ks_superIn at hm; rw [hc] at hm; cases hm
  | some cd =>
    unfold PySem.W.ks_superIn at hm
    rw [hc] at hm
    obtain ⟨hh, g, d, t, os⟩ := s
    refine PySem.W.kxs_getMethod PySem.W.kxs_ValueError hso (PySem.W.looks_opaque KX S.any) (l₀ := cd.mro) (fun A Q E s k q => wpAny_bind ((PySem.W.looks_clsIn KX hc) A _ E s k (wpAny_pure q))) rfl KX hm (IA.type.andThen (PySem.W.looks_subIn KX hB)) (PySem.W.ks_ne KX IA hc) (by decide) ?_
    have J2 := pin_newA (t' := t + 1) J (fun b u z => Heap.get?_push_of_some (PySem.W.kxs_mw "ValueError.__init__" x) z) (Nat.le_refl _) (Heap.get?_push_at rfl rfl) (fun v z => by cases z)
    rw [hst]
    refine PySem.W.kxs_callWith (i := "ValueError.__init__") (x := x) (by show (false || (backTo pos (starEach es X.env)).any (·.1)) = false; rw [hpl]; rfl) ?_
    have ha' := fun pins s H Q I q => ha.run pos pins s σ H Q I q
    rw [hst] at ha'
    refine PySem.Calls.evalArgs_plain (thn (ha' _ _ H _ J2 q) fun us s3 ⟨vs, H1, I3, rv, hl, hx1, q1⟩ => ⟨ClX.pin_at I3, ?_⟩)
    have I4 := ClX.unpin (ClX.unpin I3)
    obtain ⟨t2, hox2⟩ := exo_at I4.hok hx1
    obtain ⟨nm, qn, N, bs, bm, sn, sub, ab, col, dd, k0, k1, k2, k3, k5, hC, hbm⟩ := T.cls
    have hmw := ClX.pin_at I3
    obtain ⟨hp, g3, d3, t3, os3⟩ := s3
    refine call_mwVE (I4.kIn _ _ hC) hox2 hmw ?_ (fun h5 t5 k5 hx5 => ?_)
    · have := rv.length
      show us.length ≤ sizeLine
      rw [← this, sizeLine_eq]; omega
    · have J5 := I4.write (t' := t3) (x := x) (e := x) (o := exo x C none) (by rw [hx1]; exact True.intro) (.inl rfl) k5 ⟨_, hx5⟩ (exo_ok hx5)
      have eu : upd H1 x (exo x C none) = H1 := by
        funext b
        by_cases hb : b = x
        · rw [hb, upd_same, hx1]
        · rw [upd_ne hb]
      rw [eu] at J5
      exact ⟨.non, H1, J5, rfl, q1⟩
end
end LR

set_option Elab.async false
set_option maxRecDepth 100000
set_option linter.all false
set_option maxHeartbeats 4000000
namespace LR
open PySem PySem.Spec PyProof.Rows L2
/-! ## isinstance of an error that a suite holds -/
/-- the error's own dict (if it has one) is known -/
def DictKnown (H : Hp) : Option Addr → Prop
  | none => True
  | some dd => ∃ fs, H dd = some (.xd fs)
structure ErrC (K : PySem.W.Frag) (C : Addr) : Prop where
  cl : (PySem.W.clsIn K C).isSome = true
  ga : PySem.W.findIn K (.ref C) "__getattribute__" = some (some (.builtin "BaseException.__getattribute__"))
  gg : PySem.W.findIn K (.ref C) "__getattr__" = some none
  sb : PySem.W.subIn K (.ref C) (.type "BaseException") = some true
  ac : PySem.W.findIn K (.ref C) "__class__" = some (some (.builtin "object.__class__"))
  mo : PySem.W.mroIn K C (.type "object") = some true
  hd : PySem.W.hasDictIn K C = true
/-- .. and of the built-in object -/
structure ObjC (K : PySem.W.Frag) : Prop where
  gt : PySem.W.specialIn K (.builtin "object.__class__") "__get__" = some (some (.builtin "getset_descriptor.__get__"))
  tk : PySem.W.takesIn K (.builtin "object.__class__") = some true
def rIsX (K : PySem.W.Frag) (cls : Value) (a : Addr) (d : Option Addr) : List V → Hp → VK → Prop := fun xs H Q => ∃ C : Addr, cls = .ref C ∧ ErrC K C ∧ DictKnown H d ∧
  ((∃ (c : V) (cv : Value) (b : Bool), xs = [.ref a, c] ∧ ClsV c cv ∧ PySem.W.kitOne K (.ref C) cv = some b ∧ Q (.bl b) H) ∨
    ∃ (tp : Addr) (cs : List V) (us : List Value) (b : Bool), xs = [.ref a, .ref tp] ∧ H tp = some (.tup cs) ∧ Paired ClsV cs us ∧ PySem.W.kitAny K (.ref C) us = some b ∧ Q (.bl b) H)
theorem call_isX {X : Cx} {a : Addr} {cls : Value} {d : Option Addr} {oe : Obj} {pn : List (Addr × Obj)} (O : ObjC X.K) (hz : Zc cls d oe) (hf : ∃ vs, oe.data = .fields vs) :
    CallR (X.suite a ((a, oe) :: pn)) (.builtin "isinstance") (rIsX X.K cls a d) := by
  intro pins s σ H xs us Q I r h
  obtain ⟨C, rfl, E, hd, h⟩ := h
  obtain ⟨hget, _⟩ := I.pin (a, oe) (List.mem_append.mpr (.inl List.mem_cons_self))
  obtain ⟨fv, hfv⟩ := hf
  have nc : PySem.W.notCls oe = true := by unfold PySem.W.notCls; rw [hfv] <;> rfl
  have J : ∃ od, PySem.W.InstAt s.heap a oe C od := by
    cases d with
    | none => exact ⟨none, hget, hz.1, nc, by rw [hz.2]; trivial⟩
    | some dd =>
      obtain ⟨fs, hdd⟩ := hd
      obtain ⟨mA, hns, _⟩ := (show ObjOk X.prog X.w H s.heap dd (.xd fs) from I.hok dd _ hdd)
      obtain ⟨od, ho, _⟩ := lookIn_ns hns
      exact ⟨some od, hget, hz.1, nc, by rw [hz.2]; exact ho⟩
  obtain ⟨od, J⟩ := J
  have Z := PySem.W.kitx_exc (x := a) (ox := oe) (od := od) E.cl E.ga E.gg E.sb E.ac O.gt O.tk E.mo
  rcases h with ⟨c, cv, b, rfl, kc, e, q⟩ | ⟨tp, cs, ws, b, rfl, hT, kc, e, q⟩
  · cases r with
    | cons rx rr =>
      cases rr with
      | cons rt rn =>
        cases rn
        cases rx
        have ec := kc.eq rt
        subst ec
        exact PySem.W.kia_one Z I.kIn J e (fun z => nomatch z) fun tk => ⟨.bl b, H, I.tok tk, rfl, q⟩
  · cases r with
    | cons rx rr =>
      cases rr with
      | cons rt rn =>
        cases rn
        cases rx
        cases rt
        obtain ⟨_, its, rv, o, h1, h2, n, h3⟩ := (show ObjOk X.prog X.w H s.heap tp (.tup cs) from I.hok tp _ hT)
        have e3 := ClsV.all kc rv
        subst e3
        obtain ⟨oc, od', dt, sl⟩ := o
        simp only at h2 h3
        subst h2 h3
        exact PySem.W.kia_tup Z I.kIn J h1 e (fun z => nomatch z) fun tk => ⟨.bl b, H, I.tok tk, rfl, q⟩
theorem b_ValueError : bootBuiltins "ValueError" = some (.type "ValueError") := by decide +kernel
/-! ## try with several clauses, each with a name or without -/
abbrev Clause := Value × Option Nat × (Addr → Value → Option Addr → TS)
/-- a suite that holds the error in slot i leaves the slot empty -/
def emptied (i : Nat) (D : Ends) : Ends := { nx := fun σ H => D.nx (σ.set i none) H, rt := D.rt, bk := fun σ H => D.bk (σ.set i none) H, ct := fun σ H => D.ct (σ.set i none) H }
def wCl (K : PySem.W.Frag) (Wout : WX) (D : Ends) : List Clause → WX
  | [] => Wout
  | (c, none, ts) :: r => fun cls d σ H => ∃ b, PySem.W.exmOne K cls c = some b ∧ (b = true → ∀ a, H a = none → ts a cls d D σ H) ∧ (b = false → wCl K Wout D r cls d σ H)
  | (c, some i, ts) :: r => fun cls d σ H => ∃ b, PySem.W.exmOne K cls c = some b ∧ (b = true → ∀ a, H a = none → ts a cls d (emptied i D) (σ.set i (some (.ref a))) H) ∧ (b = false → wCl K Wout D r cls d σ H)
def SuiteOk (X : Cx) (body : List Stmt) (ts : Addr → Value → Option Addr → TS) : Prop :=
  ∀ (a : Addr) (oe : Obj) (cls : Value) (d : Option Addr) (pn : List (Addr × Obj)), Zc cls d oe → (∃ vs, oe.data = .fields vs) → PSs (X.suite a ((a, oe) :: pn)) body (ts a cls d)
inductive ClOk (X : Cx) : List ExceptHandler → List Clause → Prop
  | nil : ClOk X [] []
  | bare {x : Str} {c : Value} {ts} {b₀ : Stmt} {suite : List Stmt} {np pos' : Pos} {hds l} (hc : Names X x c) (hsu : SuiteOk X (b₀ :: suite) ts) (r : ClOk X hds l) :
      ClOk X (.ExceptHandler (some (.Name x np)) none (b₀ :: suite) pos' :: hds) ((c, none, ts) :: l)
  | held {x n : Str} {i : Nat} {c : Value} {ts} {b₀ : Stmt} {suite : List Stmt} {np pos' : Pos} {hds l} (hi : X.N[i]? = some n) (hln : X.env.kindOf n = some .local) (hc : Names X x c) (hsu : SuiteOk X (b₀ :: suite) ts) (r : ClOk X hds l) :
      ClOk X (.ExceptHandler (some (.Name x np)) (some n) (b₀ :: suite) pos' :: hds) ((c, some i, ts) :: l)
section
variable {X : Cx} {body : List Stmt} {h₀ : ExceptHandler} {hds : List ExceptHandler} {l : List Clause} {pos : Pos} {tb : WX → TS} {Wout : WX}
theorem ps_try_any (hs : X.stack = X.env :: X.outer) (hf : X.env.frame = some X.env.locals) (hN : X.N.Nodup) (tk : Takes X Wout)
    (hb : ∀ (W : WX) (pn : List (Addr × Obj)) (xe : Value → Shared → Prop), Takes (X.tr pn xe) W → PassesOwn (model X.prog X.w) X.A X.env xe → PSs (X.tr pn xe) body (tb W))
    (hh : ClOk X (h₀ :: hds) l) : PS X (.Try body (h₀ :: hds) [] [] pos) (fun D σ H => tb (wCl X.K Wout D l) D σ H) := by
  refine ⟨fun pins s σ H D I h => ?_⟩
  have ok := I.ok
  have fr1 : X.A.frames = some (X.env :: X.outer) := ok.frames.trans (congrArg some hs)
  refine wpAny_Try_except ?_
  -- what the body's error meets: the frame's note, then the clauses
  let meets : Value → Shared → Prop := fun e s₁ => wpAny (model X.prog X.w) X.A (noteFrame e X.env) (fun _ s₂ => wpAny (model X.prog X.w) X.A (setFlight e none) (fun _ s₃ => wpAny (model X.prog X.w) X.A (handleBy e X.env (h₀ :: hds)) (SP X pins D) X.xe s₃) X.xe s₂) X.xe s₁
  have caught : ∀ u s', XE (X.tr (X.pn ++ pins) meets) (wCl X.K Wout D l) u s' → meets u s' := by
    intro u s' xx
    obtain ⟨a, B, sI, pins', σ', H', cls, d, rfl, J', nb, up, sky, na, os, ag, w⟩ := xx
    have J : Inv X pins σ' H' sI := J'.ofTry ok
    refine Sky.land Zc.steady fr1 hf (L := X.env.locals) (by rw [← hs]; exact sky) fun h3 fl3 up3 => ?_
    have J3 : Inv X pins σ' H' { s' with heap := h3 } := J.landed nb fl3.1 (up.trans up3) os ag
    obtain ⟨oe3, vs3, he3, hz3, hd3⟩ := fl3.there
    have out : a ∉ frs (X.env :: X.outer) := fun hm => by
      obtain ⟨_, o', e', hnf⟩ := fl3.2.2.1.mem hm
      rw [he3] at e'; cases e'
      exact hnf _ hd3
    have nL : a ≠ X.env.locals := fun z => out (List.mem_filterMap.mpr ⟨X.env, .head _, by rw [hf, z]⟩)
    have nF : a ∉ X.fs := fun hm => by
      obtain ⟨e, he, q⟩ := List.mem_filterMap.mp hm
      exact out (List.mem_filterMap.mpr ⟨e, .tail _ he, q⟩)
    have S3 := J3.suite he3 hd3 na nL nF
    have LT : PySem.W.Looks (model X.prog X.w) h3 (typeOf (.ref a)) cls := fun A Q E s k q => wpAny_typeOf_ref (k _ _ he3) (by rw [hz3.1]; exact q)
    have test : ∀ {x : Str} {np : Pos} {c : Value} {Q : Value → Shared → Prop} {E : Value → Shared → Prop}, Names X x c → Q c { s' with heap := h3 } → wpAny (model X.prog X.w) (X.A.mark (some (.ref a))) (eval (.Name x np) X.env) Q E { s' with heap := h3 } := by
      intro x np c Q E hc q
      obtain ⟨hg, hdbg, hm | ⟨hm, hv, hnn⟩⟩ := hc
      · exact ld_glob (X := X.suite a ((a, oe3) :: (X.pn ++ pins))) S3 hg hm q hdbg
      · exact ld_blt (X := X.suite a ((a, oe3) :: (X.pn ++ pins))) S3 hg hm hv q hnn hdbg
    -- the clauses one after the other
    have go : ∀ (hs1 : List ExceptHandler) (l1 : List Clause), ClOk X hs1 l1 → wCl X.K Wout D l1 cls d σ' H' → wpAny (model X.prog X.w) X.A (handleBy (.ref a) X.env hs1) (SP X pins D) X.xe { s' with heap := h3 } := by
      intro hs1 l1 hk
      induction hk with
      | nil =>
        intro w
        refine wpAny_handleBy_nil ?_
        have again := fl3
        obtain ⟨_, _, _, oe, fvs, T, oT, ts', he, hz, hd, h1, hr⟩ := again
        unfold PySem.passOn
        refine wpAny_bind (wpAny_field he hd h1 ?_)
        rw [if_neg (show ¬ ((Value.ref T == Value.none) = true) from by simp)]
        have onward : wpAny (model X.prog X.w) X.A (setFlight (.ref a) X.env.frame) (fun _ s4 => wpAny (model X.prog X.w) X.A (throw (.ref a) : Sem Flow) (SP X pins D) X.xe s4) X.xe { s' with heap := h3 } := by
          rw [hf]
          exact HandSPX.setFlight_upZ fl3 fun h4 hh4 up4 => wpAny_throw (tk _ _ ⟨a, B, sI, pins, σ', H', cls, d, rfl, J, nb, (up.trans up3).trans up4, .inr (.inr (by rw [hs]; exact hh4)), na, os, ag, w⟩)
        first
          | exact wpAny_bind (wpAny_pure (wpAny_bind onward))
          | exact wpAny_bind onward
      | bare hc hsu r ih =>
        rintro ⟨b, hb1, yes, no⟩
        refine wpAny_handleBy_cons (codeAny_handlers_test ?_) (by intro q; cases q)
        refine test hc ((PySem.W.exm_one (M := model X.prog X.w) J3.kIn LT hb1).here ?_)
        cases b with
        | false => exact ih (no rfl)
        | true =>
          refine codeAny_handlers_suite (HandSPX.lands_againZ fl3 fun h4 fl4 up4 => ?_)
          obtain ⟨oe4, vs4, he4, hz4, hd4⟩ := fl4.there
          have S4 := (show Inv X pins σ' H' { s' with heap := h4 } from J.landed nb fl4.1 ((up.trans up3).trans up4) os ag).suite he4 hd4 na nL nF
          refine wpAny_mono ((hsu a oe4 cls d (X.pn ++ pins) hz4 ⟨_, hd4⟩).run [] _ _ H' _ S4 (yes rfl a na)) (fun f s6 hsp => ?_) (fun _ _ z => False.elim z)
          cases f with
          | ret u => obtain ⟨v6, σ6, H6, S6, r6, q6⟩ := hsp; exact ⟨_, _, _, S6.unsuite ok, r6, q6⟩
          | next => obtain ⟨σ6, H6, S6, q6⟩ := hsp; exact ⟨_, _, S6.unsuite ok, q6⟩
          | brk => obtain ⟨σ6, H6, S6, q6⟩ := hsp; exact ⟨_, _, S6.unsuite ok, q6⟩
          | cont => obtain ⟨σ6, H6, S6, q6⟩ := hsp; exact ⟨_, _, S6.unsuite ok, q6⟩
      | @held _ n i _ _ _ _ _ _ _ _ hi hln hc hsu r ih =>
        rintro ⟨b, hb1, yes, no⟩
        refine wpAny_handleBy_cons (codeAny_handlers_test ?_) (by intro q; cases q)
        refine test hc ((PySem.W.exm_one (M := model X.prog X.w) J3.kIn LT hb1).here ?_)
        cases b with
        | false => exact ih (no rfl)
        | true =>
          refine codeAny_handlers_suite_as (HandSPX.lands_againZ fl3 fun h4 fl4 up4 => ?_)
          obtain ⟨oe4, vs4, he4, hz4, hd4⟩ := fl4.there
          have S4 := (show Inv X pins σ' H' { s' with heap := h4 } from J.landed nb fl4.1 ((up.trans up3).trans up4) os ag).suite he4 hd4 na nL nF
          refine store_ok (X := X.suite a ((a, oe4) :: (X.pn ++ pins))) (v := .ref a) S4 hN hi (.inl hln) rfl (fun s5 S5 => ?_) (.inr hln)
          refine wpAny_mono ((hsu a oe4 cls d (X.pn ++ pins) hz4 ⟨_, hd4⟩).run [] s5 _ H' _ S5 (yes rfl a na)) (fun f s6 hsp => ?_) (fun _ _ z => False.elim z)
          have leave : ∀ {σ6 : L2.St} {H6 : Hp} {Q : Shared → Prop} {p : Pos}, Inv (X.suite a ((a, oe4) :: (X.pn ++ pins))) [] σ6 H6 s6 → (∀ s7, Inv X pins (σ6.set i none) H6 s7 → Q s7) →
              wpAny (model X.prog X.w) X.A (do bindName X.env n .none; unbindBehindTheSuite X.env n p) (fun _ s7 => Q s7) X.xe s6 := fun S6 hq => gone_ok (S6.unsuite ok) hN hi hln hq
          cases f with
          | ret u => obtain ⟨v6, σ6, H6, S6, r6, q6⟩ := hsp; exact leave S6 fun s7 J7 => ⟨_, _, _, J7, r6, q6⟩
          | next => obtain ⟨σ6, H6, S6, q6⟩ := hsp; exact leave S6 fun s7 J7 => ⟨_, _, J7, q6⟩
          | brk => obtain ⟨σ6, H6, S6, q6⟩ := hsp; exact leave S6 fun s7 J7 => ⟨_, _, J7, q6⟩
          | cont => obtain ⟨σ6, H6, S6, q6⟩ := hsp; exact leave S6 fun s7 J7 => ⟨_, _, J7, q6⟩
    exact go _ _ hh w
  refine wpAny_mono ((hb (wCl X.K Wout D l) (X.pn ++ pins) meets caught PassesOwn.looking).run [] s σ H D (I.toTry _) h) (fun f s1 hsp => ?_) (fun e s1 he => he)
  cases f with
  | next => obtain ⟨σ', H', J', q⟩ := hsp; exact wpAny_execs_nil ⟨σ', H', J'.ofTry ok, q⟩
  | brk => obtain ⟨σ', H', J', q⟩ := hsp; exact ⟨σ', H', J'.ofTry ok, q⟩
  | cont => obtain ⟨σ', H', J', q⟩ := hsp; exact ⟨σ', H', J'.ofTry ok, q⟩
  | ret u => obtain ⟨v, σ', H', J', r, q⟩ := hsp; exact ⟨v, σ', H', J'.ofTry ok, r, q⟩
end
end LR

set_option Elab.async false
set_option maxRecDepth 100000
set_option linter.all false
set_option maxHeartbeats 4000000
namespace LR
open PySem PySem.Spec PyProof.Rows L2
/-! ## f-strings of which nothing is told -/
section
variable {σ : L2.St} {H : Hp} {ts : List TE} {acc a : Str} {n i : Nat} {v : Int} {Q : Str → Hp → Prop}
theorem js_c (hn : n ≤ 100000) (hacc : acc.length ≤ n) (ha : a.length ≤ 1000) (k : ∀ acc' : Str, acc'.length ≤ n + 1000 → tJs ts acc' σ H Q) : tJs (tC (.str a) :: ts) acc σ H Q := by
  have hl : (acc ++ a).length ≤ n + 1000 := by rw [Str.length_append]; omega
  exact ⟨a, rfl, Nat.le_trans hl (by rw [sizeLine_eq]; omega), k _ hl⟩
theorem js_v {te : TE} (hn : n ≤ 100000) (hacc : acc.length ≤ n) (hv : v.natAbs.log2 < 1920) (he : ∀ Q : VK, Q (.int v) H → te σ H Q) (k : ∀ acc' : Str, acc'.length ≤ n + 1921 → tJs ts acc' σ H Q) : tJs (tFmt te :: ts) acc σ H Q := by
  have hy := PyProof.Rows.int_text_len_1921 hv
  have hl : (acc ++ Str.ofString (toString v)).length ≤ n + 1921 := by rw [Str.length_append]; omega
  refine he _ (.inr ⟨v, rfl, hv, Str.ofString (toString v), rfl, Nat.le_trans hl (by rw [sizeLine_eq]; omega), k _ hl⟩)
end
theorem log_small {v : Int} (h : v.natAbs < 2 ^ 1900) : v.natAbs.log2 < 1920 := by
  by_cases c : v.natAbs = 0
  · rw [c]; decide
  · exact Nat.lt_of_lt_of_le ((Nat.log2_lt c).mpr h) (by decide)
/-! ## an error class of the program with one field, made by its own __init__ -/
structure ErrIn (prog : Program) (K : PySem.W.Frag) (mg : Str → Option Value) (x : Str) (C : Addr) (qual : Str) (st : Stmt) (fld : Str) : Prop where
  gC : mg x = some (.ref C)
  T : OexC K C
  E : ErrC K C
  X : XfC K C
  no : PySem.W.findIn K (.ref C) fld = some none
  ini : ∃ (f cc cda : Addr) (fd : FuncData), PySem.W.findIn K (.ref C) "__init__" = some (some (.ref f)) ∧ PySem.W.typeIn K (.ref f) = some (.type "function") ∧ SupIn prog K mg f cc cda C fd "self" ∧ Binds K fd ["self", fld] [] ∧
    ∃ (oc : Value) (od an : Option Addr) (kV doc pm ct : Value) (osl : Array (Option Value)), fd = PySem.W.ksFn "__init__" qual (defArgs st) (defBody st) (defScope st) .none kV doc pm an (.ref cda) ct cc ∧ K.lookup f = some ⟨oc, od, .func fd, osl⟩ ∧ PySem.W.codeIn K (.ref cda) qual = true
  sm : PySem.W.ks_superIn K C C "__init__" = some (some (.builtin "ValueError.__init__"))
  mr : PySem.W.mroIn K C (.ref C) = some true
  sv : PySem.W.subIn K (.ref C) (.type "ValueError") = some true
/-- what its __init__ does -/
def spErr (C : Addr) (fld : Str) : Sp := fun vs H Q _ => ∃ (a : Addr) (v : Int), vs = [.ref a, .int v] ∧ H a = some (exo a C none) ∧ v.natAbs < 2 ^ 1900 ∧ ∀ dx, H dx = none → dx ≠ a → Q .non (upd (upd H dx (exd dx [(fld, .int v)])) a (exo a C (some dx)))
/-- such a class, ready to be raised -/
structure ErrOk (P : Program) (w : World) (K : PySem.W.Frag) (mg : Str → Option Value) (base : Heap) (x : Str) (C : Addr) (fld : Str) : Prop where
  gC : mg x = some (.ref C)
  T : OexC K C
  fn : ∃ (f : Addr) (fd : FuncData), PySem.W.findIn K (.ref C) "__init__" = some (some (.ref f)) ∧ PySem.W.typeIn K (.ref f) = some (.type "function") ∧ FnOk P w K mg base CX0 1 f fd ["self", fld] (spErr C fld) ∧ Binds K fd ["self", fld] []
section
variable {P : Program} {w : World} {K : PySem.W.Frag} {mg : Str → Option Value} {base : Heap}
theorem ErrIn.ok {x qual : Str} {C : Addr} {st : Stmt} {fld : Str} {N : List Str} (D : ErrIn P K mg x C qual st fld) (S : CScope N ["self", fld] (defScope st))
    (hbody : ∀ (f cc cda : Addr) (fd : FuncData) (A : Around) (outer : List Env) (s : Shared) (H : Hp) (vs : List V) (Q : VK) (E : XK), SupIn P K mg f cc cda C fd "self" → Room 0 (A.deeper (PySem.W.ksEnv qual (defScope st) s.heap.objs.size f (.ref cda) cc)) → spErr C fld vs H Q E →
      ∃ t, NSs (cxC CX0 P w K mg base N qual (defScope st) f (.ref cda) cc A outer s H E) (defBody st) (defBody st) t ∧ t { nx := fun _ H' => Q .non H', rt := Q } (L2.start N vs) H) : ErrOk P w K mg base x C fld := by
  obtain ⟨f, cc, cda, fd, i1, i2, S1, b, oc, od, an, kV, doc, pm, ct, osl, rfl, lk, hcd⟩ := D.ini
  obtain ⟨cl, cld, csl, hcell⟩ := S1.cell
  refine ⟨D.gC, D.T, f, _, i1, i2, fn_ofC lk hcell hcd S (fun vs H Q E h => ?_) (fun A outer s H vs Q E hr h => hbody f cc cda _ A outer s H vs Q E S1 hr h), b⟩
  obtain ⟨a, v, rfl, _⟩ := h; rfl
end
section
variable {X : Cx} {C : Addr} {x fld : Str} {e : Expr} {es : List Expr} {p pos pos2 : Pos} {ta : TA} {k : Nat}
/-- C(v): the error is made, its dict d holds the field -/
def tMkE (C : Addr) (fld : Str) (ta : TA) : L2.St → Hp → XK → Prop := tMkO C (spErr C fld) [] ta
theorem pmk_err (D : ErrOk X.prog X.w X.K X.mg X.base x C fld) (hr : Room k X.A) (hk : 2 ≤ k) (ha : PA X (e :: es) ta) (hg : Gl X x) (hdb : (x == ("__debug__" : Str)) = false := by decide)
    (he : starEach (e :: es) X.env = (false, eval e X.env) :: starEach es X.env := by rfl) (hpl : (backTo pos (starEach es X.env)).any (·.1) = false := by rfl) : PMk X (.Call (.Name x p) (e :: es) [] pos) (tMkE C fld ta) := by
  obtain ⟨f, fd, i1, i2, F, b⟩ := D.fn
  exact pmk_oex D.T i1 i2 F (hr.mono hk) b .nil pass0 hg D.gC ha hdb he hpl
/-- what a made error asks -/
theorem mkE {C : Addr} {fld : Str} {v : Int} {H : Hp} {Q : XK} (hv : v.natAbs < 2 ^ 1900) (h : ∀ d, H d = none → Q (.ref C) (some d) (upd H d (.xd [(fld, .int v)]))) :
    ([V.int v] : List V).length ≤ 1000 ∧ ∀ a, H a = none → spErr C fld (.ref a :: ([V.int v] ++ [])) (upd H a (exo a C none))
      (fun v' H2 => v' = .non ∧ ∃ (d : Addr) (fs : List (Str × V)), H2 a = some (exo a C (some d)) ∧ H2 d = some (exd d fs) ∧ H d = none ∧ Q (.ref C) (some d) (upd (L2.del H2 a) d (.xd fs))) (fun _ _ _ => False) := by
  refine ⟨by show 1 ≤ 1000; decide, fun a ha => ⟨a, v, rfl, upd_same, hv, fun dx h1 h2 => ⟨rfl, dx, [(fld, .int v)], upd_same, ?_, ?_, ?_⟩⟩⟩
  · rw [upd_ne h2, upd_same]
  · rw [upd_ne h2] at h1; exact h1
  · have hd : H dx = none := by rw [upd_ne h2] at h1; exact h1
    have e : upd (L2.del (upd (upd (upd H a (exo a C none)) dx (exd dx [(fld, .int v)])) a (exo a C (some dx))) a) dx (.xd [(fld, .int v)]) = upd H dx (.xd [(fld, .int v)]) := by
      funext b
      by_cases c1 : b = dx
      · rw [c1, upd_same, upd_same]
      · rw [upd_ne c1, upd_ne c1]
        by_cases c2 : b = a
        · rw [c2, del_same, ha]
        · rw [del_ne c2, upd_ne c2, upd_ne c1, upd_ne c2]
    rw [e]
    exact h dx hd
end
end LR

set_option Elab.async false
set_option maxRecDepth 100000
set_option linter.all false
set_option maxHeartbeats 4000000
namespace LR
open PySem PySem.Spec PyProof.Rows L2
/-! ## defs, methods, classes whose calls may raise -/
structure CalX (P : Program) (w : World) (K : PySem.W.Frag) (mg : Str → Option Value) (base : Heap) (k : Nat) (x : Str) (sp : Sp) : Prop where
  ex : ∃ (f : Addr) (fd : FuncData) (ps : List Str), FnOk P w K mg base (L2.CX P w) k f fd ps sp ∧ mg x = some (.ref f) ∧ PySem.W.keepIn K (.ref f) = true ∧ Binds K fd ps []
structure MetX (P : Program) (w : World) (K : PySem.W.Frag) (mg : Str → Option Value) (base : Heap) (k : Nat) (C : Addr) (m : Str) (sp : Sp) : Prop where
  ex : ∃ (f : Addr) (fd : FuncData) (ps : List Str), Cls K C ∧ Meth K C m f ∧ FnOk P w K mg base (L2.CX P w) k f fd ps sp ∧ Binds K fd ps []
structure MakX (P : Program) (w : World) (K : PySem.W.Frag) (mg : Str → Option Value) (base : Heap) (k : Nat) (x : Str) (C : Addr) (sp : Sp) : Prop where
  ex : ∃ (f : Addr) (fd : FuncData) (ps : List Str), Mk K C f ∧ FnOk P w K mg base (L2.CX P w) k f fd ps sp ∧ mg x = some (.ref C) ∧ Binds K fd ps []
def tCallT (sp : Sp) (W : WX) (t : TA) : TE := fun σ H Q => t σ H fun vs H1 => sp vs H1 Q (WE W σ)
def tMethT (C : Addr) (m : Str) (sp : Sp) (W : WX) (ta : TE) (t : TA) : TE := fun σ H Q => ta σ H fun x H1 => ∃ a dx fs, x = .ref a ∧ H1 a = some (.ins C dx fs) ∧ fs.lookup m = none ∧ t σ H1 fun vs H2 => sp (x :: vs) H2 Q (WE W σ)
def tMakeT (C : Addr) (sp : Sp) (W : WX) (t : TA) : TE := fun σ H Q => t σ H fun vs H1 => ∀ x dx, H1 x = none → H1 dx = none → dx ≠ x → sp (.ref x :: vs) (upd (upd H1 dx (.own x)) x (.ins C dx [])) (fun v H2 => v = .non ∧ Q (.ref x) H2) (WE W σ)
section
variable {X : Cx} {k j : Nat} {C : Addr} {x m : Str} {sp : Sp} {W : WX} {p pos apos : Pos} {e o : Expr} {es : List Expr} {ta : TE} {t : TA}
theorem pe_cT (c : CalX X.prog X.w X.K X.mg X.base k x sp) (hr : Room j X.A) (hk : k ≤ j) (tk : Takes X W) (hg : Gl X x) (ha : PA X (e :: es) t)
    (hdb : (x == ("__debug__" : Str)) = false := by decide) (he : starEach (e :: es) X.env = (false, eval e X.env) :: starEach es X.env := by rfl) (hpl : (backTo pos (starEach es X.env)).any (·.1) = false := by rfl) :
    PE X (.Call (.Name x p) (e :: es) [] pos) (tCallT sp W t) := by
  obtain ⟨f, fd, ps, F, hm, kp, b⟩ := c.ex
  exact pe_callS F (hr.mono hk) hg hm kp b (passAt tk) ha hdb he hpl
theorem pe_mtT {pl : Sem Bool} (c : MetX X.prog X.w X.K X.mg X.base k C m sp) (hr : Room j X.A) (hk : k ≤ j) (tk : Takes X W) (he : PE X o ta) (ha : PA X (e :: es) t)
    (hst : starEach (e :: es) X.env = (false, eval e X.env) :: starEach es X.env := by rfl) (hpl : (backTo pos (starEach es X.env)).any (·.1) = false := by rfl)
    (ht : eval (.Call (.Attribute o m apos) (e :: es) [] pos) X.env = (do
      let ov ← eval o X.env
      standAt apos.atName
      let (f, first) ← holding [ov] (getMethod ov m pl)
      callWith pos f first (backTo pos (starEach (e :: es) X.env)) (backToKw pos (keywordEach [] X.env))) := by rfl) :
    PE X (.Call (.Attribute o m apos) (e :: es) [] pos) (tMethT C m sp W ta t) := by
  obtain ⟨f, fd, ps, hc, hm, F, b⟩ := c.ex
  refine ⟨fun pins s σ H Q I h => PySem.W.methodCall_KW (pl := pl) (thn (he.run pins s σ H _ I h) fun u s1 hh => ?_) ht⟩
  obtain ⟨y, H1, I1, ry, a, dx, fs, rfl, ea, l, q⟩ := hh
  cases (show u = Value.ref a from ry)
  refine getmeth_ok I1 ea hc hm l (PySem.W.callWith_K (first := [.ref a]) (h₀ := X.base) I.ok.mod.kin hm.kp (thn (ha.run pos pins s1 σ H1 _ I1 q) fun us s2 h2 => ?_) hst hpl)
  obtain ⟨vs, H2, I2, r, q2⟩ := h2
  exact ⟨I2.kIn, run_fnS (E := WE W) F (hr.mono hk) b (passAt tk σ) I2 (.cons (show RelV (V.ref a) (.ref a) from rfl) r) q2⟩
theorem pe_mt0T {pl : Sem Bool} (c : MetX X.prog X.w X.K X.mg X.base k C m sp) (hr : Room j X.A) (hk : k ≤ j) (tk : Takes X W) (he : PE X o ta)
    (ht : eval (.Call (.Attribute o m apos) [] [] pos) X.env = (do
      let ov ← eval o X.env
      standAt apos.atName
      let (f, first) ← holding [ov] (getMethod ov m pl)
      callWith pos f first (backTo pos (starEach [] X.env)) (backToKw pos (keywordEach [] X.env))) := by rfl) :
    PE X (.Call (.Attribute o m apos) [] [] pos) (tMethT C m sp W ta tNil) := by
  obtain ⟨f, fd, ps, hc, hm, F, b⟩ := c.ex
  refine ⟨fun pins s σ H Q I h => PySem.W.methodCall_KW (pl := pl) (thn (he.run pins s σ H _ I h) fun u s1 hh => ?_) ht⟩
  obtain ⟨y, H1, I1, ry, a, dx, fs, rfl, ea, l, q⟩ := hh
  cases (show u = Value.ref a from ry)
  exact getmeth_ok I1 ea hc hm l (PySem.W.callWith_K0 (first := [.ref a]) I1.kIn hm.kp (run_fnS (E := WE W) (us := [.ref a]) F (hr.mono hk) b (passAt tk σ) I1 (.cons (show RelV (V.ref a) (.ref a) from rfl) .nil) q))
theorem run_mkT {pins : List (Addr × Obj)} {σ : L2.St} {H : Hp} {s : Shared} {Q : VK} {us : List Value} {vs : List V} {f : Addr} {fd : FuncData} {ps : List Str} (M : Mk X.K C f) (F : FnOk X.prog X.w X.K X.mg X.base (L2.CX X.prog X.w) k f fd ps sp) (hr : Room (k + 1) X.A) (b : Binds X.K fd ps []) (tk : Takes X W)
    (I : Inv X pins σ H s) (r : Vals vs us)
    (h : ∀ x dx, H x = none → H dx = none → dx ≠ x → sp (.ref x :: vs) (upd (upd H dx (.own x)) x (.ins C dx [])) (fun v H2 => v = .non ∧ Q (.ref x) H2) (WE W σ)) :
    wpAny (model X.prog X.w) X.A (call (.ref C) us) (EP X pins σ Q) X.xe s := by
  have hq := h (s.heap.objs.size + 1) s.heap.objs.size (I.hok.fresh (Nat.le_succ _)) (I.hok.fresh (Nat.le_refl _)) (Nat.ne_of_lt (Nat.lt_succ_self _))
  have J := Inv.made (C := C) I
  have r2 : Vals (V.ref (s.heap.objs.size + 1) :: vs) (Value.ref (s.heap.objs.size + 1) :: us) := .cons rfl r
  have hl := r2.length.symm.trans (F.len _ _ _ _ hq)
  have bb := b _ _ J.kIn (by rw [List.append_nil]; exact hl)
  rw [List.append_nil] at bb
  refine wpAny_call (make_map (f := f) I.kIn M.makes M.init (beq_iff_eq.mp M.fn) (codeAny_mono (F.run _ X.stack _ _ _ _ _ _ (WE W σ) (hr.make C us []) (J.env0.make C us []) bb r2 hq) fun rr s' hq' => ?_))
  cases rr with
  | error e => exact passAt tk σ pins _ _ e s' J hq'
  | ok fl =>
    cases fl with
    | ret u =>
      obtain ⟨v, H', I3, rv, ev, q3⟩ := J.after hq'
      subst ev
      exact ⟨rv, V.ref (s.heap.objs.size + 1), H', I3, rfl, q3⟩
    | next => exact hq'.elim
    | brk => exact hq'.elim
    | cont => exact hq'.elim
theorem pe_mkT (c : MakX X.prog X.w X.K X.mg X.base k x C sp) (hr : Room j X.A) (hk : k + 1 ≤ j) (tk : Takes X W) (hg : Gl X x) (ha : PA X (e :: es) t)
    (hdb : (x == ("__debug__" : Str)) = false := by decide) (he : starEach (e :: es) X.env = (false, eval e X.env) :: starEach es X.env := by rfl) (hpl : (backTo pos (starEach es X.env)).any (·.1) = false := by rfl) :
    PE X (.Call (.Name x p) (e :: es) [] pos) (tMakeT C sp W t) := by
  obtain ⟨f, fd, ps, M, F, hm, b⟩ := c.ex
  refine ⟨fun pins s σ H Q I h => wpAny_Call_Name_kw (ld_glob I hg hm ?_ hdb)⟩
  refine PySem.W.callWith_K (h₀ := X.base) I.ok.mod.kin M.kp (thn (ha.run pos pins s σ H _ I h) fun us s1 hh => ?_) he hpl
  obtain ⟨vs, H1, I1, r, q⟩ := hh
  exact ⟨I1.kIn, run_mkT M F (hr.mono hk) b tk I1 r q⟩
end
section
variable {P : Program} {w : World} {K : PySem.W.Frag} {mg : Str → Option Value} {base : Heap}
theorem DefIn.calX {x : Str} {st : Stmt} {N ps : List Str} {k : Nat} {sp : Sp} (D : DefIn K mg x st ps) (S : FnScope N ps (defScope st)) (len : ∀ vs H Q E, sp vs H Q E → vs.length = ps.length)
    (hbody : ∀ (f : Addr) (cdv : Value) (A : Around) (outer : List Env) (s : Shared) (H : Hp) (vs : List V) (Q : VK) (E : XK), Room k (A.deeper (envOfC x (defScope st) s.heap.objs.size f cdv)) → sp vs H Q E →
      ∃ t, PSs (cxOf (L2.CX P w) P w K mg base N x (defScope st) f cdv A outer s H E) (defBody st) t ∧ t { nx := fun _ H' => Q .non H', rt := Q } (L2.start N vs) H) : CalX P w K mg base (k + 1) x sp := by
  obtain ⟨f, fd, F, hm, b⟩ := D.ex
  exact ⟨f, fd, ps, F.okX S len (hbody f), hm, F.kp, b⟩
theorem MetIn.metX {C : Addr} {m qual : Str} {st : Stmt} {N ps : List Str} {k : Nat} {sp : Sp} (c : Cls K C) (D : MetIn K C m qual st ps) (S : FnScope N ps (defScope st)) (len : ∀ vs H Q E, sp vs H Q E → vs.length = ps.length)
    (hbody : ∀ (f : Addr) (cdv : Value) (A : Around) (outer : List Env) (s : Shared) (H : Hp) (vs : List V) (Q : VK) (E : XK), Room k (A.deeper (envOfC qual (defScope st) s.heap.objs.size f cdv)) → sp vs H Q E →
      ∃ t, PSs (cxOf (L2.CX P w) P w K mg base N qual (defScope st) f cdv A outer s H E) (defBody st) t ∧ t { nx := fun _ H' => Q .non H', rt := Q } (L2.start N vs) H) : MetX P w K mg base (k + 1) C m sp := by
  obtain ⟨f, fd, F, hm, b⟩ := D.ex
  exact ⟨f, fd, ps, c, hm, F.okX S len (hbody f), b⟩
theorem MakIn.makX {C : Addr} {x qual : Str} {st : Stmt} {N ps : List Str} {k : Nat} {sp : Sp} (D : MakIn K mg x C qual st ps) (S : FnScope N ps (defScope st)) (len : ∀ vs H Q E, sp vs H Q E → vs.length = ps.length)
    (hbody : ∀ (f : Addr) (cdv : Value) (A : Around) (outer : List Env) (s : Shared) (H : Hp) (vs : List V) (Q : VK) (E : XK), Room k (A.deeper (envOfC qual (defScope st) s.heap.objs.size f cdv)) → sp vs H Q E →
      ∃ t, PSs (cxOf (L2.CX P w) P w K mg base N qual (defScope st) f cdv A outer s H E) (defBody st) t ∧ t { nx := fun _ H' => Q .non H', rt := Q } (L2.start N vs) H) : MakX P w K mg base (k + 1) x C sp := by
  obtain ⟨f, fd, F, M, hm, b⟩ := D.ex
  exact ⟨f, fd, ps, M, F.okX S len (hbody f), hm, b⟩
end
end LR

set_option Elab.async false
set_option maxRecDepth 100000
set_option linter.all false
set_option maxHeartbeats 4000000
namespace LR
open PySem PySem.Spec PyProof.Rows L2
/-! ## enumerate over a tuple -/
set_option maxHeartbeats 1000000 in
theorem meets_enum1 {v : Value} {o : Obj} {H : Heap → Prop} (B : Begins v o H) :
    Meets (Builtin.«enumerate.__new__» ⟨[.type "enumerate", v], []⟩) (fun _ R s => H s.heap ∧
      R (.ok (.ret (.ref (s.heap.push o).objs.size))) { s with heap := (s.heap.push o).push { cls := .type "enumerate", data := .fields #[.none, .bool false, .ref s.heap.objs.size, rawInt 0, .none, .none] } }) :=
  .of_wp fun prog w A R s h => by
    obtain ⟨hp, g, d, tk, os⟩ := s; obtain ⟨h1, h⟩ := h
    have hsub := sub_enumerate
    have q1 : ∀ {A' : Around} {E : Value → Shared → Prop} {Q : Value → Shared → Prop}, Q (.ref hp.objs.size) ⟨hp.push o, g, d, tk, os⟩ → wpAny (model prog w) A' (pyIter v) Q E ⟨hp, g, d, tk, os⟩ :=
      fun q => B.iter prog w _ _ ⟨hp, g, d, tk, os⟩ _ h1 q
    wp_walk using q1
    refine wpAny_stack_any fun st => wpAny_pure ?_
    split
    · rename_i c _ _ _ _ _
      cases (c == Value.type "enumerate")
      · wp_walk using q1
        exact ⟨_, rfl, h⟩
      · wp_walk using q1
        exact ⟨_, rfl, h⟩
    · wp_walk using q1
      exact ⟨_, rfl, h⟩
theorem enum_new1 {prog : Program} {w : World} {A : Around} {E : Value → Shared → Prop} {s : Shared} {v : Value} {o : Obj} {H : Heap → Prop} {Q : Value → Shared → Prop} (B : Begins v o H) (h1 : H s.heap)
    (h : ∀ h', IsEnum h' (s.heap.objs.size + 1) s.heap.objs.size 0 .none → h'.get? s.heap.objs.size = some o → h'.objs.size = s.heap.objs.size + 2 →
      (∀ b o, s.heap.get? b = some o → h'.get? b = some o) → Q (.ref (s.heap.objs.size + 1)) { s with heap := h' }) :
    wpAny (model prog w) A (call (.type "enumerate") [v]) Q E s := by
  refine callType_new F.called_enumerate (by decide) (F.typeCall_enumerate_1 _) (F.newCall_enumerate_1 _) (fun obj => F.args_object_init_2 obj _) F.entry_enumerate_new
    (meets_enum1 B) ⟨h1, ?_⟩
  have hz : (s.heap.push o).objs.size = s.heap.objs.size + 1 := Heap.size_push ..
  show _ ∧ _
  rw [hz]
  have he : IsEnum ((s.heap.push o).push { cls := .type "enumerate", data := .fields #[.none, .bool false, .ref s.heap.objs.size, rawInt 0, .none, .none] }) (s.heap.objs.size + 1) s.heap.objs.size 0 .none := by
    have := Heap.get?_push_size (s.heap.push o) (o := { cls := .type "enumerate", data := .fields #[.none, .bool false, .ref s.heap.objs.size, rawInt 0, .none, .none] }) rfl
    rw [hz] at this; exact this
  refine ⟨⟨_, he, rfl⟩, h _ he (Heap.get?_push_of_some _ (Heap.get?_push_size _ B.free)) (by rw [Heap.size_push, hz]) fun b o x => Heap.get?_push_of_some _ (Heap.get?_push_of_some _ x)⟩
/-- the tuple at a as it stands at each turn, the items in new pairs -/
def IteT (K : PySem.W.Frag) (a : Addr) : It :=
  ⟨fun i H => ∃ (xs : List V) (x : V), SqT K H a xs ∧ xs[i]? = some x, fun i H v H' => ∃ T x, v = .ref T ∧ H T = none ∧ H' = upd H T (.tup [.int (i : Nat), x]) ∧ ∀ xs, SqT K H a xs → xs[i]? = some x, fun i H => ∃ xs : List V, SqT K H a xs ∧ xs.length = i⟩
theorem turn_enumT {P : Program} {w : World} {K : PySem.W.Frag} {elts : List Expr} {kk : Nat} {tpos : Pos} (a e it : Addr) :
    Turn P w K (.Tuple elts kk tpos) (IteT K a) [e, it] e (fun i h => (∃ old, IsEnum h e it ((i : Nat) : Int) old) ∧ h.IsTupleIter it a i ∧ e ≠ it) where
  mem := by simp
  obj := fun i h st b hb => by
    obtain ⟨⟨old, he⟩, ⟨o, ho, hc, hd⟩, _⟩ := st
    have e' : b = e ∨ b = it := by simpa using hb
    rcases e' with z | z
    · rw [z]; exact ⟨_, he, fun v q => nomatch q⟩
    · rw [z]; exact ⟨o, ho, fun v q => by rw [hd] at q; cases q⟩
  keep := fun i h h' st k => let ⟨⟨old, he⟩, hi, hne⟩ := st; ⟨⟨old, k e (by simp) _ he⟩, hi.at fun o q => k it (by simp) o q, hne⟩
  item := by
    intro X hP hw hK hc i pins s σ H E I hf st hg
    subst hP hw hK
    obtain ⟨⟨old, he⟩, hit, hne⟩ := st
    obtain ⟨xs, x, hq, hx⟩ := hg
    obtain ⟨its, rv, p, hz⟩ := I.tuple hq
    obtain ⟨u, hu, ru⟩ := rv.get hx
    have hel : e < s.heap.objs.size := Heap.lt_size he
    have hil : it < s.heap.objs.size := by obtain ⟨_, q, _⟩ := hit; exact Heap.lt_size q
    have hT0 : s.heap.IsTuple a its.toArray := p
    have nea : a ≠ e := fun z => by
      obtain ⟨o, h1, h2, _⟩ := hT0
      rw [z, he] at h1; cases h1; injection h2 with q; exact absurd q (by decide)
    have nia : a ≠ it := fun z => by
      obtain ⟨o, h1, h2, _⟩ := hT0
      obtain ⟨o2, h3, h4, _⟩ := hit
      rw [z, h3] at h1; cases h1; rw [h4] at h2; injection h2 with q; exact absurd q (by decide)
    have D := Draws.tuple (prog := X.prog) (w := X.w) (A := X.A.in1) (I.ok.hd hc) it a nia its.toArray
    have hlt : i < its.toArray.size := by
      have := (List.getElem?_eq_some_iff.mp hu).1
      simpa using this
    refine wpAny_pyNext_enum_itemD D he ⟨hit, hT0⟩ hlt hne (by simp; exact ⟨hne, nea.symm⟩) fun x' h' tk hx' ho hst hT hsz hk => ?_
    have hx' : x' = u := by
      have : its.toArray[i]? = some u := by simpa using hu
      rw [this] at hx'; cases hx'; rfl
    subst hx'
    refine ⟨_, rfl, wpAny_letOwnedTupleGo_enum (s := { s with heap := h', toks := tk + 1 }) ho fun h'' he' sb => ?_⟩
    have hT2 : h''.get? s.heap.objs.size = some { cls := .type "tuple", data := .seq #[.int i tk, x'] } := (sb.2 _ (Nat.ne_of_gt hel)).trans hT
    have new : ObjOk X.prog X.w (upd H s.heap.objs.size (.tup [.int (i : Nat), x])) h'' s.heap.objs.size (.tup [.int (i : Nat), x]) :=
      ⟨by show 2 ≤ sizeLine; decide, [.int i tk, x'], .cons ⟨_, rfl⟩ (.cons ru .nil), ⟨_, hT2, rfl, _, rfl⟩⟩
    have I1 : Inv X pins σ (upd H s.heap.objs.size (.tup [.int (i : Nat), x])) { s with heap := h'', toks := tk + 1 } :=
      I.turnedNew (ch := [e, it]) (fun b ob hb q => (sb.2 b (fun z => hb (by simp [z]))).trans (hk b ob (fun z => hb (by simp [z])) (fun z => hb (by simp [z])) q)) hf (Nat.le_refl _) new
    refine ⟨.ref s.heap.objs.size, _, I1, rfl, ⟨_, x, rfl, I.hok.fresh (Nat.le_refl _), rfl, fun ys hy => by rw [I.tuple_inj hy hq]; exact hx⟩, ⟨⟨x', ?_⟩, hst.1.at fun o q => (sb.2 it (Ne.symm hne)).trans q, hne⟩, fun b hb => ?_⟩
    · have e1 : ((i + 1 : Nat) : Int) = (i : Int) + 1 := by omega
      rw [e1]; exact he'
    · have hb' : b < s.heap.objs.size := by
        have e' : b = e ∨ b = it := by simpa using hb
        rcases e' with z | z
        · rw [z]; exact hel
        · rw [z]; exact hil
      rw [upd_ne (Nat.ne_of_lt hb')]
      exact (hf b hb).1
  done := by
    intro X hP hw hK hc i pins s σ H E I hf st hg
    subst hP hw hK
    obtain ⟨⟨old, he⟩, hit, hne⟩ := st
    obtain ⟨xs, hq, hx⟩ := hg
    obtain ⟨its, rv, p, hz⟩ := I.tuple hq
    obtain ⟨f0, f1, f2, f3, f4, f5⟩ := hf it (by simp)
    have hl := rv.length
    have hT0 : s.heap.IsTuple a its.toArray := p
    have nia : a ≠ it := fun z => by
      obtain ⟨o, h1, h2, _⟩ := hT0
      obtain ⟨o2, h3, h4, _⟩ := hit
      rw [z, h3] at h1; cases h1; rw [h4] at h2; injection h2 with q; exact absurd q (by decide)
    have D := Draws.tuple (prog := X.prog) (w := X.w) (A := X.A.in1) (I.ok.hd hc) it a nia its.toArray
    have hn : its.toArray.size = i := by simp; omega
    exact wpAny_pyNext_enum_endD D he (by rw [hn]; exact ⟨hit, hT0⟩) fun h' eb => ⟨rfl, I.turned (t' := s.toks) (fun b o hb q => eb b o hb q) f0 f1 f3 f4 f5⟩
  self := fun A i s Q E st h => let ⟨⟨_, he⟩, _⟩ := st; wpAny_pyIter_enum he h
theorem walk_enumT {K : PySem.W.Frag} {a : Addr} {xs : List V} : Walk (IteT K a) xs.length (fun H => SqT K H a xs) (YPair (fun i => some (.int (i : Nat))) (fun i => xs[i]?)) := by
  refine ⟨fun i _ hi q => ⟨xs, xs[i], q, by simp [hi]⟩, fun _ q => ⟨xs, q, rfl⟩, fun i H v H' _ q y => ?_⟩
  obtain ⟨T, x, h1, h2, h3, h4⟩ := y
  exact ⟨T, .int (i : Nat), x, h1, h2, h3, rfl, h4 xs q⟩
/-- R of the iterator, kept whole -/
def RunIt (R : It → Hp → Prop) (J : It) (H : Hp) : Prop := R J H
def iEnumS (K : PySem.W.Frag) (ta : TA) : TI := fun σ H R => ta σ H fun vs H1 => ∃ a, vs = [.ref a] ∧ (((∃ xs, SqL K H1 a xs) ∧ RunIt R (Ite K a) H1) ∨ ((∃ xs, SqT K H1 a xs) ∧ RunIt R (IteT K a) H1))
theorem pi_enumS {X : Cx} {e : Expr} {ta : TA} {p pos tpos : Pos} {elts : List Expr} {kk : Nat} (hg : Gl X "enumerate") (hm : X.mg "enumerate" = none) (ha : PA X [e] ta) (hs : starEach [e] X.env = [(false, eval e X.env)] := by rfl) :
    PI X (.Tuple elts kk tpos) (.Call (.Name "enumerate" p) [e] [] pos) (iEnumS X.K ta) := by
  refine ⟨fun pins s σ H R I h => ?_⟩
  refine Call_ (ld_blt I hg hm boot_enumerate (PyProof.Rows.callWith_type1 (thn (ha.run pos pins s σ H _ I h) fun us s1 ⟨vs, H1, I1, r1, q1⟩ => ?_) hs rfl))
  obtain ⟨a, ex, q⟩ := q1
  subst ex
  cases r1 with
  | cons r rr =>
    cases rr
    cases r
    rcases q with ⟨⟨xs, hq⟩, q⟩ | ⟨⟨xs, hq⟩, q⟩
    · obtain ⟨its, rv, p', hz⟩ := I1.list hq
      refine call_enumerate_list p'.isList fun h' he hit hsz hk => wpAny_pyIter_enum he ?_
      have I2 : Inv X pins σ H1 { s1 with heap := h' } := I1.kept (t' := s1.toks) hk
      refine ⟨s1.heap.objs.size + 1, [s1.heap.objs.size + 1, s1.heap.objs.size], _, _, H1, rfl, I2, turn_enum a (s1.heap.objs.size + 1) s1.heap.objs.size, ⟨⟨.none, he⟩, hit, Nat.succ_ne_self _⟩, fun b hb => ?_, q⟩
      have e' : b = s1.heap.objs.size + 1 ∨ b = s1.heap.objs.size := by simpa using hb
      have hle : s1.heap.objs.size ≤ b := by
        rcases e' with z | z
        · rw [z]; exact Nat.le_add_right _ _
        · rw [z]; exact Nat.le_refl _
      exact I1.fpOk hle (I1.hok.fresh hle)
    · obtain ⟨its, rv, p', hz⟩ := I1.tuple hq
      refine enum_new1 (begins_tuple a its.toArray) (show s1.heap.IsTuple a its.toArray from p') fun h' he hit hsz hk => wpAny_pyIter_enum he ?_
      have I2 : Inv X pins σ H1 { s1 with heap := h' } := I1.kept (t' := s1.toks) hk
      refine ⟨s1.heap.objs.size + 1, [s1.heap.objs.size + 1, s1.heap.objs.size], _, _, H1, rfl, I2, turn_enumT a (s1.heap.objs.size + 1) s1.heap.objs.size, ⟨⟨.none, he⟩, ⟨_, hit, rfl, rfl⟩, Nat.succ_ne_self _⟩, fun b hb => ?_, q⟩
      have e' : b = s1.heap.objs.size + 1 ∨ b = s1.heap.objs.size := by simpa using hb
      have hle : s1.heap.objs.size ≤ b := by
        rcases e' with z | z
        · rw [z]; exact Nat.le_add_right _ _
        · rw [z]; exact Nat.le_refl _
      exact I1.fpOk hle (I1.hok.fresh hle)
/-! ## for over a list or a tuple -/
def iSeq (K : PySem.W.Frag) (tl : TE) : TI := fun σ H R => tl σ H fun x H1 => ∃ a, x = .ref a ∧ (((∃ xs, SqL K H1 a xs) ∧ RunIt R (Itl K a) H1) ∨ ((∃ xs, SqT K H1 a xs) ∧ RunIt R (Itt K a) H1))
theorem pi_seq {X : Cx} {tg l : Expr} {tl : TE} (hl : PE X l tl) : PI X tg l (iSeq X.K tl) := by
  refine ⟨fun pins s σ H R I h => ?_⟩
  refine thn (hl.run pins s σ H _ I h) fun v s1 ⟨x, H1, I1, r1, q1⟩ => ?_
  obtain ⟨a, e, q⟩ := q1
  subst e
  cases r1
  rcases q with ⟨⟨xs, hq⟩, q⟩ | ⟨⟨xs, hq⟩, q⟩
  · obtain ⟨its, rv, p, hz⟩ := I1.list hq
    refine wpAny_pyIter_list p.isList ?_
    refine ⟨s1.heap.objs.size, [s1.heap.objs.size], _, _, H1, rfl, I1.kept (t' := s1.toks) fun b o e => Heap.get?_push_of_some _ e, turn_list a _, ⟨_, Heap.get?_push_size _ rfl, rfl, rfl⟩, fun b hb => ?_, q⟩
    have e : b = s1.heap.objs.size := by simpa using hb
    subst e
    exact I1.fpOk (Nat.le_refl _) (I1.hok.fresh (Nat.le_refl _))
  · obtain ⟨its, rv, p, hz⟩ := I1.tuple hq
    refine wpAny_pyIter_tuple (show s1.heap.IsTuple a its.toArray from p) ?_
    refine ⟨s1.heap.objs.size, [s1.heap.objs.size], _, _, H1, rfl, I1.kept (t' := s1.toks) fun b o e => Heap.get?_push_of_some _ e, turn_tuple a _, ⟨_, Heap.get?_push_size _ rfl, rfl, rfl⟩, fun b hb => ?_, q⟩
    have e : b = s1.heap.objs.size := by simpa using hb
    subst e
    exact I1.fpOk (Nat.le_refl _) (I1.hok.fresh (Nat.le_refl _))
/-- a list or a tuple -/
def Sq (K : PySem.W.Frag) (H : Hp) (a : Addr) (xs : List V) : Prop := SqL K H a xs ∨ SqT K H a xs
theorem Sq.keep {K : PySem.W.Frag} {H H' : Hp} {a p : Addr} {xs : List V} (k : Keep p H H') (n : a ≠ p) (h : Sq K H a xs) : Sq K H' a xs := by
  rcases h with h | h
  · exact .inl (k.seq h n)
  · exact .inr (k.seqT h n)
theorem Sq.same {K : PySem.W.Frag} {H H' : Hp} {a : Addr} {xs : List V} (s : Same H H') (h : Sq K H a xs) : Sq K H' a xs :=
  h.keep (p := a + 1) (fun b _ o e => s b o e) (Nat.ne_of_lt (Nat.lt_succ_self a))
theorem seqT_after {K : PySem.W.Frag} {H H' : Hp} {a p : Addr} {xs : List V} (h : SqT K H a xs) (hp : H p = none) (k : Keep p H H') : SqT K H' a xs := by
  rcases h with (h | ⟨o, h⟩) | h
  · exact .inl (.inl (k _ (ne_of_none h hp) _ h))
  · exact .inl (.inr ⟨o, k _ (ne_of_none h hp) _ h⟩)
  · exact .inr h
theorem Sq.after {K : PySem.W.Frag} {H H' : Hp} {a p : Addr} {xs : List V} (h : Sq K H a xs) (hp : H p = none) (k : Keep p H H') : Sq K H' a xs := by
  rcases h with h | h
  · exact .inl (seq_after h hp k)
  · exact .inr (seqT_after h hp k)
/-- the walk over a list or a tuple, in one -/
theorem Sq.walk {K : PySem.W.Frag} {H0 H : Hp} {a : Addr} {xs : List V} {R : It → Hp → Prop} (h : Sq K H0 a xs) (s0 : Same H0 H) (k : ∀ (J : It) (G : Hp → Prop), Walk J xs.length G (YAt xs) → (∀ H', Same H0 H' → G H') → (∀ H' p, H0 p = none → Keep p H0 H' → G H') → R J H) :
    ((∃ xs, SqL K H a xs) ∧ RunIt R (Itl K a) H) ∨ ((∃ xs, SqT K H a xs) ∧ RunIt R (Itt K a) H) := by
  rcases h with h | h
  · exact .inl ⟨⟨_, s0.seq h⟩, k _ _ walk_list (fun H' s => s.seq h) fun H' p n q => seq_after h n q⟩
  · exact .inr ⟨⟨_, s0.seqT h⟩, k _ _ walk_tup (fun H' s => s.seqT h) fun H' p n q => seqT_after h n q⟩
theorem Sq.enum {K : PySem.W.Frag} {H0 H : Hp} {a : Addr} {xs : List V} {R : It → Hp → Prop} (h : Sq K H0 a xs) (s0 : Same H0 H) (k : ∀ (J : It) (G : Hp → Prop), Walk J xs.length G (YPair (fun i => some (.int (i : Nat))) (fun i => xs[i]?)) → (∀ H', Same H0 H' → G H') → (∀ H' p, H0 p = none → Keep p H0 H' → G H') → R J H) :
    ((∃ xs, SqL K H a xs) ∧ RunIt R (Ite K a) H) ∨ ((∃ xs, SqT K H a xs) ∧ RunIt R (IteT K a) H) := by
  rcases h with h | h
  · exact .inl ⟨⟨_, s0.seq h⟩, k _ _ walk_enum (fun H' s => s.seq h) fun H' p n q => seq_after h n q⟩
  · exact .inr ⟨⟨_, s0.seqT h⟩, k _ _ walk_enumT (fun H' s => s.seqT h) fun H' p n q => seqT_after h n q⟩
end LR

set_option Elab.async false
set_option maxRecDepth 100000
set_option linter.all false
set_option maxHeartbeats 4000000
namespace LR
open PySem PySem.Spec PyProof.Rows L2
/-! ## max(t, default=d), t a tuple of whole numbers -/
def mx (a b : Int) : Int := if a < b then b else a
def maxOr (d : Int) : List Int → Int
  | [] => d
  | x :: r => r.foldl mx x
theorem reads_ints (h : Heap) : ∀ {ls : List Int} {vs : List Value}, Vals (ls.map V.int) vs → PySem.ReadsAll h vs (ls.map PyData.int) []
  | [], [], _ => .nil
  | l :: r, v :: vs, .cons r1 r2 => by
    obtain ⟨t, rfl⟩ := (show ∃ t, v = Value.int l t from r1)
    exact PySem.ReadsAll.cons (as := []) (bs := []) (.int l t) (reads_ints h r2)
theorem maxD_ints : ∀ (r : List Int) (x : Int), PySem.W.maxD (.int x) (r.map PyData.int) = .int (r.foldl mx x)
  | [], _ => rfl
  | y :: r, x => by
    have ih := maxD_ints r (mx x y)
    unfold PySem.W.maxD at ih ⊢
    rw [List.map_cons, List.foldl_cons, List.foldl_cons, ← ih, PySem.W.dataLt_int]
    congr 1
    unfold mx
    by_cases c : x < y
    · rw [decide_eq_true c, if_pos rfl, if_pos c]
    · rw [decide_eq_false c, if_neg (by decide), if_neg c]
theorem depth_ints : ∀ ls : List Int, PyData.depthAll (ls.map PyData.int) = 0
  | [] => by simp [PyData.depthAll]
  | l :: r => by
    rw [List.map_cons]
    simp [PyData.depthAll, PyData.depth, depth_ints r]
def rMaxD (K : PySem.W.Frag) : List V → List V → Hp → VK → Prop := fun xs zs H Q => ∃ (p : Addr) (ls : List Int) (d : Int), xs = [.ref p] ∧ zs = [.int d] ∧ SqT K H p (ls.map V.int) ∧ Q (.int (maxOr d ls)) H
theorem cr_maxD {X : Cx} (hc : X.calm = true) (hu : X.A.units + 1 < cLine) : CallRK X (.builtin "max") [Str.ofString "default"] (rMaxD X.K) := by
  intro pins s σ H xs zs us ws Q I r rz h
  obtain ⟨p, ls, d, rfl, rfl, hs, q⟩ := h
  obtain rfl := Vals.ref1 r
  obtain ⟨u, rfl, t, rfl⟩ : ∃ u, ws = [u] ∧ ∃ t, u = Value.int d t := by
    cases rz with
    | cons r1 r2 => cases r2; exact ⟨_, rfl, r1⟩
  obtain ⟨its, rv, ht, hz⟩ := I.tuple hs
  refine PySem.W.max_tuple_default (vs := its.toArray) (xs := ls.map PyData.int) (as := []) (I.ok.hd hc) ht (reads_ints _ rv) ⟨?_, ?_⟩ (by rw [depth_ints]; exact hu) (fun e h' tk k => ?_) (fun y ys i v h' tk bs e hv rd k => ?_)
  · intro x hx y hy
    obtain ⟨a, _, rfl⟩ := List.mem_map.mp hx
    obtain ⟨b, _, rfl⟩ := List.mem_map.mp hy
    rfl
  · intro x hx
    obtain ⟨a, _, rfl⟩ := List.mem_map.mp hx
    exact fun z => nomatch z
  · cases ls with
    | nil => exact ⟨.int d, H, I.kept k, ⟨t, rfl⟩, q⟩
    | cons => simp at e
  · cases ls with
    | nil => simp at e
    | cons x l =>
      rw [List.map_cons] at e
      injection e with e1 e2
      subst e1 e2
      rw [maxD_ints] at rd
      cases rd with
      | int _ t2 => exact ⟨.int _, H, I.kept k, ⟨t2, rfl⟩, q⟩
theorem sIx_in {n d : Nat} {v : Int} (h0 : 0 ≤ v) (h1 : v ≤ n) : HT.sIx n d (some v) = v.toNat := by
  unfold HT.sIx
  show (if v < 0 then _ else _) = _
  rw [if_neg (by omega)]
  omega
def loI (u w : Int) : Int := if w < u then w else u
def hiI (u w : Int) : Int := if w > u then w else u
/-- the levels between two steps, and the greatest of them -/
def gapL (ls : List Int) (u w : Int) : List Int := (ls.drop (loI u w).toNat).take ((hiI u w).toNat - (loI u w).toNat)
def gapI (ls : List Int) (u w : Int) : Int := maxOr 0 (gapL ls u w)
theorem lo_in {n u w : Int} (hu : 0 ≤ u ∧ u ≤ n) (hw : 0 ≤ w ∧ w ≤ n) : 0 ≤ loI u w ∧ loI u w ≤ n := by
  unfold loI; split <;> omega
theorem hi_in {n u w : Int} (hu : 0 ≤ u ∧ u ≤ n) (hw : 0 ≤ w ∧ w ≤ n) : 0 ≤ hiI u w ∧ hiI u w ≤ n := by
  unfold hiI; split <;> omega
theorem cut_gap {ls : List Int} {u w : Int} (hu : 0 ≤ u ∧ u ≤ ls.length) (hw : 0 ≤ w ∧ w ≤ ls.length) : cutV (ls.map V.int) (some (loI u w)) (some (hiI u w)) = (gapL ls u w).map V.int := by
  have e : (ls.map V.int).length = ls.length := List.length_map ..
  have l := lo_in hu hw
  have g := hi_in hu hw
  unfold cutV gapL
  rw [e, sIx_in l.1 l.2, sIx_in g.1 g.2, List.map_take, List.map_drop]
theorem whole_gap {ls : List Int} {u w : Int} (hu : 0 ≤ u ∧ u ≤ ls.length) (hw : 0 ≤ w ∧ w ≤ ls.length) (h : HT.sIx (ls.map V.int).length 0 (some (loI u w)) = 0 ∧ HT.sIx (ls.map V.int).length (ls.map V.int).length (some (hiI u w)) = (ls.map V.int).length) : gapL ls u w = ls := by
  have e : (ls.map V.int).length = ls.length := List.length_map ..
  have l := lo_in hu hw
  have g := hi_in hu hw
  rw [e, sIx_in l.1 l.2, sIx_in g.1 g.2] at h
  unfold gapL
  rw [h.1, h.2, List.drop_zero, Nat.sub_zero, List.take_length]
end LR

set_option Elab.async false
set_option maxRecDepth 100000
set_option linter.all false
set_option maxHeartbeats 4000000
namespace LR
open PySem PySem.Spec PyProof.Rows L2
/-! ## list(o), o of a class whose __iter__ hands out a tuple's iterator -/
section
variable {prog : Program} {w : World} {A : Around} {E : Value → Shared → Prop} {s : Shared}
theorem tup_end {it t : Addr} {i : Nat} {items : Array Value} {Q : Option Value → Shared → Prop} (hh : A.handled = none)
    (hit : s.heap.IsTupleIter it t i) (ht : s.heap.IsTuple t items) (hx : items[i]? = none)
    (hQ : ∀ h', Heap.ExtBut it s.heap h' → (∃ o, h'.get? it = some o) → Q none { s with heap := h' }) : wpAny (model prog w) A (pyNext (.ref it)) Q E s := by
  obtain ⟨o, ho, hc, hd⟩ := id hit
  obtain ⟨ol, hol, _, nl, hdl⟩ := ht
  unfold pyNext
  refine wpAny_bind (wpAny_attempt (wpAny_callSpecial?_slot (name := Str.ofString "__next__") hit.typeIs F.slot_tuple_iterator_next
    (wpAny_call_entry F.slot_tuple_iterator_next hit.typeIs F.entry_tuple_iterator_next ?_ (F.args_tuple_iterator_next_1 _))))
  show wpAny _ _ (field (.ref it) 0 >>= _) _ _ s
  refine wpAny_bind (wpAny_field ho hd (x := .ref t) rfl ?_)
  show wpAny _ _ (if (Value.ref t == Value.none) = true then _ else _) _ _ s
  rw [if_neg (show ¬ ((Value.ref t == Value.none) = true) from Bool.false_ne_true)]
  show wpAny _ _ (field (.ref it) 1 >>= _) _ _ s
  refine wpAny_bind (wpAny_field ho hd (x := .int i 0) rfl ?_)
  show wpAny _ _ (seqItems? (.ref t) >>= _) _ _ s
  refine wpAny_bind (wpAny_seqItems hol hdl ?_)
  simp only [Int.toNat_natCast, hx]
  refine wpAny_bind (wpAny_rule (wpAny_bind (wpAny_setField ho hd (by simp) ?_)))
  show wpAny _ _ (newExc (.type "StopIteration") [] >>= _) _ _ _
  refine wpAny_bind ?_
  simp only [newExc, newTuple]
  refine wpAny_bind (wpAny_newObj_type ?_ (by size_fits))
  refine wpAny_bind (m := firstArgMember _ _) (wpAny_of_eq (a := Value.none) (by first | rfl | (simp only [firstArgMember]; rfl)) ?_)
  refine wpAny_newObj_type ?_ (by size_fits)
  simp only [raiseNew]
  refine wpAny_bind (wpAny_handled ?_)
  first | rw [show A.in1.handled = none from hh] | rw [hh]
  refine wpAny_bind (wpAny_pure (wpAny_throw ?_))
  refine wpAny_bind (wpAny_isInstance (T := "StopIteration") (b := true) ⟨_, Heap.get?_push_size _ rfl, rfl⟩ isSubtype_stop ?_)
  exact wpAny_pure (hQ _ (((Heap.SameBut.update ..).extBut.push _).push _) ⟨_, Heap.get?_push_of_some _ (Heap.get?_push_of_some _ (Heap.get?_update_self _ ho (Obj.isFreed_of_fields (Obj.data_mapFields hd _))))⟩)
end
/-- at it the iterator of the tuple at t, at the place i -/
def ItT (t it : Addr) (i : Nat) : HO := .ext fun h => h.IsTupleIter it t i
/-- .. that has ended -/
def ItZ (it : Addr) : HO := .ext fun h => ∃ o, h.get? it = some o
theorem itT_ok {P : Program} {w : World} {H : Hp} {h : Heap} {t it : Addr} {i : Nat} (e : h.IsTupleIter it t i) : ObjOk P w H h it (ItT t it i) :=
  ⟨e, (let ⟨o, ho, _⟩ := e; ⟨o, ho⟩), fun h1 h2 q k => q.at fun o e => k o e⟩
theorem itZ_ok {P : Program} {w : World} {H : Hp} {h : Heap} {it : Addr} (e : ∃ o, h.get? it = some o) : ObjOk P w H h it (ItZ it) :=
  ⟨e, e, fun h1 h2 q k => let ⟨o, ho⟩ := q; ⟨o, k o ho⟩⟩
def rIterT (K : PySem.W.Frag) : List V → Hp → VK → Prop := fun xs H Q => ∃ (l : Addr) (zs : List V), xs = [.ref l] ∧ SqT K H l zs ∧ ∀ it, H it = none → Q (.ref it) (upd H it (ItT l it 0))
theorem call_iterT {X : Cx} : CallR X (.builtin "iter") (rIterT X.K) := by
  intro pins s σ H xs us Q I r h
  obtain ⟨l, zs, rfl, hq, q⟩ := h
  obtain rfl := Vals.ref1 r
  obtain ⟨its, rv, pl, hz⟩ := I.tuple hq
  refine PySem.Calls.call_function_entry (by decide +kernel) (by decide +kernel) PySem.W.kdk_entry_iter (PySem.W.kdk_args_iter _) ?_
  unfold Builtin.«iter»
  refine wpAny_bind (m := someArgs "iter" 1 2 _) (wpAny_of_eq (a := [Value.ref l]) (by first | rfl | kernel_rfl!) ?_)
  show wpAny _ _ (pyIter (.ref l) >>= _) _ _ _
  refine wpAny_bind (wpAny_pyIter_tuple (show s.heap.IsTuple l its.toArray from pl) ?_)
  refine wpAny_pure ⟨_, rfl, ?_⟩
  exact ⟨.ref s.heap.objs.size, _, I.laid (t' := s.toks) (fun b u e => Heap.get?_push_of_some _ e) (Nat.le_refl _) (itT_ok ⟨_, Heap.get?_push_size _ rfl, rfl, rfl⟩), rfl, q _ (I.hok.fresh (Nat.le_refl _))⟩
section
variable {X : Cx} {pins : List (Addr × Obj)} {σ : L2.St} {A1 : Around} {Rs : Result → Shared → Prop} {l it q : Addr} {ys : List V}
theorem sqT_upd {K : PySem.W.Frag} {H : Hp} {l p : Addr} {ys : List V} {o : HO} (hp : ∃ u, H p = some u ∧ (∀ xs, u ≠ .tup xs) ∧ ∀ z w, u ≠ .frz z w) (h : SqT K H l ys) : SqT K (upd H p o) l ys := by
  obtain ⟨u, hu, n1, n2⟩ := hp
  rcases h with (h | ⟨z, h⟩) | h
  · exact .inl (.inl (by rw [upd_ne (ne_of h hu (n1 _).symm)]; exact h))
  · exact .inl (.inr ⟨z, by rw [upd_ne (ne_of h hu (n2 _ _).symm)]; exact h⟩)
  · exact .inr h
theorem it_loop (hh : A1.in1.handled = none) : ∀ (n i : Nat) (H : Hp) (s : Shared), i + n = ys.length → Inv X pins σ H s → H it = some (ItT l it i) → SqT X.K H l ys → H q = some (.lst (ys.take i)) →
    (∀ s', Inv X pins σ (upd (upd H it (ItZ it)) q (.lst ys)) s' → Rs (.ok (.ret .none)) s') → codeAny (model X.prog X.w) A1 (.builtin "list.extend.loop" ⟨[.ref q, .ref it, .none], []⟩) Rs s := by
  intro n
  induction n with
  | zero =>
    intro i H s hi I hit hl hq hR
    refine codeAny_builtin PySem.F.entry_extend_loop ?_
    rw [Around.under_plainId PySem.F.plain_extend_loop _]
    show wpAny _ A1.in1 (pyNext (.ref it) >>= _) _ _ s
    obtain ⟨its, rv, pl, hz⟩ := I.tuple hl
    have st := (I.hok it _ hit).1
    have hlen := rv.length
    refine wpAny_bind (tup_end hh st (show s.heap.IsTuple l its.toArray from pl) (by simp; omega) fun h' eb ex => ?_)
    have I1 : Inv X pins σ (upd H it (ItZ it)) { s with heap := h' } := I.write (x := it) (e := it) (t' := s.toks) (by rw [hit]; exact True.intro) (.inl rfl) (fun b o nb z => eb b o nb z) ex (itZ_ok ex)
    refine wpAny_pure (hR _ ?_)
    have e : ys.take i = ys := List.take_of_length_le (by omega)
    rw [e] at hq
    have nq : q ≠ it := ne_of hq hit (fun z => nomatch z)
    have : upd (upd H it (ItZ it)) q (.lst ys) = upd H it (ItZ it) := by
      funext b
      by_cases hb : b = q
      · rw [hb, upd_same, upd_ne nq, hq]
      · rw [upd_ne hb]
    rw [this]; exact I1
  | succ n ih =>
    intro i H s hi I hit hl hq hR
    refine codeAny_builtin PySem.F.entry_extend_loop ?_
    rw [Around.under_plainId PySem.F.plain_extend_loop _]
    show wpAny _ A1.in1 (pyNext (.ref it) >>= _) _ _ s
    obtain ⟨its, rv, pl, hz⟩ := I.tuple hl
    have st := (I.hok it _ hit).1
    have hlen := rv.length
    have nq : q ≠ it := ne_of hq hit (fun z => nomatch z)
    have hy : ys[i]? = some (ys[i]'(by omega)) := List.getElem?_eq_getElem (by omega)
    obtain ⟨u, hu, ru⟩ := rv.get hy
    refine wpAny_bind (wpAny_pyNext_tuple_item st (show s.heap.IsTuple l its.toArray from pl) (x := u) (by simpa using hu) fun h' st' sb => ?_)
    have I1 : Inv X pins σ (upd H it (ItT l it (i + 1))) { s with heap := h' } := I.write (x := it) (e := it) (t' := s.toks) (by rw [hit]; exact True.intro) (.inl rfl) (fun b o nb z => (sb.2 b nb).trans z) (let ⟨o, ho, _⟩ := st'; ⟨o, ho⟩) (itT_ok st')
    show wpAny _ A1.in1 (updateSeq q (·.push u) >>= _) _ _ _
    have hq1 : (upd H it (ItT l it (i + 1))) q = some (.lst (ys.take i)) := by rw [upd_ne nq, hq]
    obtain ⟨z, itq, k, r2, hl2, e⟩ := I1.lstM hq1
    have tl : (ys.take i).length = i := by rw [List.length_take]; omega
    refine wpAny_bind (wpAny_updateSeq e rfl (wpAny_pure ⟨plainId_quiet PySem.F.plain_extend_loop _, ?_⟩) (by rw [List.size_toArray]; omega) (by show (itq.toArray.push u).size ≤ sizeLine + 1; rw [Array.size_push, List.size_toArray]; omega))
    have et : ys.take (i + 1) = ys.take i ++ [ys[i]'(by omega)] := by rw [List.take_succ, hy]; rfl
    have I2 := I1.lset (f := (·.push u)) (its' := itq ++ [u]) (ys := ys.take (i + 1)) (t' := s.toks) hq1 e (by simp) (by rw [et]; exact r2.append (.cons ru .nil)) (by rw [List.length_take]; omega)
    refine ih (i + 1) _ _ (by omega) I2 (by rw [upd_ne nq.symm, upd_same]) (sqT_upd ⟨_, hq1, (fun _ z => nomatch z), (fun _ _ z => nomatch z)⟩ (sqT_upd ⟨_, hit, (fun _ z => nomatch z), (fun _ _ z => nomatch z)⟩ hl)) upd_same fun s' I' => hR s' ?_
    have : upd (upd (upd (upd H it (ItT l it (i + 1))) q (.lst (ys.take (i + 1)))) it (ItZ it)) q (.lst ys) = upd (upd H it (ItZ it)) q (.lst ys) := by
      funext b
      by_cases h1 : b = q
      · rw [h1, upd_same, upd_same]
      · rw [upd_ne h1, upd_ne h1]
        by_cases h2 : b = it
        · rw [h2, upd_same, upd_same]
        · rw [upd_ne h2, upd_ne h2, upd_ne h1, upd_ne h2]
    rw [this] at I'
    exact I'
/-- a class with an __iter__ of its own, without __len__ and __length_hint__ -/
structure OIt (K : PySem.W.Frag) (C fi : Addr) : Prop where
  it : PySem.W.findIn K (.ref C) "__iter__" = some (some (.ref fi))
  itF : PySem.W.isFn K (.ref fi) = true
  nolen : PySem.W.findIn K (.ref C) "__len__" = some none
  nohint : PySem.W.findIn K (.ref C) "__length_hint__" = some none
theorem oit_hint {M : Model} {A : Around} {E : Value → Shared → Prop} {Q : Bool → Shared → Prop} {K : PySem.W.Frag} {ox : Obj} {od : Option Obj} {C fi a : Addr} {s : Shared} (hc : OIt K C fi) (hK : K.In s.heap) (J : PySem.W.InstAt s.heap a ox C od) (h : Q true s) :
    wpAny M A (Builtin.List.listLengthHint (.ref a)) Q E s := by
  unfold Builtin.List.listLengthHint
  refine wpAny_bind (wpAny_bind (J.type.here ((PySem.W.looks_findIn hK hc.nolen).here ?_)))
  refine PySem.W.KFB.if_not rfl ?_
  refine PySem.W.KFB.if_not rfl ?_
  refine wpAny_bind (wpAny_bind (J.type.here ((PySem.W.looks_findIn hK hc.nohint).here ?_)))
  exact wpAny_pure h
variable {CI : CXT} {C fi a : Addr} {fdI : FuncData} {psI : List Str} {spI : Sp} {EI : XK} {n : Nat}
theorem it_extend {dx : Addr} {fs : List (Str × V)} {R : Hp → Prop} (sb : Sub X n A1.in1) (hc : OIt X.K C fi)
    (FI : FnOk X.prog X.w X.K X.mg X.base CI n fi fdI psI spI) (bI : Binds X.K fdI psI []) (xI : Passes CI X EI)
    (hdone : ∀ H s, Inv X pins σ H s → R H → Rs (.ok (.ret .none)) s) (herr : ∀ e s, X.xe e s → Rs (.error e) s)
    (I : Inv X pins σ H s) (ha : H a = some (.ins C dx fs)) (hq : H q = some (.lst []))
    (hsp : spI [.ref a] H (fun v H' => ∃ it l ys dx' fs', v = .ref it ∧ H' it = some (ItT l it 0) ∧ SqT X.K H' l ys ∧ H' q = some (.lst []) ∧ H' a = some (.ins C dx' fs') ∧ R (upd (upd H' it (ItZ it)) q (.lst ys))) EI) :
    wpAny (model X.prog X.w) A1.in1 (Builtin.List.listExtendWith (.ref q) (.ref a) .none)
      (fun fin s' => match fin with | .done f => Rs (.ok f) s' | .again c' => c'.quiet = true ∧ codeAny (model X.prog X.w) A1 c' Rs s') (fun e s' => Rs (.error e) s') s := by
  have hne : q ≠ a := ne_of hq ha (fun z => nomatch z)
  obtain ⟨mA, J, _⟩ := ins_get I.hok ha
  obtain ⟨od, J, _⟩ := J.look
  obtain ⟨m0, hF⟩ := I.fr
  unfold Builtin.List.listExtendWith
  refine wpAny_bind (J.type.here ?_)
  have h1 : Builtin.List.listSameRef (.ref q) (.ref a) = false := by simp [Builtin.List.listSameRef, hne]
  have h2 : (Value.ref C == Value.type "list") = false := rfl
  have h3 : (Value.ref C == Value.type "tuple") = false := rfl
  simp only [h1, h2, h3, Bool.or_false, Bool.false_eq_true, if_false]
  refine wpAny_bind (PySem.W.owit_iter hF I.ok.mod.kin J hc.it hc.itF ?_)
  have e0 : Env0 X.prog X.w X.K X.mg X.base A1.in1 X.stack s H := by
    have e := I.env0
    exact ⟨by rw [sb.fr]; exact e.frames, e.mod, e.bs, e.bsz, e.funs, e.frf, e.hok, e.bare⟩
  have hl := FI.len _ _ _ _ hsp
  have r2 : Vals [V.ref a] [Value.ref a] := .cons rfl .nil
  refine wpAny_call (codeAny_mono (FI.run A1.in1 X.stack s H ⟨[.ref a], []⟩ [.ref a] [.ref a] _ EI sb.room e0 (by
    have := bI s [.ref a] I.kIn (by simpa using hl)
    simpa using this) r2 hsp) fun r s' hq' => ?_)
  cases r with
  | error e => exact herr e s' (xI pins σ H s e s' I hq')
  | ok fl =>
    cases fl with
    | next => exact False.elim hq'
    | brk => exact False.elim hq'
    | cont => exact False.elim hq'
    | ret u =>
      obtain ⟨v, H', I', rv, it, l, ys, dx', fs', ev, hit, hl', hq1, ha', hR⟩ := I.after hq'
      subst ev
      cases rv
      have st := (I'.hok it _ hit).1
      unfold PySem.W.OwitIt
      refine wpAny_specialOf (name := Str.ofString "__next__") st.typeIs PySem.F.slot_tuple_iterator_next.lookup ?_
      obtain ⟨mA', J', _⟩ := ins_get I'.hok ha'
      obtain ⟨od', J', _⟩ := J'.look
      have hh : A1.in1.handled = none := sb.room.hd
      refine wpAny_bind (wpAny_holding (oit_hint hc I'.kIn J' ?_))
      obtain ⟨z, its, k, r3, hl3, e3⟩ := I'.lstM hq1
      cases r3
      have run : ∀ s2, Inv X pins σ H' s2 → codeAny (model X.prog X.w) A1 (.builtin "list.extend.loop" ⟨[.ref q, .ref it, .none], []⟩) Rs s2 := fun s2 I2 =>
        it_loop hh ys.length 0 H' s2 (Nat.zero_add _) I2 hit hl' (by simpa using hq1) fun s3 I3 => hdone _ s3 I3 hR
      refine wpAny_ite_split (fun _ => ?_) (fun _ => wpAny_pure ⟨plainId_quiet PySem.F.plain_extend_loop _, run s' I'⟩)
      refine wpAny_bind (wpAny_rule ?_)
      refine wpAny_bind ?_
      show wpAny _ _ (updateSeq q (·.push .none) >>= fun _ => updateSeq q (·.pop)) _ _ _
      refine wpAny_bind (wpAny_updateSeq e3 rfl ?_)
      have I2 := I'.lset (f := (·.push Value.none)) (its' := [Value.none]) (ys := [.non]) (t' := s'.toks) hq1 e3 (by simp) (.cons rfl .nil) (by rw [List.length_singleton, sizeLine_eq]; decide)
      obtain ⟨z4, its4, k4, r4, hl4, e4⟩ := I2.lstM upd_same
      obtain ⟨u4, rfl, ru4⟩ := r4.one
      refine wpAny_updateSeq e4 rfl ?_ (by show 1 ≤ sizeLine; rw [sizeLine_eq]; decide) (by show 0 ≤ sizeLine + 1; exact Nat.zero_le _)
      refine wpAny_pure ⟨plainId_quiet PySem.F.plain_extend_loop _, run _ ?_⟩
      have I3 := I2.lset (f := (·.pop)) (its := [u4]) (its' := []) (ys := []) (t' := s'.toks) upd_same e4 (by rfl) .nil (Nat.zero_le _)
      rw [upd_upd] at I3
      have hH : upd H' q (.lst []) = H' := by
        funext b
        by_cases hb : b = q
        · rw [hb, upd_same, hq1]
        · rw [upd_ne hb]
      rw [hH] at I3
      exact I3
/-- list(o) -/
def rListIt (K : PySem.W.Frag) (C : Addr) (spI : Sp) (EI : XK) : List V → Hp → VK → Prop := fun xs H Q => ∃ a dx fs, xs = [.ref a] ∧ H a = some (.ins C dx fs) ∧
  ∀ q, H q = none → spI [.ref a] (upd H q (.lst [])) (fun v H' => ∃ it l ys dx' fs', v = .ref it ∧ H' it = some (ItT l it 0) ∧ SqT K H' l ys ∧ H' q = some (.lst []) ∧ H' a = some (.ins C dx' fs') ∧ Q (.ref q) (upd (upd H' it (ItZ it)) q (.lst ys))) EI
theorem call_listIt (hc : OIt X.K C fi) (FI : FnOk X.prog X.w X.K X.mg X.base CI n fi fdI psI spI) (bI : Binds X.K fdI psI []) (xI : Passes CI X EI) (hr : Room (n + 2) X.A) : CallR X (.type "list") (rListIt X.K C spI EI) := by
  intro pins s σ H xs us Q I rv h
  obtain ⟨a, dx, fs, rfl, ha, hq⟩ := h
  obtain ⟨u, rfl, ru⟩ := rv.one
  cases ru
  have sb : Sub X n X.A.in1.in1 := (Sub.in1 (Sub.in1 (⟨hr, rfl⟩ : Sub X (n + 2) X.A)))
  refine callType_codes (Q₁ := fun obj s₁ => obj = .ref s.heap.objs.size ∧ s₁ = { s with heap := s.heap.push { cls := .type "list", data := .seq #[] } }) PySem.F.called_list (PySem.F.typeCall_list_1 _) PySem.F.entry_list_init
    (code_list_new _ ⟨rfl, rfl⟩) fun obj s₁ h₁ => ?_
  obtain ⟨rfl, rfl⟩ := h₁
  have hS : (s.heap.push { cls := .type "list", data := .seq #[] }).get? s.heap.objs.size = some { cls := .type "list", data := .seq #[] } := Heap.get?_push_size _ rfl
  refine ⟨⟨_, hS, rfl⟩, PySem.F.args_list_init_2 _ _, ?_⟩
  have fr : H s.heap.objs.size = none := I.hok.fresh (Nat.le_refl _)
  have hsp := hq _ fr
  have I1 : Inv X pins σ (upd H s.heap.objs.size (.lst [])) { s with heap := s.heap.push { cls := .type "list", data := .seq #[] } } := I.lnew (its := []) (t' := s.toks) .nil (Nat.zero_le _)
  show wpAny _ _ (do let old ← Builtin.List.listItems (.ref s.heap.objs.size); Builtin.List.listUpdate (.ref s.heap.objs.size) (fun _ => #[]); letGo old.toList.reverse; Builtin.List.listExtendWith (.ref s.heap.objs.size) (.ref a) .none) _ _ _
  refine wpAny_bind ?_
  unfold Builtin.List.listItems
  refine wpAny_bind (wpAny_seqItems hS rfl (wpAny_pure ?_))
  show wpAny _ _ (updateSeq s.heap.objs.size (fun _ => #[]) >>= fun _ => letGo (#[] : Array Value).toList.reverse >>= fun _ => Builtin.List.listExtendWith (.ref s.heap.objs.size) (.ref a) .none) _ _ _
  refine wpAny_bind (wpAny_updateSeq hS rfl ?_)
  have I2 := I1.lset (f := fun _ => #[]) (its := []) (its' := []) (ys := []) (t' := s.toks) upd_same hS rfl .nil (Nat.zero_le _)
  rw [upd_upd] at I2
  refine wpAny_bind (wpAny_letGo ?_)
  have ha2 : upd H s.heap.objs.size (.lst []) a = some (.ins C dx fs) := by rw [upd_ne (ne_of_none ha fr)]; exact ha
  exact it_extend (A1 := X.A.in1) (Rs := wants (fun r s₂ => r = .none ∧ EP X pins σ Q (.ref s.heap.objs.size) s₂) X.xe) (R := fun H' => Q (.ref s.heap.objs.size) H') sb hc FI bI xI
    (fun H' s' I' hR => ⟨rfl, .ref s.heap.objs.size, H', I', rfl, hR⟩) (fun e s' he => he) I2 ha2 upd_same hsp
theorem cr_listIt {k j : Nat} {sp : Sp} (c : Met X.prog X.w X.K X.mg X.base k C "__iter__" sp) (n1 : NoAttr X.K C "__len__") (n2 : NoAttr X.K C "__length_hint__") (hr : Room j X.A) (hk : k + 2 ≤ j) : CallR X (.type "list") (rListIt X.K C sp E0) := by
  obtain ⟨f, fd, ps, hc, ⟨m1, m2, m3⟩, F, b⟩ := c.ex
  exact call_listIt ⟨m1, m2, n1, n2⟩ F b pass0 (hr.mono hk)
end
theorem b_iter : bootBuiltins "iter" = some (.builtin "iter") := by decide +kernel
end LR

set_option Elab.async false
set_option maxRecDepth 100000
set_option linter.all false
set_option maxHeartbeats 4000000
namespace LR
open PySem PySem.Spec PyProof.Rows L2
theorem foldl_mx : ∀ (r : List Int) (x : Int), x ≤ r.foldl mx x ∧ (∀ y ∈ r, y ≤ r.foldl mx x) ∧ (r.foldl mx x = x ∨ r.foldl mx x ∈ r)
  | [], x => ⟨Int.le_refl _, (fun y h => nomatch h), .inl rfl⟩
  | a :: r, x => by
    obtain ⟨h1, h2, h3⟩ := foldl_mx r (mx x a)
    rw [List.foldl_cons]
    have m1 : x ≤ mx x a := by unfold mx; split <;> omega
    have m2 : a ≤ mx x a := by unfold mx; split <;> omega
    have m3 : mx x a = x ∨ mx x a = a := by unfold mx; split; exact .inr rfl; exact .inl rfl
    refine ⟨Int.le_trans m1 h1, fun y hy => ?_, ?_⟩
    · rcases List.mem_cons.mp hy with rfl | hy
      · exact Int.le_trans m2 h1
      · exact h2 y hy
    · rcases h3 with h3 | h3
      · rcases m3 with m3 | m3
        · exact .inl (h3.trans m3)
        · exact .inr (by rw [h3, m3]; exact List.mem_cons_self)
      · exact .inr (List.mem_cons_of_mem _ h3)
theorem loI_nat {u w : Int} (hu : 0 ≤ u) (hw : 0 ≤ w) : (loI u w).toNat = min u.toNat w.toNat := by unfold loI; split <;> omega
theorem hiI_nat {u w : Int} (hu : 0 ≤ u) (hw : 0 ≤ w) : (hiI u w).toNat = max u.toNat w.toNat := by unfold hiI; split <;> omega
theorem isGap_gapI {ls : List Int} {u w : Int} (hb : ∀ l ∈ ls, 1 ≤ l) (hu : 0 ≤ u) (hw : 0 ≤ w) : IsGap ls (min u.toNat w.toNat) (max u.toNat w.toNat) (gapI ls u w) := by
  unfold gapI gapL
  rw [loI_nat hu hw, hiI_nat hu hw]
  generalize min u.toNat w.toNat = lo
  generalize max u.toNat w.toNat = hi
  have get : ∀ j, j < hi - lo → ((ls.drop lo).take (hi - lo))[j]? = ls[lo + j]? := fun j hj => by rw [List.getElem?_take, if_pos hj, List.getElem?_drop]
  have mem : ∀ m z, lo ≤ m → m < hi → ls[m]? = some z → z ∈ (ls.drop lo).take (hi - lo) := fun m z a b e => by
    have := get (m - lo) (by omega)
    rw [show lo + (m - lo) = m by omega, e] at this
    exact List.mem_of_getElem? this
  cases hl : (ls.drop lo).take (hi - lo) with
  | nil =>
    refine ⟨Int.le_refl _, fun m z a b e => ?_, .inl rfl⟩
    have := mem m z a b e
    rw [hl] at this; cases this
  | cons x r =>
    obtain ⟨h1, h2, h3⟩ := foldl_mx r x
    have inl : ∀ y ∈ x :: r, y ≤ r.foldl mx x := fun y hy => by
      rcases List.mem_cons.mp hy with rfl | hy
      · exact h1
      · exact h2 y hy
    have inm : r.foldl mx x ∈ (ls.drop lo).take (hi - lo) := by
      rw [hl]
      rcases h3 with h3 | h3
      · rw [h3]; exact List.mem_cons_self
      · exact List.mem_cons_of_mem _ h3
    show IsGap ls lo hi (r.foldl mx x)
    obtain ⟨j, hj, ej⟩ := List.mem_iff_getElem.mp inm
    have hj' : j < hi - lo := by rw [List.length_take] at hj; omega
    have e2 : ls[lo + j]? = some (r.foldl mx x) := by rw [← get j hj', List.getElem?_eq_getElem hj, ej]
    have := hb _ (List.mem_of_getElem? e2)
    refine ⟨by omega, fun m z a b e => ?_, .inr ⟨lo + j, by omega, by omega, e2⟩⟩
    have := mem m z a b e
    rw [hl] at this
    exact inl z this
theorem IsGap.one {ls : List Int} {lo hi : Nat} {g k : Int} (a : IsGap ls lo hi g) (b : IsGap ls lo hi k) : g = k := by
  have key : ∀ {x y : Int}, IsGap ls lo hi x → IsGap ls lo hi y → x ≤ y := fun {x y} a b => by
    obtain ⟨a0, a1, a2⟩ := a
    obtain ⟨b0, b1, b2⟩ := b
    rcases a2 with e | ⟨m, h1, h2, e⟩
    · omega
    · exact b1 m x h1 h2 e
  exact Int.le_antisymm (key a b) (key b a)
/-! ## answers of the law -/
def refV : List (Str × Int × Int × Int) → List V
  | [] => []
  | (n, v, lo, hi) :: r => if lo ≤ v ∧ v ≤ hi then refV r else [.str n, .int v, .bl true, .bl false]
def refD : List (Str × Int × Int × Int) → List Dt
  | [] => []
  | (n, v, lo, hi) :: r => if lo ≤ v ∧ v ≤ hi then refD r else [.str n, .int v, .bl true, .bl false]
theorem ref_ats (H : Hp) : ∀ cs, Ats H (refV cs) (refD cs) ∧ (refV cs).length ≤ 100000 ∧ deps (refD cs) < 1
  | [] => ⟨.nil, by show 0 ≤ 100000; decide, by show 0 < 1; decide⟩
  | (n, v, lo, hi) :: r => by
    unfold refV refD
    split
    · exact ref_ats H r
    · exact ⟨.cons (.str _) (.cons (.int _) (.cons (.bl _) (.cons (.bl _) .nil))), by show 4 ≤ 100000; decide, Nat.lt_of_le_of_lt (Nat.le_refl 0) (by decide)⟩
abbrev Chk := Str × Int × Int × Int
def Chk.ok (e : Chk) : Prop := e.2.2.1 ≤ e.2.1 ∧ e.2.1 ≤ e.2.2.2
def ansV : List Chk → V → List V
  | [], v => [.str "value", v]
  | (n, x, lo, hi) :: r, v => if lo ≤ x ∧ x ≤ hi then ansV r v else [.str n, .int x, .bl true, .bl false]
def ansD : List Chk → Dt → List Dt
  | [], v => [.str "value", v]
  | (n, x, lo, hi) :: r, v => if lo ≤ x ∧ x ≤ hi then ansD r v else [.str n, .int x, .bl true, .bl false]
theorem ans_ats {H : Hp} {v : V} {d : Dt} (a : At H v d) (hd : dep d = 0) : ∀ cs, Ats H (ansV cs v) (ansD cs d) ∧ (ansV cs v).length ≤ 100000 ∧ deps (ansD cs d) < 1
  | [] => ⟨.cons (.str _) (.cons a .nil), by show 2 ≤ 100000; decide, by
      show deps [.str "value", d] < 1
      rw [deps, deps, deps, hd]; decide⟩
  | (n, v, lo, hi) :: r => by
    unfold ansV ansD
    split
    · exact ans_ats a hd r
    · exact ⟨.cons (.str _) (.cons (.int _) (.cons (.bl _) (.cons (.bl _) .nil))), by show 4 ≤ 100000; decide, Nat.lt_of_le_of_lt (Nat.le_refl 0) (by decide)⟩
theorem ans_ok {v : V} : ∀ {cs : List Chk}, (∀ e ∈ cs, e.ok) → ansV cs v = [.str "value", v]
  | [], _ => rfl
  | (n, x, lo, hi) :: r, h => by
    have h1 : lo ≤ x ∧ x ≤ hi := h _ List.mem_cons_self
    unfold ansV
    rw [if_pos h1]
    exact ans_ok fun e he => h e (List.mem_cons_of_mem _ he)
theorem ref_ok : ∀ {cs : List Chk}, (refV cs).length = 0 → ∀ e ∈ cs, e.ok
  | [], _ => fun e h => nomatch h
  | (n, x, lo, hi) :: r, h => fun e he => by
    unfold refV at h
    by_cases c : lo ≤ x ∧ x ≤ hi
    · rw [if_pos c] at h
      rcases List.mem_cons.mp he with rfl | he
      · exact c
      · exact ref_ok h e he
    · rw [if_neg c] at h; cases h
theorem ans_ref {v : V} : ∀ {cs : List Chk}, (refV cs).length ≠ 0 → ansV cs v = refV cs
  | [], h => absurd rfl h
  | (n, x, lo, hi) :: r, h => by
    unfold ansV
    unfold refV at h ⊢
    by_cases c : lo ≤ x ∧ x ≤ hi
    · rw [if_pos c] at h ⊢
      rw [if_pos c]
      exact ans_ref h
    · rw [if_neg c, if_neg c]
theorem ref_drop : ∀ {cs : List Chk} {i : Nat} {e : Chk}, cs[i]? = some e → refV (cs.drop i) = if e.2.2.1 ≤ e.2.1 ∧ e.2.1 ≤ e.2.2.2 then refV (cs.drop (i + 1)) else [.str e.1, .int e.2.1, .bl true, .bl false]
  | (n, x, lo, hi) :: r, 0, e, h => by cases h; rfl
  | _ :: r, i + 1, e, h => ref_drop (cs := r) (i := i) h
  | [], _, _, h => nomatch h
end LR

set_option Elab.async false
set_option maxRecDepth 100000
set_option linter.all false
set_option maxHeartbeats 4000000
namespace LR
open PySem PySem.Spec PyProof.Rows L2
def topS (i : Nat) : Stmt := PySem.Challenge.pw_ladderreach_k16_gap_high_and_allowed.main.body.getD i (.Pass ⟨0, 0, 0, 0⟩)
abbrev s_check_height : Stmt := topS 16
abbrev N_check_height : List Str := ["height"]
theorem sc_check_height : FnScope N_check_height ["height"] (defScope s_check_height) := ⟨rfl, rfl, rfl, by decide +kernel, rfl, by decide +kernel, by decide +kernel⟩
abbrev s_check_row : Stmt := topS 20
abbrev N_check_row : List Str := ["height", "row", "most", "index", "level"]
theorem sc_check_row : FnScope N_check_row ["height", "row", "most"] (defScope s_check_row) := ⟨rfl, rfl, rfl, by decide +kernel, rfl, by decide +kernel, by decide +kernel⟩
abbrev s_check_step : Stmt := topS 18
abbrev N_check_step : List Str := ["top", "step"]
theorem sc_check_step : FnScope N_check_step ["top", "step"] (defScope s_check_step) := ⟨rfl, rfl, rfl, by decide +kernel, rfl, by decide +kernel, by decide +kernel⟩
abbrev s_check_rank : Stmt := topS 19
abbrev N_check_rank : List Str := ["height", "rank"]
theorem sc_check_rank : FnScope N_check_rank ["height", "rank"] (defScope s_check_rank) := ⟨rfl, rfl, rfl, by decide +kernel, rfl, by decide +kernel, by decide +kernel⟩
abbrev s__counts_from : Stmt := topS 27
abbrev N__counts_from : List Str := ["level", "levels", "counts", "other"]
theorem sc__counts_from : FnScope N__counts_from ["level", "levels"] (defScope s__counts_from) := ⟨rfl, rfl, rfl, by decide +kernel, rfl, by decide +kernel, by decide +kernel⟩
abbrev s_pool : Stmt := topS 29
abbrev N_pool : List Str := ["script", "k", "cell"]
theorem sc_pool : FnScope N_pool ["script", "k"] (defScope s_pool) := ⟨rfl, rfl, rfl, by decide +kernel, rfl, by decide +kernel, by decide +kernel⟩
abbrev s_draw : Stmt := topS 30
abbrev N_draw : List Str := ["pool", "many", "value", "mixed"]
theorem sc_draw : FnScope N_draw ["pool", "many"] (defScope s_draw) := ⟨rfl, rfl, rfl, by decide +kernel, rfl, by decide +kernel, by decide +kernel⟩
abbrev s_levels : Stmt := topS 31
abbrev N_levels : List Str := ["pool", "height", "limit", "size", "index"]
theorem sc_levels : FnScope N_levels ["pool", "height", "limit"] (defScope s_levels) := ⟨rfl, rfl, rfl, by decide +kernel, rfl, by decide +kernel, by decide +kernel⟩
abbrev s_number : Stmt := topS 32
abbrev N_number : List Str := ["value"]
theorem sc_number : FnScope N_number ["value"] (defScope s_number) := ⟨rfl, rfl, rfl, by decide +kernel, rfl, by decide +kernel, by decide +kernel⟩
abbrev s_same : Stmt := topS 33
abbrev N_same : List Str := ["answer", "due", "k"]
theorem sc_same : FnScope N_same ["answer", "due"] (defScope s_same) := ⟨rfl, rfl, rfl, by decide +kernel, rfl, by decide +kernel, by decide +kernel⟩
abbrev s_gap : Stmt := topS 34
abbrev N_gap : List Str := ["levels", "one", "other", "greatest", "k"]
theorem sc_gap : FnScope N_gap ["levels", "one", "other"] (defScope s_gap) := ⟨rfl, rfl, rfl, by decide +kernel, rfl, by decide +kernel, by decide +kernel⟩
abbrev s_allows : Stmt := topS 35
abbrev N_allows : List Str := ["levels", "source", "rank", "target", "gap"]
theorem sc_allows : FnScope N_allows ["levels", "source", "rank", "target"] (defScope s_allows) := ⟨rfl, rfl, rfl, by decide +kernel, rfl, by decide +kernel, by decide +kernel⟩
abbrev s_wild : Stmt := topS 36
abbrev N_wild : List Str := ["pool", "floor", "ceiling", "value", "far"]
theorem sc_wild : FnScope N_wild ["pool", "floor", "ceiling"] (defScope s_wild) := ⟨rfl, rfl, rfl, by decide +kernel, rfl, by decide +kernel, by decide +kernel⟩
abbrev s_rows : Stmt := topS 37
abbrev N_rows : List Str := ["pool", "levels", "height", "count", "rows", "turn", "one", "other", "rank"]
theorem sc_rows : FnScope N_rows ["pool", "levels", "height", "count"] (defScope s_rows) := ⟨rfl, rfl, rfl, by decide +kernel, rfl, by decide +kernel, by decide +kernel⟩
abbrev s_asked : Stmt := topS 38
abbrev N_asked : List Str := ["made", "way", "one", "two", "three", "answer", "e", "above"]
theorem sc_asked : FnScope N_asked ["made", "way", "one", "two", "three"] (defScope s_asked) := ⟨rfl, rfl, rfl, by decide +kernel, rfl, by decide +kernel, by decide +kernel⟩
abbrev s_refusal : Stmt := topS 39
abbrev N_refusal : List Str := ["checks", "check"]
theorem sc_refusal : FnScope N_refusal ["checks"] (defScope s_refusal) := ⟨rfl, rfl, rfl, by decide +kernel, rfl, by decide +kernel, by decide +kernel⟩
abbrev s_gap_due : Stmt := topS 40
abbrev N_gap_due : List Str := ["levels", "one", "other", "due"]
theorem sc_gap_due : FnScope N_gap_due ["levels", "one", "other"] (defScope s_gap_due) := ⟨rfl, rfl, rfl, by decide +kernel, rfl, by decide +kernel, by decide +kernel⟩
abbrev s_high : Stmt := topS 41
abbrev N_high : List Str := ["levels", "level", "step", "passed"]
theorem sc_high : FnScope N_high ["levels", "level", "step"] (defScope s_high) := ⟨rfl, rfl, rfl, by decide +kernel, rfl, by decide +kernel, by decide +kernel⟩
abbrev s_high_due : Stmt := topS 42
abbrev N_high_due : List Str := ["levels", "height", "level", "step", "due"]
theorem sc_high_due : FnScope N_high_due ["levels", "height", "level", "step"] (defScope s_high_due) := ⟨rfl, rfl, rfl, by decide +kernel, rfl, by decide +kernel, by decide +kernel⟩
abbrev s_allows_due : Stmt := topS 43
abbrev N_allows_due : List Str := ["levels", "height", "one", "rank", "other", "last", "due"]
theorem sc_allows_due : FnScope N_allows_due ["levels", "height", "one", "rank", "other"] (defScope s_allows_due) := ⟨rfl, rfl, rfl, by decide +kernel, rfl, by decide +kernel, by decide +kernel⟩
abbrev s_highs_agree : Stmt := topS 44
abbrev N_highs_agree : List Str := ["made", "levels", "one", "rank", "other", "level", "near", "far"]
theorem sc_highs_agree : FnScope N_highs_agree ["made", "levels", "one", "rank", "other"] (defScope s_highs_agree) := ⟨rfl, rfl, rfl, by decide +kernel, rfl, by decide +kernel, by decide +kernel⟩
abbrev s_turn : Stmt := topS 45
abbrev N_turn : List Str := ["made", "levels", "height", "row", "one", "other", "rank", "level", "due"]
theorem sc_turn : FnScope N_turn ["made", "levels", "height", "row"] (defScope s_turn) := ⟨rfl, rfl, rfl, by decide +kernel, rfl, by decide +kernel, by decide +kernel⟩
abbrev s_fields : Stmt := topS 46
abbrev N_fields : List Str := ["made", "levels", "height"]
theorem sc_fields : FnScope N_fields ["made", "levels", "height"] (defScope s_fields) := ⟨rfl, rfl, rfl, by decide +kernel, rfl, by decide +kernel, by decide +kernel⟩
abbrev s_law : Stmt := topS 47
abbrev N_law : List Str := ["script", "pool", "height", "limit", "levels", "size", "others", "handed", "made", "twin", "rows", "twins", "again", "k"]
theorem sc_law : FnScope N_law ["script"] (defScope s_law) := ⟨rfl, rfl, rfl, by decide +kernel, rfl, by decide +kernel, by decide +kernel⟩
abbrev s_L_init : Stmt := inClass (topS 26) 1
abbrev N_L_init : List Str := ["self", "height", "levels", "level"]
theorem sc_L_init : FnScope N_L_init ["self", "height", "levels"] (defScope s_L_init) := ⟨rfl, rfl, rfl, by decide +kernel, rfl, by decide +kernel, by decide +kernel⟩
abbrev s_L_gap : Stmt := inClass (topS 26) 8
abbrev N_L_gap : List Str := ["self", "one", "other"]
theorem sc_L_gap : FnScope N_L_gap ["self", "one", "other"] (defScope s_L_gap) := ⟨rfl, rfl, rfl, by decide +kernel, rfl, by decide +kernel, by decide +kernel⟩
abbrev s_L_high : Stmt := inClass (topS 26) 9
abbrev N_L_high : List Str := ["self", "level", "step"]
theorem sc_L_high : FnScope N_L_high ["self", "level", "step"] (defScope s_L_high) := ⟨rfl, rfl, rfl, by decide +kernel, rfl, by decide +kernel, by decide +kernel⟩
abbrev s_L_allows : Stmt := inClass (topS 26) 10
abbrev N_L_allows : List Str := ["self", "source", "rank", "target"]
theorem sc_L_allows : FnScope N_L_allows ["self", "source", "rank", "target"] (defScope s_L_allows) := ⟨rfl, rfl, rfl, by decide +kernel, rfl, by decide +kernel, by decide +kernel⟩
abbrev s_Llets : Stmt := inClass (topS 26) 15
abbrev N_Llets : List Str := ["self", "source", "rank", "target", "counts"]
theorem sc_Llets : FnScope N_Llets ["self", "source", "rank", "target"] (defScope s_Llets) := ⟨rfl, rfl, rfl, by decide +kernel, rfl, by decide +kernel, by decide +kernel⟩
abbrev s_L_iter : Stmt := inClass (topS 26) 3
abbrev N_L_iter : List Str := ["self"]
theorem sc_L_iter : FnScope N_L_iter ["self"] (defScope s_L_iter) := ⟨rfl, rfl, rfl, by decide +kernel, rfl, by decide +kernel, by decide +kernel⟩
abbrev s_NoSuchStep_init : Stmt := inClass (topS 10) 0
abbrev N_NoSuchStep_init : List Str := ["self", "step"]
theorem csc_NoSuchStep_init : CScope N_NoSuchStep_init ["self", "step"] (defScope s_NoSuchStep_init) := ⟨rfl, rfl, rfl, by decide +kernel, rfl, by decide +kernel, by decide +kernel, by decide +kernel⟩
abbrev s_NoSuchRank_init : Stmt := inClass (topS 11) 0
abbrev N_NoSuchRank_init : List Str := ["self", "rank"]
theorem csc_NoSuchRank_init : CScope N_NoSuchRank_init ["self", "rank"] (defScope s_NoSuchRank_init) := ⟨rfl, rfl, rfl, by decide +kernel, rfl, by decide +kernel, by decide +kernel, by decide +kernel⟩
abbrev s_NoSuchLevel_init : Stmt := inClass (topS 12) 0
abbrev N_NoSuchLevel_init : List Str := ["self", "level"]
theorem csc_NoSuchLevel_init : CScope N_NoSuchLevel_init ["self", "level"] (defScope s_NoSuchLevel_init) := ⟨rfl, rfl, rfl, by decide +kernel, rfl, by decide +kernel, by decide +kernel, by decide +kernel⟩
structure Cs where
  Ladder : Addr
  NoSuchStep : Addr
  NoSuchRank : Addr
  NoSuchLevel : Addr
  OutOfRange : Addr
  LadderreachError : Addr
  NoSuchNode : Addr
  NoSuchState : Addr
  NoSuchLetter : Addr
  GameError : Addr
structure Txt (P : Program) (K : PySem.W.Frag) (mg : Str → Option Value) (ζ : Cs) : Prop where
  n_len : mg "len" = none
  n_abs : mg "abs" = none
  n_max : mg "max" = none
  n_min : mg "min" = none
  n_isinstance : mg "isinstance" = none
  n_int : mg "int" = none
  n_bool : mg "bool" = none
  n_str : mg "str" = none
  n_list : mg "list" = none
  n_tuple : mg "tuple" = none
  n_range : mg "range" = none
  n_enumerate : mg "enumerate" = none
  n_iter : mg "iter" = none
  n_ValueError : mg "ValueError" = none
  objc : ObjC K
  d_check_height : DefIn K mg "check_height" s_check_height ["height"]
  d_check_row : DefIn K mg "check_row" s_check_row ["height", "row", "most"]
  d_check_step : DefIn K mg "check_step" s_check_step ["top", "step"]
  d_check_rank : DefIn K mg "check_rank" s_check_rank ["height", "rank"]
  d__counts_from : DefIn K mg "_counts_from" s__counts_from ["level", "levels"]
  d_pool : DefIn K mg "_law_pool" s_pool ["script", "k"]
  d_draw : DefIn K mg "_law_draw" s_draw ["pool", "many"]
  d_levels : DefIn K mg "_law_levels" s_levels ["pool", "height", "limit"]
  d_number : DefIn K mg "_law_number" s_number ["value"]
  d_same : DefIn K mg "_law_same" s_same ["answer", "due"]
  d_gap : DefIn K mg "_law_gap" s_gap ["levels", "one", "other"]
  d_allows : DefIn K mg "_law_allows" s_allows ["levels", "source", "rank", "target"]
  d_wild : DefIn K mg "_law_wild" s_wild ["pool", "floor", "ceiling"]
  d_rows : DefIn K mg "_law_rows" s_rows ["pool", "levels", "height", "count"]
  d_asked : DefIn K mg "_law_asked" s_asked ["made", "way", "one", "two", "three"]
  d_refusal : DefIn K mg "_law_refusal" s_refusal ["checks"]
  d_gap_due : DefIn K mg "_law_gap_due" s_gap_due ["levels", "one", "other"]
  d_high : DefIn K mg "_law_high" s_high ["levels", "level", "step"]
  d_high_due : DefIn K mg "_law_high_due" s_high_due ["levels", "height", "level", "step"]
  d_allows_due : DefIn K mg "_law_allows_due" s_allows_due ["levels", "height", "one", "rank", "other"]
  d_highs_agree : DefIn K mg "_law_highs_agree" s_highs_agree ["made", "levels", "one", "rank", "other"]
  d_turn : DefIn K mg "_law_turn" s_turn ["made", "levels", "height", "row"]
  d_fields : DefIn K mg "_law_fields" s_fields ["made", "levels", "height"]
  d_law : DefIn K mg "law" s_law ["script"]
  cl_Ladder : Cls K ζ.Ladder
  mg_Ladder : mg "Ladder" = some (.ref ζ.Ladder)
  na_Ladder_height : NoAttr K ζ.Ladder "height"
  na_Ladder_levels : NoAttr K ζ.Ladder "levels"
  na_Ladder_top : NoAttr K ζ.Ladder "top"
  na_Ladder__counts : NoAttr K ζ.Ladder "_counts"
  na_Ladder___len__ : NoAttr K ζ.Ladder "__len__"
  na_Ladder___length_hint__ : NoAttr K ζ.Ladder "__length_hint__"
  mk_Ladder : MakIn K mg "Ladder" ζ.Ladder "Ladder.__init__" s_L_init ["self", "height", "levels"]
  mt_L_gap : MetIn K ζ.Ladder "gap" "Ladder.gap" s_L_gap ["self", "one", "other"]
  mt_L_high : MetIn K ζ.Ladder "high" "Ladder.high" s_L_high ["self", "level", "step"]
  mt_L_allows : MetIn K ζ.Ladder "allows" "Ladder.allows" s_L_allows ["self", "source", "rank", "target"]
  mt_Llets : MetIn K ζ.Ladder "_lets" "Ladder._lets" s_Llets ["self", "source", "rank", "target"]
  mt_L_iter : MetIn K ζ.Ladder "__iter__" "Ladder.__iter__" s_L_iter ["self"]
  cv_Ladder_MOST_LEVELS : ∃ mc u, ClX.CRead K ζ.Ladder mc ∧ ClX.CVal K ζ.Ladder mc "MOST_LEVELS" (.int 24) u
  e_NoSuchStep : ErrIn P K mg "NoSuchStep" ζ.NoSuchStep "NoSuchStep.__init__" s_NoSuchStep_init "step"
  mg_NoSuchStep : mg "NoSuchStep" = some (.ref ζ.NoSuchStep)
  e_NoSuchRank : ErrIn P K mg "NoSuchRank" ζ.NoSuchRank "NoSuchRank.__init__" s_NoSuchRank_init "rank"
  mg_NoSuchRank : mg "NoSuchRank" = some (.ref ζ.NoSuchRank)
  e_NoSuchLevel : ErrIn P K mg "NoSuchLevel" ζ.NoSuchLevel "NoSuchLevel.__init__" s_NoSuchLevel_init "level"
  mg_NoSuchLevel : mg "NoSuchLevel" = some (.ref ζ.NoSuchLevel)
  mg_OutOfRange : mg "OutOfRange" = some (.ref ζ.OutOfRange)
  mg_LadderreachError : mg "LadderreachError" = some (.ref ζ.LadderreachError)
  mg_NoSuchNode : mg "NoSuchNode" = some (.ref ζ.NoSuchNode)
  mg_NoSuchState : mg "NoSuchState" = some (.ref ζ.NoSuchState)
  mg_NoSuchLetter : mg "NoSuchLetter" = some (.ref ζ.NoSuchLetter)
  mg_GameError : mg "GameError" = some (.ref ζ.GameError)
  kit_NoSuchStep_OutOfRange : PySem.W.kitOne K (.ref ζ.NoSuchStep) (.ref ζ.OutOfRange) = some true
  kit_NoSuchStep_LadderreachError : PySem.W.kitOne K (.ref ζ.NoSuchStep) (.ref ζ.LadderreachError) = some true
  kit_NoSuchStep_ValueError : PySem.W.kitOne K (.ref ζ.NoSuchStep) (.type "ValueError") = some true
  kit_NoSuchStep_NoSuchRank : PySem.W.kitOne K (.ref ζ.NoSuchStep) (.ref ζ.NoSuchRank) = some false
  kit_NoSuchStep_NoSuchLevel : PySem.W.kitOne K (.ref ζ.NoSuchStep) (.ref ζ.NoSuchLevel) = some false
  kit_NoSuchStep_NoSuchNode : PySem.W.kitOne K (.ref ζ.NoSuchStep) (.ref ζ.NoSuchNode) = some false
  kit_NoSuchStep_NoSuchState : PySem.W.kitOne K (.ref ζ.NoSuchStep) (.ref ζ.NoSuchState) = some false
  kit_NoSuchStep_NoSuchLetter : PySem.W.kitOne K (.ref ζ.NoSuchStep) (.ref ζ.NoSuchLetter) = some false
  kit_NoSuchStep_GameError : PySem.W.kitOne K (.ref ζ.NoSuchStep) (.ref ζ.GameError) = some false
  kit_NoSuchRank_OutOfRange : PySem.W.kitOne K (.ref ζ.NoSuchRank) (.ref ζ.OutOfRange) = some true
  kit_NoSuchRank_LadderreachError : PySem.W.kitOne K (.ref ζ.NoSuchRank) (.ref ζ.LadderreachError) = some true
  kit_NoSuchRank_ValueError : PySem.W.kitOne K (.ref ζ.NoSuchRank) (.type "ValueError") = some true
  kit_NoSuchRank_NoSuchStep : PySem.W.kitOne K (.ref ζ.NoSuchRank) (.ref ζ.NoSuchStep) = some false
  kit_NoSuchRank_NoSuchLevel : PySem.W.kitOne K (.ref ζ.NoSuchRank) (.ref ζ.NoSuchLevel) = some false
  kit_NoSuchRank_NoSuchNode : PySem.W.kitOne K (.ref ζ.NoSuchRank) (.ref ζ.NoSuchNode) = some false
  kit_NoSuchRank_NoSuchState : PySem.W.kitOne K (.ref ζ.NoSuchRank) (.ref ζ.NoSuchState) = some false
  kit_NoSuchRank_NoSuchLetter : PySem.W.kitOne K (.ref ζ.NoSuchRank) (.ref ζ.NoSuchLetter) = some false
  kit_NoSuchRank_GameError : PySem.W.kitOne K (.ref ζ.NoSuchRank) (.ref ζ.GameError) = some false
  kit_NoSuchLevel_OutOfRange : PySem.W.kitOne K (.ref ζ.NoSuchLevel) (.ref ζ.OutOfRange) = some true
  kit_NoSuchLevel_LadderreachError : PySem.W.kitOne K (.ref ζ.NoSuchLevel) (.ref ζ.LadderreachError) = some true
  kit_NoSuchLevel_ValueError : PySem.W.kitOne K (.ref ζ.NoSuchLevel) (.type "ValueError") = some true
  kit_NoSuchLevel_NoSuchStep : PySem.W.kitOne K (.ref ζ.NoSuchLevel) (.ref ζ.NoSuchStep) = some false
  kit_NoSuchLevel_NoSuchRank : PySem.W.kitOne K (.ref ζ.NoSuchLevel) (.ref ζ.NoSuchRank) = some false
  kit_NoSuchLevel_NoSuchNode : PySem.W.kitOne K (.ref ζ.NoSuchLevel) (.ref ζ.NoSuchNode) = some false
  kit_NoSuchLevel_NoSuchState : PySem.W.kitOne K (.ref ζ.NoSuchLevel) (.ref ζ.NoSuchState) = some false
  kit_NoSuchLevel_NoSuchLetter : PySem.W.kitOne K (.ref ζ.NoSuchLevel) (.ref ζ.NoSuchLetter) = some false
  kit_NoSuchLevel_GameError : PySem.W.kitOne K (.ref ζ.NoSuchLevel) (.ref ζ.GameError) = some false
  exm_NoSuchStep_NoSuchStep : PySem.W.exmOne K (.ref ζ.NoSuchStep) (.ref ζ.NoSuchStep) = some true
  exm_NoSuchRank_NoSuchStep : PySem.W.exmOne K (.ref ζ.NoSuchRank) (.ref ζ.NoSuchStep) = some false
  exm_NoSuchRank_NoSuchRank : PySem.W.exmOne K (.ref ζ.NoSuchRank) (.ref ζ.NoSuchRank) = some true
  exm_NoSuchLevel_NoSuchStep : PySem.W.exmOne K (.ref ζ.NoSuchLevel) (.ref ζ.NoSuchStep) = some false
  exm_NoSuchLevel_NoSuchRank : PySem.W.exmOne K (.ref ζ.NoSuchLevel) (.ref ζ.NoSuchRank) = some false
  exm_NoSuchLevel_NoSuchLevel : PySem.W.exmOne K (.ref ζ.NoSuchLevel) (.ref ζ.NoSuchLevel) = some true
end LR

set_option Elab.async false
set_option maxRecDepth 100000
set_option linter.all false
set_option maxHeartbeats 4000000
namespace LR
open PySem PySem.Spec PyProof.Rows L2
section
variable {P : Program} {w : World} {K : PySem.W.Frag} {mg : Str → Option Value} {base : Heap} {ζ : Cs}
theorem err_NoSuchStep (T : Txt P K mg ζ) : ErrOk P w K mg base "NoSuchStep" ζ.NoSuchStep "step" := by
  refine T.e_NoSuchStep.ok csc_NoSuchStep_init (fun f cc cda fd A outer s H vs Q E S hr h => ⟨_, nss_cons (ns_expr (ne_supV (i := 0) S T.e_NoSuchStep.T T.e_NoSuchStep.sm T.e_NoSuchStep.mr T.e_NoSuchStep.sv (pa_cons (pe_joined (PJ.cons (pe_str) (PJ.cons (pe_fmt (pv 1)) (PJ.nil)))) pa_nil)))
   (nss_ps (pss_one (ps_ost (pv 0) (pv 1)))), ?_⟩)
  obtain ⟨a, v, rfl, ha, hv, kk⟩ := h
  refine ⟨a, rfl, ha, js_c (n := 0) (by decide) (Nat.zero_le _) (by decide +kernel) fun acc h => js_v (n := 1000) (by decide) h (log_small hv) (fun Q q => ⟨_, rfl, q⟩) fun acc h => ⟨by show 1 ≤ 1000; decide, ha, ?_⟩⟩
  exact ⟨_, rfl, _, rfl, a, ζ.NoSuchStep, rfl, T.e_NoSuchStep.T, T.e_NoSuchStep.no, .inl ⟨ha, kk⟩⟩
theorem err_NoSuchRank (T : Txt P K mg ζ) : ErrOk P w K mg base "NoSuchRank" ζ.NoSuchRank "rank" := by
  refine T.e_NoSuchRank.ok csc_NoSuchRank_init (fun f cc cda fd A outer s H vs Q E S hr h => ⟨_, nss_cons (ns_expr (ne_supV (i := 0) S T.e_NoSuchRank.T T.e_NoSuchRank.sm T.e_NoSuchRank.mr T.e_NoSuchRank.sv (pa_cons (pe_joined (PJ.cons (pe_str) (PJ.cons (pe_fmt (pv 1)) (PJ.nil)))) pa_nil)))
   (nss_ps (pss_one (ps_ost (pv 0) (pv 1)))), ?_⟩)
  obtain ⟨a, v, rfl, ha, hv, kk⟩ := h
  refine ⟨a, rfl, ha, js_c (n := 0) (by decide) (Nat.zero_le _) (by decide +kernel) fun acc h => js_v (n := 1000) (by decide) h (log_small hv) (fun Q q => ⟨_, rfl, q⟩) fun acc h => ⟨by show 1 ≤ 1000; decide, ha, ?_⟩⟩
  exact ⟨_, rfl, _, rfl, a, ζ.NoSuchRank, rfl, T.e_NoSuchRank.T, T.e_NoSuchRank.no, .inl ⟨ha, kk⟩⟩
theorem err_NoSuchLevel (T : Txt P K mg ζ) : ErrOk P w K mg base "NoSuchLevel" ζ.NoSuchLevel "level" := by
  refine T.e_NoSuchLevel.ok csc_NoSuchLevel_init (fun f cc cda fd A outer s H vs Q E S hr h => ⟨_, nss_cons (ns_expr (ne_supV (i := 0) S T.e_NoSuchLevel.T T.e_NoSuchLevel.sm T.e_NoSuchLevel.mr T.e_NoSuchLevel.sv (pa_cons (pe_joined (PJ.cons (pe_str) (PJ.cons (pe_fmt (pv 1)) (PJ.nil)))) pa_nil)))
   (nss_ps (pss_one (ps_ost (pv 0) (pv 1)))), ?_⟩)
  obtain ⟨a, v, rfl, ha, hv, kk⟩ := h
  refine ⟨a, rfl, ha, js_c (n := 0) (by decide) (Nat.zero_le _) (by decide +kernel) fun acc h => js_v (n := 1000) (by decide) h (log_small hv) (fun Q q => ⟨_, rfl, q⟩) fun acc h => ⟨by show 1 ≤ 1000; decide, ha, ?_⟩⟩
  exact ⟨_, rfl, _, rfl, a, ζ.NoSuchLevel, rfl, T.e_NoSuchLevel.T, T.e_NoSuchLevel.no, .inl ⟨ha, kk⟩⟩
end
end LR

set_option Elab.async false
set_option maxRecDepth 100000
set_option linter.all false
set_option maxHeartbeats 4000000
namespace LR
open PySem PySem.Spec PyProof.Rows L2
section
variable {P : Program} {w : World} {K : PySem.W.Frag} {mg : Str → Option Value} {base : Heap} {ζ : Cs}
def spPool (K : PySem.W.Frag) : Sp := fun vs H Q _ => ∃ (a : Addr) (ns : List Int) (k : Nat), vs = [.ref a, .int k] ∧ SqL K H a (ns.map V.int) ∧ ∀ p x y z t, H p = none → Q (.ref p) (upd H p (.lst [.int x, .int y, .int z, .int t]))
theorem ok_pool (T : Txt P K mg ζ) : Cal P w K mg base 1 "_law_pool" (spPool K) := by
  refine T.d_pool.cal sc_pool (fun vs H Q E h => ?_) (fun f cdv A outer s H vs Q E hr h => ⟨_, pss_cons (ps_set (i := 2) sc_pool.nd rfl (Or.inl rfl) (pe_int))
 (pss_cons (ps_if (pt_cmpR op_lt (pv 1) (pe_callB call_len_seq (by rfl) T.n_len b_len (pa_cons (pv 0) (pa_nil))) (nomark _))
 (pss_one (ps_set (i := 2) sc_pool.nd rfl (Or.inl rfl) (pe_callB call_abs (by rfl) T.n_abs b_abs (pa_cons (pe_callTy call_int1 (by rfl) T.n_int b_int (pa_cons (pe_ix ix_list (pv 0) (pv 1) (fun _ _ => rfl)) (pa_nil))) (pa_nil)))))
 (pss_nil))
 (pss_cons (ps_if (pt_cmpR op_ge (pv 2) (pe_op op_pow (pe_int) (pe_int)) (nomark _))
 (pss_one (ps_ret (pe_lst (pa_cons (pe_int) (pa_cons (pv 2) (pa_cons (pe_int) (pa_cons (pe_op op_add (pv 1) (pe_int)) (pa_nil))))))))
 (pss_nil))
 (pss_one (ps_ret (pe_lst (pa_cons (pe_int) (pa_cons (pv 2) (pa_cons (pe_int) (pa_cons (pe_op op_add (pv 1) (pe_int)) (pa_nil)))))))))), ?_⟩)
  · obtain ⟨a, ns, k, rfl, _⟩ := h; rfl
  obtain ⟨a, ns, k, rfl, hS, kk⟩ := h
  refine ⟨_, rfl, _, rfl, a, _, rfl, .inl hS, _, _, rfl, rfl, _, rfl, ?_⟩
  refine ite2 (fun c => ?_) (fun _ => ?_)
  have hlt : k < ns.length := by
    have := of_decide_eq_true c
    rw [List.length_map] at this
    omega
  refine ⟨_, rfl, _, rfl, a, _, _, _, rfl, rfl, hS, atI_nat (v := V.int (ns[k])) (by rw [List.getElem?_map, List.getElem?_eq_getElem hlt]; rfl), .inl ⟨_, rfl, _, rfl, ?_⟩⟩
  all_goals
    refine ⟨_, rfl, _, _, rfl, rfl, ⟨by decide, by decide, by decide⟩, _, _, rfl, rfl, _, rfl, ?_⟩
    refine ite2 (fun _ => ?_) (fun _ => ?_)
    · exact ⟨_, rfl, _, rfl, _, _, rfl, rfl, by show 4 ≤ sizeLine; decide, fun p hp => kk p _ _ _ _ hp⟩
    · exact ⟨_, rfl, _, rfl, _, _, rfl, rfl, by show 4 ≤ sizeLine; decide, fun p hp => kk p _ _ _ _ hp⟩
end
end LR

set_option Elab.async false
set_option maxRecDepth 100000
set_option linter.all false
set_option maxHeartbeats 4000000
namespace LR
open PySem PySem.Spec PyProof.Rows L2
section
variable {P : Program} {w : World} {K : PySem.W.Frag} {mg : Str → Option Value} {base : Heap} {ζ : Cs}
def spDraw : Sp := fun vs H Q _ => ∃ (p : Addr) (many : Int), vs = [.ref p, .int many] ∧ IsPool H p ∧ 0 < many ∧ many < 1073741824 ∧ ∀ (v : Int) H', 0 ≤ v → v < many → Keep p H H' → IsPool H' p → Q (.int v) H'
theorem ok_draw (T : Txt P K mg ζ) : Cal P w K mg base 1 "_law_draw" spDraw := by
  refine T.d_draw.cal sc_draw (fun vs H Q E h => ?_) (fun f cdv A outer s H vs Q E hr h => ⟨_, pss_cons (ps_if (pt_cmpR op_eq (pe_ix ix_list (pv 0) (pe_int) (fun _ _ => rfl)) (pe_int) (nomark _))
 (pss_cons (ps_set (i := 2) sc_draw.nd rfl (Or.inl rfl) (pe_op op_mod (pe_callTy call_int1 (by rfl) T.n_int b_int (pa_cons (pe_ix ix_list (pv 0) (pe_int) (fun _ _ => rfl)) (pa_nil))) (pv 1)))
 (pss_cons (ps_asg (pe_op op_fdiv (pe_callTy call_int1 (by rfl) T.n_int b_int (pa_cons (pe_ix ix_list (pv 0) (pe_int) (fun _ _ => rfl)) (pa_nil))) (pv 1)) (pg_sub (pv 0) (pe_int) set_list))
 (pss_cons (ps_if (pt_cmpR op_eq (pe_ix ix_list (pv 0) (pe_int) (fun _ _ => rfl)) (pe_int) (nomark _))
 (pss_cons (ps_asg (pe_int) (pg_sub (pv 0) (pe_int) set_list))
 (pss_one (ps_asg (pv 2) (pg_sub (pv 0) (pe_int) set_list))))
 (pss_nil))
 (pss_one (ps_ret (pv 2))))))
 (pss_nil))
 (pss_cons (ps_asg (pe_op op_add (pe_ix ix_list (pv 0) (pe_int) (fun _ _ => rfl)) (pe_int)) (pg_sub (pv 0) (pe_int) set_list))
 (pss_cons (ps_set (i := 3) sc_draw.nd rfl (Or.inl rfl) (pe_op op_mod (pe_callTy call_int1 (by rfl) T.n_int b_int (pa_cons (pe_op op_add (pe_op op_add (pe_op op_add (pe_op op_mul (pe_ix ix_list (pv 0) (pe_int) (fun _ _ => rfl)) (pe_int)) (pe_op op_mul (pe_ix ix_list (pv 0) (pe_int) (fun _ _ => rfl)) (pe_int))) (pe_op op_mul (pe_ix ix_list (pv 0) (pe_int) (fun _ _ => rfl)) (pe_int))) (pe_int)) (pa_nil))) (pe_int)))
 (pss_cons (ps_set (i := 3) sc_draw.nd rfl (Or.inl rfl) (pe_op op_mod (pe_callTy call_int1 (by rfl) T.n_int b_int (pa_cons (pe_op op_add (pe_op op_add (pe_op op_mul (pv 3) (pv 3)) (pe_op op_mul (pe_ix ix_list (pv 0) (pe_int) (fun _ _ => rfl)) (pe_int))) (pe_ix ix_list (pv 0) (pe_int) (fun _ _ => rfl))) (pa_nil))) (pe_int)))
 (pss_cons (ps_set (i := 3) sc_draw.nd rfl (Or.inl rfl) (pe_op op_mod (pe_callTy call_int1 (by rfl) T.n_int b_int (pa_cons (pe_op op_add (pe_op op_mul (pv 3) (pv 3)) (pe_int)) (pa_nil))) (pe_int)))
 (pss_one (ps_ret (pe_op op_mod (pe_callTy call_int1 (by rfl) T.n_int b_int (pa_cons (pe_op op_fdiv (pv 3) (pe_int)) (pa_nil))) (pv 1)))))))), ?_⟩)
  · obtain ⟨a, ns, rfl, _⟩ := h; rfl
  obtain ⟨p, many, rfl, ⟨a, b, c, d, hp⟩, hm0, hm1, kk⟩ := h
  refine ⟨_, rfl, p, _, _, _, rfl, rfl, SqL.of hp, rfl, rfl, _, rfl, ?_⟩
  refine ite2 (fun _ => ?_) (fun _ => ?_)
  · refine ⟨_, rfl, p, _, _, _, rfl, rfl, SqL.of hp, rfl, .inl ⟨_, rfl, _, rfl, _, _, rfl, rfl, hm0, ?_⟩⟩
    refine ⟨_, rfl, p, _, _, _, rfl, rfl, SqL.of hp, rfl, .inl ⟨_, rfl, _, rfl, _, _, rfl, rfl, ⟨hm0, hm1⟩, _, rfl, p, _, _, _, rfl, rfl, hp, rfl, ?_⟩⟩
    refine ⟨_, rfl, p, _, _, _, rfl, rfl, SqL.of upd_same, rfl, rfl, _, rfl, ?_⟩
    refine ite2 (fun _ => ?_) (fun _ => ?_)
    · refine ⟨_, rfl, p, _, _, _, rfl, rfl, upd_same, rfl, ?_⟩
      refine ⟨_, rfl, _, rfl, p, _, _, _, rfl, rfl, upd_same, rfl, ?_⟩
      exact ⟨_, rfl, kk _ _ (Int.emod_nonneg _ (by omega)) (Int.emod_lt_of_pos _ hm0) (by rw [upd_upd, upd_upd]; exact Keep.refl.upd) (by rw [upd_upd, upd_upd]; exact IsPool.upd)⟩
    · exact ⟨_, rfl, kk _ _ (Int.emod_nonneg _ (by omega)) (Int.emod_lt_of_pos _ hm0) Keep.refl.upd IsPool.upd⟩
  · refine ⟨_, rfl, _, _, _, _, rfl, rfl, SqL.of hp, rfl, _, _, rfl, rfl, _, rfl, p, _, _, _, rfl, rfl, hp, rfl, ?_⟩
    refine ⟨_, rfl, _, _, _, _, rfl, rfl, SqL.of upd_same, rfl, _, _, rfl, rfl, .inr ⟨by decide, by decide⟩, _, rfl, _, _, _, _, rfl, rfl, SqL.of upd_same, rfl, _, _, rfl, rfl, .inr ⟨by decide, by decide⟩, _, _, rfl, rfl, _, rfl, _, _, _, _, rfl, rfl, SqL.of upd_same, rfl, _, _, rfl, rfl, .inr ⟨by decide, by decide⟩, _, _, rfl, rfl, _, _, rfl, rfl, .inl ⟨_, rfl, _, _, rfl, rfl, (by show (0:Int) < _; decide), ?_⟩⟩
    refine ⟨_, rfl, _, rfl, _, _, rfl, rfl, .inl ⟨Int.lt_of_lt_of_le (by decide) (Int.emod_nonneg _ (by decide)), Int.lt_trans (Int.emod_lt_of_pos _ (by decide)) (by decide)⟩, _, rfl, _, _, _, _, rfl, rfl, SqL.of upd_same, rfl, _, _, rfl, rfl, .inr ⟨by decide, by decide⟩, _, _, rfl, rfl, _, rfl, _, _, _, _, rfl, rfl, SqL.of upd_same, rfl, _, _, rfl, rfl, .inl ⟨_, rfl, _, _, rfl, rfl, (by show (0:Int) < _; decide), ?_⟩⟩
    refine ⟨_, rfl, _, rfl, _, _, rfl, rfl, .inl ⟨Int.lt_of_lt_of_le (by decide) (Int.emod_nonneg _ (by decide)), Int.lt_trans (Int.emod_lt_of_pos _ (by decide)) (by decide)⟩, _, _, rfl, rfl, .inl ⟨_, rfl, _, _, rfl, rfl, (by show (0:Int) < _; decide), ?_⟩⟩
    exact ⟨_, rfl, _, _, rfl, rfl, ⟨by decide, by decide⟩, .inl ⟨_, rfl, _, rfl, _, _, rfl, rfl, hm0, kk _ _ (Int.emod_nonneg _ (by omega)) (Int.emod_lt_of_pos _ hm0) Keep.refl.upd IsPool.upd⟩⟩
end
end LR

set_option Elab.async false
set_option maxRecDepth 100000
set_option linter.all false
set_option maxHeartbeats 4000000
namespace LR
open PySem PySem.Spec PyProof.Rows L2
section
variable {P : Program} {w : World} {K : PySem.W.Frag} {mg : Str → Option Value} {base : Heap} {ζ : Cs}
def spNumber : Sp := fun vs H Q _ => ∃ (x : V) (d : Dt), vs = [x] ∧ At H x d ∧ Q (.bl (isN d)) H
theorem ok_number (T : Txt P K mg ζ) : Cal P w K mg base 1 "_law_number" spNumber := by
  refine T.d_number.cal sc_number (fun vs H Q E h => ?_) (fun f cdv A outer s H vs Q E hr h => ⟨_, pss_one (ps_ret (pe_and (pe_callB call_isi (by rfl) T.n_isinstance b_isinstance (pa_cons (pv 0) (pa_cons (pe_bltn (v := .ty "int") (by rfl) T.n_int b_int rfl) (pa_nil)))) (pe_one (pe_not (pe_callB call_isi (by rfl) T.n_isinstance b_isinstance (pa_cons (pv 0) (pa_cons (pe_bltn (v := .ty "bool") (by rfl) T.n_bool b_bool rfl) (pa_nil)))))))), ?_⟩)
  · obtain ⟨x, d, rfl, _⟩ := h; rfl
  obtain ⟨x, d, rfl, a, kk⟩ := h
  refine ⟨_, rfl, _, _, _, _, _, rfl, .ty _, At.tyX a, kit_ty (kitI d), _, rfl, ite_b (fun c => ?_) (fun c => ?_)⟩
  · refine ⟨_, rfl, _, _, _, _, _, rfl, .ty _, At.tyX a, kit_ty (kitBo d), _, rfl, ?_⟩
    have e : (!isB d) = isN d := by cases d <;> first | rfl | cases c
    rw [e]; exact kk
  · have e : isN d = false := by cases d <;> first | rfl | cases c
    rw [← e]; exact kk
end
end LR

set_option Elab.async false
set_option maxRecDepth 100000
set_option linter.all false
set_option maxHeartbeats 4000000
namespace LR
open PySem PySem.Spec PyProof.Rows L2
section
variable {P : Program} {w : World} {K : PySem.W.Frag} {mg : Str → Option Value} {base : Heap} {ζ : Cs}
/-- the answer is the due one, in kind and value -/
def spSame (n : Nat) : Sp := fun vs H Q _ => ∃ (x y : V) (a d : Dt), vs = [x, y] ∧ At H x a ∧ At H y d ∧ dep d < n ∧ ∀ b : Bool, (b = true ↔ a = d) → Q (.bl b) H
theorem at_seq {H : Hp} {p : Addr} {xs : List V} {K : PySem.W.Frag} {i : Nat} {v : V} {Q : VK} (h : SqL K H p xs ∨ SqT K H p xs) (e : xs[i]? = some v) (q : Q v H) : rIx K (.ref p) (.int i) H Q := by
  rcases h with h | h
  · exact .inl ⟨p, xs, i, v, rfl, rfl, h, atI_nat e, q⟩
  · exact .inr (.inl ⟨p, xs, i, v, rfl, rfl, h, atI_nat e, q⟩)
theorem ok_same (T : Txt P K mg ζ) (n : Nat) : Cal P w K mg base (n + 2) "_law_same" (spSame n) := by
  have c_number : Cal P w K mg base 1 "_law_number" spNumber := ok_number T
  induction n with
  | zero =>
    refine T.d_same.cal sc_same (fun vs H Q E h => ?_) (fun f cdv A outer s H vs Q E hr h => ?_)
    · obtain ⟨x, y, a, d, rfl, _⟩ := h; rfl
    · obtain ⟨x, y, a, d, rfl, _, _, hn, _⟩ := h
      exact absurd hn (Nat.not_lt_zero _)
  | succ n ih =>
  have c_same := ih
  refine T.d_same.cal sc_same (fun vs H Q E h => ?_) (fun f cdv A outer s H vs Q E hr h => ⟨_, pss_cons (ps_if (PW.pt (pw_or (pt_val (pe_callB call_isi (by rfl) T.n_isinstance b_isinstance (pa_cons (pv 1) (pa_cons (pe_bltn (v := .ty "list") (by rfl) T.n_list b_list rfl) (pa_nil))))) (pw_or1 (pt_val (pe_callB call_isi (by rfl) T.n_isinstance b_isinstance (pa_cons (pv 1) (pa_cons (pe_bltn (v := .ty "tuple") (by rfl) T.n_tuple b_tuple rfl) (pa_nil))))))))
 (pss_cons (ps_if (PW.pt (pw_and (pt_val (pe_callB call_isi (by rfl) T.n_isinstance b_isinstance (pa_cons (pv 1) (pa_cons (pe_bltn (v := .ty "list") (by rfl) T.n_list b_list rfl) (pa_nil))))) (pw_and1 (pt_not (pt_val (pe_callB call_isi (by rfl) T.n_isinstance b_isinstance (pa_cons (pv 0) (pa_cons (pe_bltn (v := .ty "list") (by rfl) T.n_list b_list rfl) (pa_nil)))))))))
 (pss_one (ps_ret (pe_bl)))
 (pss_nil))
 (pss_cons (ps_if (PW.pt (pw_and (pt_val (pe_callB call_isi (by rfl) T.n_isinstance b_isinstance (pa_cons (pv 1) (pa_cons (pe_bltn (v := .ty "tuple") (by rfl) T.n_tuple b_tuple rfl) (pa_nil))))) (pw_and1 (pt_not (pt_val (pe_callB call_isi (by rfl) T.n_isinstance b_isinstance (pa_cons (pv 0) (pa_cons (pe_bltn (v := .ty "tuple") (by rfl) T.n_tuple b_tuple rfl) (pa_nil)))))))))
 (pss_one (ps_ret (pe_bl)))
 (pss_nil))
 (pss_cons (ps_if (pt_cmpR op_ne (pe_callB call_len_seq (by rfl) T.n_len b_len (pa_cons (pv 0) (pa_nil))) (pe_callB call_len_seq (by rfl) T.n_len b_len (pa_cons (pv 1) (pa_nil))) (nomark _))
 (pss_one (ps_ret (pe_bl)))
 (pss_nil))
 (pss_cons (ps_for PassesOwn.never rfl (pi_range1 rfl T.n_range (pa_cons (pe_callB call_len_seq (by rfl) T.n_len b_len (pa_cons (pv 1) (pa_nil))) (pa_nil))) (pg_name (i := 2) sc_same.nd rfl (Or.inl rfl))
 (pss_one (ps_if (pt_not (pt_val (pe_c c_same hr (by first | decide | omega) (by rfl) (pa_cons (pe_ix ix_seq (pv 0) (pv 2) (fun _ _ => rfl)) (pa_cons (pe_ix ix_seq (pv 1) (pv 2) (fun _ _ => rfl)) (pa_nil))))))
 (pss_one (ps_ret (pe_bl)))
 (pss_nil))))
 (pss_one (ps_ret (pe_bl)))))))
 (pss_nil))
 (pss_cons (ps_if (pt_cmpR op_isN (pv 1) (pe_non) (nomark _))
 (pss_one (ps_ret (pe_cmpR op_isN (pv 0) (pe_non) (nomark _))))
 (pss_nil))
 (pss_cons (ps_if (pt_val (pe_callB call_isi (by rfl) T.n_isinstance b_isinstance (pa_cons (pv 1) (pa_cons (pe_bltn (v := .ty "bool") (by rfl) T.n_bool b_bool rfl) (pa_nil)))))
 (pss_one (ps_ret (pe_and (pe_callB call_isi (by rfl) T.n_isinstance b_isinstance (pa_cons (pv 0) (pa_cons (pe_bltn (v := .ty "bool") (by rfl) T.n_bool b_bool rfl) (pa_nil)))) (pe_one (pe_cmpR op_eq (pv 0) (pv 1) (nomark _))))))
 (pss_nil))
 (pss_cons (ps_if (pt_val (pe_callB call_isi (by rfl) T.n_isinstance b_isinstance (pa_cons (pv 1) (pa_cons (pe_bltn (v := .ty "int") (by rfl) T.n_int b_int rfl) (pa_nil)))))
 (pss_one (ps_ret (pe_and (pe_c c_number hr (by first | decide | omega) (by rfl) (pa_cons (pv 0) (pa_nil))) (pe_one (pe_cmpR op_eq (pv 0) (pv 1) (nomark _))))))
 (pss_nil))
 (pss_one (ps_ret (pe_and (pe_callB call_isi (by rfl) T.n_isinstance b_isinstance (pa_cons (pv 0) (pa_cons (pe_bltn (v := .ty "str") (by rfl) T.n_str b_str rfl) (pa_nil)))) (pe_one (pe_cmpR op_eq (pv 0) (pv 1) (nomark _))))))))), ?_⟩)
  · obtain ⟨x, y, a, d, rfl, _⟩ := h; rfl
  obtain ⟨x, y, a, d, rfl, ha, hd, hn, kk⟩ := h
  cases hd with
  | non =>
    refine ⟨_, rfl, _, _, _, _, _, rfl, .ty _, At.tyX .non, kit_ty (kitL _), _, rfl, iteF ⟨_, rfl, _, _, _, _, _, rfl, .ty _, At.tyX .non, kit_ty (kitU _), _, rfl, iteF ?_⟩⟩
    refine ⟨_, rfl, rfl, _, rfl, iteT ⟨_, rfl, rfl, kk _ ?_⟩⟩
    cases ha <;> simp
  | bl b =>
    refine ⟨_, rfl, _, _, _, _, _, rfl, .ty _, At.tyX (.bl _), kit_ty (kitL _), _, rfl, iteF ⟨_, rfl, _, _, _, _, _, rfl, .ty _, At.tyX (.bl _), kit_ty (kitU _), _, rfl, iteF ?_⟩⟩
    refine ⟨_, rfl, rfl, _, rfl, iteF ⟨_, rfl, _, _, _, _, _, rfl, .ty _, At.tyX (.bl _), kit_ty (kitBo _), _, rfl, iteT ?_⟩⟩
    refine ⟨_, rfl, _, _, _, _, _, rfl, .ty _, At.tyX ha, kit_ty (kitBo _), _, rfl, ite_b (fun c => ?_) (fun c => ?_)⟩
    · cases ha with
      | bl b' => exact ⟨_, rfl, _, rfl, rfl, kk _ (by simp)⟩
      | _ => cases c
    · refine kk _ ⟨fun z => (by cases z), fun z => ?_⟩
      subst z; cases c
  | int b =>
    refine ⟨_, rfl, _, _, _, _, _, rfl, .ty _, At.tyX (.int _), kit_ty (kitL _), _, rfl, iteF ⟨_, rfl, _, _, _, _, _, rfl, .ty _, At.tyX (.int _), kit_ty (kitU _), _, rfl, iteF ?_⟩⟩
    refine ⟨_, rfl, rfl, _, rfl, iteF ⟨_, rfl, _, _, _, _, _, rfl, .ty _, At.tyX (.int _), kit_ty (kitBo _), _, rfl, iteF ⟨_, rfl, _, _, _, _, _, rfl, .ty _, At.tyX (.int _), kit_ty (kitI _), _, rfl, iteT ?_⟩⟩⟩
    refine ⟨_, rfl, x, a, rfl, ha, _, rfl, ite_b (fun c => ?_) (fun c => ?_)⟩
    · cases ha with
      | int b' => exact ⟨_, rfl, _, rfl, rfl, kk _ (by simp)⟩
      | _ => cases c
    · refine kk _ ⟨fun z => (by cases z), fun z => ?_⟩
      subst z; cases c
  | str b =>
    refine ⟨_, rfl, _, _, _, _, _, rfl, .ty _, At.tyX (.str _), kit_ty (kitL _), _, rfl, iteF ⟨_, rfl, _, _, _, _, _, rfl, .ty _, At.tyX (.str _), kit_ty (kitU _), _, rfl, iteF ?_⟩⟩
    refine ⟨_, rfl, rfl, _, rfl, iteF ⟨_, rfl, _, _, _, _, _, rfl, .ty _, At.tyX (.str _), kit_ty (kitBo _), _, rfl, iteF ⟨_, rfl, _, _, _, _, _, rfl, .ty _, At.tyX (.str _), kit_ty (kitI _), _, rfl, iteF ?_⟩⟩⟩
    refine ⟨_, rfl, _, _, _, _, _, rfl, .ty _, At.tyX ha, kit_ty (kitS _), _, rfl, ite_b (fun c => ?_) (fun c => ?_)⟩
    · cases ha with
      | str b' => exact ⟨_, rfl, _, rfl, rfl, kk _ (by simp)⟩
      | _ => cases c
    · refine kk _ ⟨fun z => (by cases z), fun z => ?_⟩
      subst z; cases c
  | lst hq hs hz =>
    rename_i q ys ds
    have hdn : deps ds < n := by rw [dep] at hn; omega
    refine ⟨_, rfl, _, _, _, _, _, rfl, .ty _, At.tyX (At.lst hq hs hz), kit_ty (kitL _), _, rfl, iteT ?_⟩
    refine ⟨_, rfl, _, _, _, _, _, rfl, .ty _, At.tyX (At.lst hq hs hz), kit_ty (kitL _), _, rfl, iteT ?_⟩
    cases ha with
    | lst hp as az =>
      rename_i p xs as'
      refine ⟨_, rfl, _, _, _, _, _, rfl, .ty _, At.tyX (At.lst hp as az), kit_ty (kitL _), _, rfl, iteF ?_⟩
      refine ⟨_, rfl, _, _, _, _, _, rfl, .ty _, At.tyX (At.lst hq hs hz), kit_ty (kitU _), _, rfl, iteF (iteF ?_)⟩
      have hl1 := as.length; have hl2 := hs.length
      refine ⟨_, rfl, p, xs, rfl, .inl (SqL.of hp), _, rfl, q, ys, rfl, .inl (SqL.of hq), rfl, _, rfl, ?_⟩
      refine ite_b (fun c => ?_) (fun c => ?_)
      · refine kk _ ⟨fun z => (by cases z), fun z => ?_⟩
        cases z
        rw [hl1, hl2] at c; simp at c
      have hl : as'.length = ds.length := by
        rw [hl1, hl2] at c; simp at c; omega
      refine ⟨_, rfl, q, ys, rfl, .inl (SqL.of hq), _, rfl, by omega, by omega, ?_⟩
      refine for_range (lo := 0) (n := ys.length) (fun i σ H' => H' = H ∧ (∃ z, σ = [some (.ref p), some (.ref q), z]) ∧ as'.take i = ds.take i) ⟨rfl, ⟨_, rfl⟩, rfl⟩ ?_ ?_
      · rintro i σ H' hi ⟨rfl, ⟨z, rfl⟩, ht⟩
        have hi1 : i < as'.length := by omega
        have hi2 : i < ds.length := by omega
        obtain ⟨x, ex, ax⟩ := as.getD (List.getElem?_eq_getElem hi1)
        obtain ⟨y, ey, ay⟩ := hs.getD (List.getElem?_eq_getElem hi2)
        refine ⟨_, rfl, _, rfl, .inl ⟨ p, xs, _, _, rfl, rfl, SqL.of hp, (by rw [Int.zero_add]; exact atI_nat ex), _, rfl, _, rfl, .inl ⟨ q, ys, _, _, rfl, rfl, SqL.of hq, (by rw [Int.zero_add]; exact atI_nat ey), ?_⟩⟩⟩
        refine ⟨x, y, _, _, rfl, ax, ay, Nat.lt_of_le_of_lt (deps_mem (List.getElem_mem hi2)) hdn, fun b hb => ⟨_, rfl, ite_b (fun c => ?_) (fun c => ?_)⟩⟩
        · refine kk _ ⟨fun z => (by cases z), fun z => ?_⟩
          injection z with z
          have hbt := hb.mpr (List.getElem_of_eq z hi1)
          rw [hbt] at c; cases c
        · refine ⟨rfl, ⟨_, rfl⟩, ?_⟩
          have hbt : b = true := by cases b with
            | true => rfl
            | false => cases c
          rw [List.take_succ, List.take_succ, ht, List.getElem?_eq_getElem hi1, List.getElem?_eq_getElem hi2, hb.mp hbt]
      · rintro σ H' ⟨rfl, ⟨z, rfl⟩, ht⟩
        refine kk true ⟨fun _ => ?_, fun _ => rfl⟩
        rw [hl2, List.take_length, ← hl, List.take_length] at ht
        rw [ht]
    | non => exact ⟨_, rfl, _, _, _, _, _, rfl, .ty _, At.tyX .non, kit_ty (kitL _), _, rfl, iteT (kk _ ⟨fun z => (by cases z), fun z => (by cases z)⟩)⟩
    | bl _ => exact ⟨_, rfl, _, _, _, _, _, rfl, .ty _, At.tyX (.bl _), kit_ty (kitL _), _, rfl, iteT (kk _ ⟨fun z => (by cases z), fun z => (by cases z)⟩)⟩
    | int _ => exact ⟨_, rfl, _, _, _, _, _, rfl, .ty _, At.tyX (.int _), kit_ty (kitL _), _, rfl, iteT (kk _ ⟨fun z => (by cases z), fun z => (by cases z)⟩)⟩
    | str _ => exact ⟨_, rfl, _, _, _, _, _, rfl, .ty _, At.tyX (.str _), kit_ty (kitL _), _, rfl, iteT (kk _ ⟨fun z => (by cases z), fun z => (by cases z)⟩)⟩
    | tup h5 a5 z5 => exact ⟨_, rfl, _, _, _, _, _, rfl, .ty _, At.tyX (.tup h5 a5 z5), kit_ty (kitL _), _, rfl, iteT (kk _ ⟨fun z => (by cases z), fun z => (by cases z)⟩)⟩
  | tup hq hs hz =>
    rename_i q ys ds
    have hdn : deps ds < n := by rw [dep] at hn; omega
    refine ⟨_, rfl, _, _, _, _, _, rfl, .ty _, At.tyX (At.tup hq hs hz), kit_ty (kitL _), _, rfl, iteF ⟨_, rfl, _, _, _, _, _, rfl, .ty _, At.tyX (At.tup hq hs hz), kit_ty (kitU _), _, rfl, iteT ?_⟩⟩
    refine ⟨_, rfl, _, _, _, _, _, rfl, .ty _, At.tyX (At.tup hq hs hz), kit_ty (kitL _), _, rfl, iteF (iteF ⟨_, rfl, _, _, _, _, _, rfl, .ty _, At.tyX (At.tup hq hs hz), kit_ty (kitU _), _, rfl, iteT ?_⟩)⟩
    cases ha with
    | tup hp as az =>
      rename_i p xs as'
      refine ⟨_, rfl, _, _, _, _, _, rfl, .ty _, At.tyX (At.tup hp as az), kit_ty (kitU _), _, rfl, iteF ?_⟩
      have hl1 := as.length; have hl2 := hs.length
      refine ⟨_, rfl, p, xs, rfl, .inr (SqT.of hp), _, rfl, q, ys, rfl, .inr (SqT.of hq), rfl, _, rfl, ?_⟩
      refine ite_b (fun c => ?_) (fun c => ?_)
      · refine kk _ ⟨fun z => (by cases z), fun z => ?_⟩
        cases z
        rw [hl1, hl2] at c; simp at c
      have hl : as'.length = ds.length := by
        rw [hl1, hl2] at c; simp at c; omega
      refine ⟨_, rfl, q, ys, rfl, .inr (SqT.of hq), _, rfl, by omega, by omega, ?_⟩
      refine for_range (lo := 0) (n := ys.length) (fun i σ H' => H' = H ∧ (∃ z, σ = [some (.ref p), some (.ref q), z]) ∧ as'.take i = ds.take i) ⟨rfl, ⟨_, rfl⟩, rfl⟩ ?_ ?_
      · rintro i σ H' hi ⟨rfl, ⟨z, rfl⟩, ht⟩
        have hi1 : i < as'.length := by omega
        have hi2 : i < ds.length := by omega
        obtain ⟨x, ex, ax⟩ := as.getD (List.getElem?_eq_getElem hi1)
        obtain ⟨y, ey, ay⟩ := hs.getD (List.getElem?_eq_getElem hi2)
        refine ⟨_, rfl, _, rfl, .inr (.inl ⟨ p, xs, _, _, rfl, rfl, SqT.of hp, (by rw [Int.zero_add]; exact atI_nat ex), _, rfl, _, rfl, .inr (.inl ⟨ q, ys, _, _, rfl, rfl, SqT.of hq, (by rw [Int.zero_add]; exact atI_nat ey), ?_⟩)⟩)⟩
        refine ⟨x, y, _, _, rfl, ax, ay, Nat.lt_of_le_of_lt (deps_mem (List.getElem_mem hi2)) hdn, fun b hb => ⟨_, rfl, ite_b (fun c => ?_) (fun c => ?_)⟩⟩
        · refine kk _ ⟨fun z => (by cases z), fun z => ?_⟩
          injection z with z
          have hbt := hb.mpr (List.getElem_of_eq z hi1)
          rw [hbt] at c; cases c
        · refine ⟨rfl, ⟨_, rfl⟩, ?_⟩
          have hbt : b = true := by cases b with
            | true => rfl
            | false => cases c
          rw [List.take_succ, List.take_succ, ht, List.getElem?_eq_getElem hi1, List.getElem?_eq_getElem hi2, hb.mp hbt]
      · rintro σ H' ⟨rfl, ⟨z, rfl⟩, ht⟩
        refine kk true ⟨fun _ => ?_, fun _ => rfl⟩
        rw [hl2, List.take_length, ← hl, List.take_length] at ht
        rw [ht]
    | non => exact ⟨_, rfl, _, _, _, _, _, rfl, .ty _, At.tyX .non, kit_ty (kitU _), _, rfl, iteT (kk _ ⟨fun z => (by cases z), fun z => (by cases z)⟩)⟩
    | bl _ => exact ⟨_, rfl, _, _, _, _, _, rfl, .ty _, At.tyX (.bl _), kit_ty (kitU _), _, rfl, iteT (kk _ ⟨fun z => (by cases z), fun z => (by cases z)⟩)⟩
    | int _ => exact ⟨_, rfl, _, _, _, _, _, rfl, .ty _, At.tyX (.int _), kit_ty (kitU _), _, rfl, iteT (kk _ ⟨fun z => (by cases z), fun z => (by cases z)⟩)⟩
    | str _ => exact ⟨_, rfl, _, _, _, _, _, rfl, .ty _, At.tyX (.str _), kit_ty (kitU _), _, rfl, iteT (kk _ ⟨fun z => (by cases z), fun z => (by cases z)⟩)⟩
    | lst h5 a5 z5 => exact ⟨_, rfl, _, _, _, _, _, rfl, .ty _, At.tyX (.lst h5 a5 z5), kit_ty (kitU _), _, rfl, iteT (kk _ ⟨fun z => (by cases z), fun z => (by cases z)⟩)⟩
end
end LR

set_option Elab.async false
set_option maxRecDepth 100000
set_option linter.all false
set_option maxHeartbeats 4000000
namespace LR
open PySem PySem.Spec PyProof.Rows L2
section
variable {P : Program} {w : World} {K : PySem.W.Frag} {mg : Str → Option Value} {base : Heap} {ζ : Cs}
def spHeight : Sp := fun vs H Q _ => ∃ h : Int, vs = [.int h] ∧ (h = 1 ∨ h = 2 ∨ h = 3) ∧ ∀ H', Same H H' → Q .non H'
theorem ok_height (T : Txt P K mg ζ) : Cal P w K mg base 1 "check_height" spHeight := by
  refine T.d_check_height.cal sc_check_height (fun vs H Q E h => ?_) (fun f cdv A outer s H vs Q E hr h => ⟨_, pss_one (ps_if (pt_cmpR op_notIn_seq (pv 0) (pe_tup (pa_cons (pe_int) (pa_cons (pe_int) (pa_cons (pe_int) (pa_nil))))) rfl)
 (pss_never)
 (pss_nil)), ?_⟩)
  · obtain ⟨h, rfl, _⟩ := h; rfl
  obtain ⟨h, rfl, hh, kk⟩ := h
  refine ⟨_, rfl, (by show 3 ≤ sizeLine; decide), fun t ht => ?_⟩
  refine ⟨t, _, rfl, .inr (SqT.of upd_same), rfl, rfl, _, rfl, ?_⟩
  rcases hh with rfl | rfl | rfl <;> exact iteF (kk _ (same_new ht))
end
end LR

set_option Elab.async false
set_option maxRecDepth 100000
set_option linter.all false
set_option maxHeartbeats 4000000
namespace LR
open PySem PySem.Spec PyProof.Rows L2
section
variable {P : Program} {w : World} {K : PySem.W.Frag} {mg : Str → Option Value} {base : Heap} {ζ : Cs}
def spRowS (K : PySem.W.Frag) : Sp := fun vs H Q _ => ∃ (h : Int) (a : Addr) (ls : List Int) (most : Int), vs = [.int h, .ref a, .int most] ∧ Sq K H a (ls.map V.int) ∧ (ls.length : Int) ≤ most ∧ (∀ l ∈ ls, 1 ≤ l ∧ l ≤ h) ∧ ∀ H', Same H H' → Q .non H'
theorem ok_rowS (T : Txt P K mg ζ) : Cal P w K mg base 1 "check_row" (spRowS K) := by
  refine T.d_check_row.cal sc_check_row (fun vs H Q E h => ?_) (fun f cdv A outer s H vs Q E hr h => ⟨_, pss_cons (ps_if (pt_cmpR op_gt (pe_callB call_len_seq (by rfl) T.n_len b_len (pa_cons (pv 1) (pa_nil))) (pv 2) (nomark _))
 (pss_never)
 (pss_nil))
 (pss_one (ps_for PassesOwn.never rfl (pi_enumS (by rfl) T.n_enumerate (pa_cons (pv 1) (pa_nil))) (pg_tup rfl (pgs_cons (pg_name (i := 3) sc_check_row.nd rfl (Or.inl rfl)) (pgs_cons (pg_name (i := 4) sc_check_row.nd rfl (Or.inl rfl)) (pgs_nil))))
 (pss_one (ps_if (pt_not (pt_chain op_le op_le (pe_int) (pv 4) (pv 0) ))
 (pss_never)
 (pss_nil))))), ?_⟩)
  · obtain ⟨h, a, ls, most, rfl, _⟩ := h; rfl
  obtain ⟨h, a, ls, most, rfl, hS, hl, hb, kk⟩ := h
  refine ⟨_, rfl, a, _, rfl, hS, _, rfl, _, _, rfl, rfl, _, rfl, ?_⟩
  refine ite2 (fun c => absurd (of_decide_eq_true c) (by rw [List.length_map]; omega)) (fun _ => ?_)
  refine ⟨_, rfl, a, rfl, hS.enum (Same.refl _) fun J G W g1 g2 => for_it W (fun i σ H' => Same H H' ∧ ∃ y z, σ = [some (.int h), some (.ref a), some (.int most), y, z]) ⟨Same.refl _, _, _, rfl⟩ (fun i σ H' _ h => g1 _ h.1) ?_ (fun σ H' h => ?_)⟩
  · rintro i x σ H1 H2 hi ⟨s1, y, z, rfl⟩ ⟨t, x, y, rfl, ht, rfl, ex, ey⟩
    cases ex
    obtain ⟨l, el, rfl⟩ := map_get ey
    obtain ⟨b1, b2⟩ := hb l (List.mem_of_getElem? el)
    refine ⟨t, _, rfl, SqT.of upd_same, rfl, _, _, rfl, _, _, rfl, rfl, ?_⟩
    refine ⟨_, rfl, _, _, rfl, rfl, _, rfl, ?_⟩
    refine ite2 (fun c => ?_) (fun c => absurd (decide_eq_true b1) c)
    refine ⟨_, rfl, _, _, rfl, rfl, _, rfl, ?_⟩
    refine ite2 (fun c => ?_) (fun _ => ⟨s1.new ht, _, _, rfl⟩)
    rw [decide_eq_true b2] at c; cases c
  · exact kk _ h.1
def spCountsS (K : PySem.W.Frag) : Sp := fun vs H Q _ => ∃ (lv : Int) (a : Addr) (ls : List Int), vs = [.int lv, .ref a] ∧ Sq K H a (ls.map V.int) ∧ ls.length ≤ 1000 ∧ ∀ H' p, Same H H' → H p = none → H' p = some (.tup (cnL ls lv (ls.length + 1))) → Q (.ref p) H'
theorem ok_countsS (T : Txt P K mg ζ) : Cal P w K mg base 1 "_counts_from" (spCountsS K) := by
  refine T.d__counts_from.cal sc__counts_from (fun vs H Q E h => ?_) (fun f cdv A outer s H vs Q E hr h => ⟨_, pss_cons (ps_set (i := 2) sc__counts_from.nd rfl (Or.inl rfl) (pe_lst (pa_cons (pe_int) (pa_nil))))
 (pss_cons (ps_for PassesOwn.never rfl (pi_seq (pv 1)) (pg_name (i := 3) sc__counts_from.nd rfl (Or.inl rfl))
 (pss_one (ps_expr (pe_bm PySem.F.plainAttrs_list PySem.F.slot_list_append PySem.F.type_list_append mt_append (pv 2) (pa_cons (pe_op op_add (pe_ix ix_list (pv 2) (pe_un un_neg (pe_int)) (fun _ _ => rfl)) (pe_ifExp (pt_cmpR op_ge (pv 3) (pv 0) (nomark _)) (pe_int) (pe_int))) (pa_nil))))))
 (pss_one (ps_ret (pe_callTy call_tuple_of (by rfl) T.n_tuple b_tuple (pa_cons (pv 2) (pa_nil)))))), ?_⟩)
  · obtain ⟨lv, a, ls, rfl, _⟩ := h; rfl
  obtain ⟨lv, a, ls, rfl, hS, hl, kk⟩ := h
  refine ⟨(by show 1 ≤ sizeLine; decide), fun d hd => ?_⟩
  refine ⟨_, rfl, a, rfl, hS.walk (same_new hd) fun J G W g1 g2 => for_it W (fun i σ H' => Same H H' ∧ H' d = some (.lst (cnL ls lv (i + 1))) ∧ ∃ z, σ = [some (.int lv), some (.ref a), some (.ref d), z]) ⟨same_new hd, upd_same, _, rfl⟩ (fun i σ H' _ h => g1 _ h.1) ?_ ?_⟩
  · rintro i x σ H1 H2 hi ⟨s1, h1, z, rfl⟩ ⟨rfl, hx⟩
    obtain ⟨l, el, rfl⟩ := map_get hx
    have hi : i < ls.length := (List.getElem?_eq_some_iff.mp el).1
    refine ⟨_, rfl, .inl ⟨rfl, _, SqL.of h1⟩, _, rfl, _, rfl, _, _, _, _, rfl, rfl, SqL.of h1, (by rw [cnL_succ]; exact atI_last _ _), ?_⟩
    refine ⟨_, rfl, _, rfl, _, _, rfl, rfl, _, rfl, ?_⟩
    have fin : ∀ z1 : Int, cn ls lv (i + 1) = cn ls lv i + z1 → Same H (upd H2 d (.lst (cnL ls lv (i + 1) ++ [V.int (cn ls lv i + z1)]))) ∧ (upd H2 d (.lst (cnL ls lv (i + 1) ++ [V.int (cn ls lv i + z1)]))) d = some (.lst (cnL ls lv (i + 1 + 1))) := fun z1 e => by
      refine ⟨fun b o e1 => ?_, ?_⟩
      · rw [upd_ne (ne_of_none e1 hd)]; exact s1 _ _ e1
      · rw [upd_same, cnL_succ (n := i + 1), e]
    have e0 := cn_succ (lv := lv) el
    refine ite2 (fun c => ?_) (fun c => ?_)
    · have c := of_decide_eq_true c
      rw [if_pos c] at e0
      obtain ⟨f1, f2⟩ := fin 1 e0
      exact ⟨_, _, rfl, rfl, d, _, _, rfl, rfl, h1, by rw [cnL_length, sizeLine_eq]; omega, f1, f2, _, rfl⟩
    · have c : ¬ lv ≤ l := fun q => c (decide_eq_true q)
      rw [if_neg c] at e0
      obtain ⟨f1, f2⟩ := fin 0 e0
      exact ⟨_, _, rfl, rfl, d, _, _, rfl, rfl, h1, by rw [cnL_length, sizeLine_eq]; omega, f1, f2, _, rfl⟩
  · rintro σ H1 ⟨s1, h1, z, rfl⟩
    rw [List.length_map] at h1
    refine ⟨_, rfl, d, _, rfl, .inl ⟨SqL.of h1, fun t ht => ?_⟩⟩
    exact kk _ t (s1.new ht) (s1.free ht) upd_same
def spInitS (C : Addr) : Sp := fun vs H Q _ => ∃ (x a dx : Addr) (h : Int) (ls : List Int), vs = [.ref x, .int h, .ref a] ∧ H x = some (.ins C dx []) ∧ (H a = some (.lst (ls.map V.int)) ∨ H a = some (.tup (ls.map V.int))) ∧ (h = 1 ∨ h = 2 ∨ h = 3) ∧ ls.length ≤ 24 ∧ (∀ l ∈ ls, 1 ≤ l ∧ l ≤ h) ∧ ∀ H', Keep x H H' → LadderAt C H' x h ls → Q .non H'
theorem ok_initS (T : Txt P K mg ζ) : Mak P w K mg base 2 "Ladder" ζ.Ladder (spInitS ζ.Ladder) := by
  have c_check_height : Cal P w K mg base 1 "check_height" spHeight := ok_height T
  have c_check_row : Cal P w K mg base 1 "check_row" (spRowS K) := ok_rowS T
  have c__counts_from : Cal P w K mg base 1 "_counts_from" (spCountsS K) := ok_countsS T
  refine T.mk_Ladder.mak sc_L_init (fun vs H Q E h => ?_) (fun f cdv A outer s H vs Q E hr h => ⟨_, pss_cons (ps_expr (pe_c c_check_height hr (by first | decide | omega) (by rfl) (pa_cons (pv 1) (pa_nil))))
 (pss_cons (ps_expr (pe_c c_check_row hr (by first | decide | omega) (by rfl) (pa_cons (pv 1) (pa_cons (pv 2) (pa_cons (ClX.pe_cval (pe_glob (v := .ref ζ.Ladder) (by rfl) T.mg_Ladder rfl)) (pa_nil))))))
 (pss_cons (ps_fld (pv 0) (pv 1) rfl)
 (pss_cut (ps_fld (pv 0) (pe_callTy call_tuple_of (by rfl) T.n_tuple b_tuple (pa_cons (pv 2) (pa_nil))) rfl)
 (pss_cons (ps_fld (pv 0) (pe_callB call_len_seq (by rfl) T.n_len b_len (pa_cons (pv 2) (pa_nil))) rfl)
 (pss_one (ps_fld (pv 0) (pe_callTy call_tuple_of (by rfl) T.n_tuple b_tuple (pa_cons (pe_lc (own := [("level", 3)]) (g := gName 3) (tt := tYes)  rfl sc_L_init.nd (pi_range2 rfl T.n_range (pa_cons (pe_int) (pa_cons (pe_op op_add (pv 1) (pe_int)) (pa_nil)))) (blkOk_by (N := N_L_init) (sc := defScope s_L_init) (by decide +kernel)) (fun _ _ _ _ _ => pg_name (i := 3) sc_L_init.nd rfl (Or.inl rfl)) (fun _ _ _ _ _ => pts_nil) (fun _ _ _ _ _ => pe_c c__counts_from hr (by first | decide | omega) (by rfl) (pa_cons (pv 3) (pa_cons (pv 2) (pa_nil))))) (pa_nil))) rfl)))))), ?_⟩)
  · obtain ⟨x, a, dx, h, ls, rfl, _⟩ := h; rfl
  obtain ⟨x, a, dx, h, ls, rfl, hx, ha, hh, hl, hb, kk⟩ := h
  have nax : a ≠ x := by
    rcases ha with ha | ha
    · exact ne_of ha hx (by intro z; cases z)
    · exact ne_of ha hx (by intro z; cases z)
  have hS : Sq K H a (ls.map V.int) := by
    rcases ha with ha | ha
    · exact .inl (SqL.of ha)
    · exact .inr (SqT.of ha)
  obtain ⟨mc, u, cr, cv⟩ := T.cv_Ladder_MOST_LEVELS
  refine ⟨_, rfl, h, rfl, hh, fun H1 s1 => ?_⟩
  refine ⟨_, rfl, _, rfl, ζ.Ladder, mc, _, u, rfl, cr, cv, h, a, ls, 24, rfl, hS.same s1, by omega, hb, fun H2 s2 => ?_⟩
  have k2 : Keep x H H2 := (s1.trans s2).keep
  refine ⟨_, rfl, _, rfl, x, ζ.Ladder, dx, _, rfl, s2 _ _ (s1 _ _ hx), T.cl_Ladder, T.na_Ladder_height, (by show 0 < 1000; decide), ?_⟩
  have k3 : Keep x H (upd H2 x (.ins ζ.Ladder dx (putF "height" (V.int h) []))) := k2.upd
  refine ⟨fun σ' H' => σ' = [some (.ref x), some (.int h), some (.ref a), none] ∧ Keep x H H' ∧ ∃ tl, x ≠ tl ∧ H' tl = some (.tup (ls.map V.int)) ∧ H' x = some (.ins ζ.Ladder dx (putF "levels" (V.ref tl) (putF "height" (V.int h) []))), ?_, ?_⟩
  · rcases ha with ha | ha
    · refine ⟨_, rfl, a, _, rfl, .inl ⟨SqL.of (k3 _ nax _ ha), fun tl htl => ?_⟩⟩
      have nxt : x ≠ tl := fun q => by rw [← q, upd_same] at htl; cases htl
      refine ⟨_, rfl, x, ζ.Ladder, dx, _, rfl, (upd_ne nxt).trans upd_same, T.cl_Ladder, T.na_Ladder_levels, (by show 1 < 1000; decide), ?_⟩
      exact ⟨rfl, (k3.new htl).upd, tl, nxt, by rw [upd_ne nxt.symm, upd_same], upd_same⟩
    · refine ⟨_, rfl, a, _, rfl, .inr ⟨SqT.of (k3 _ nax _ ha), ?_⟩⟩
      refine ⟨_, rfl, x, ζ.Ladder, dx, _, rfl, upd_same, T.cl_Ladder, T.na_Ladder_levels, (by show 1 < 1000; decide), ?_⟩
      exact ⟨rfl, k3.upd, a, nax.symm, by rw [upd_ne nax, k3 _ nax _ ha], upd_same⟩
  rintro σ' H3 ⟨rfl, k4, tl, nxt, htl, hx3⟩
  refine ⟨_, rfl, a, _, rfl, hS.keep k4 nax, _, rfl, x, ζ.Ladder, dx, _, rfl, hx3, T.cl_Ladder, T.na_Ladder_top, (by show 2 < 1000; decide), ?_⟩
  have k5 := k4.upd (o := .ins ζ.Ladder dx (putF "top" (V.int ((ls.map V.int).length : Int)) (putF "levels" (V.ref tl) (putF "height" (V.int h) []))))
  have hx5 : (upd H3 x (.ins ζ.Ladder dx (putF "top" (V.int ((ls.map V.int).length : Int)) (putF "levels" (V.ref tl) (putF "height" (V.int h) []))))) x = some (.ins ζ.Ladder dx (putF "top" (V.int ((ls.map V.int).length : Int)) (putF "levels" (V.ref tl) (putF "height" (V.int h) [])))) := upd_same
  have ht5 : (upd H3 x (.ins ζ.Ladder dx (putF "top" (V.int ((ls.map V.int).length : Int)) (putF "levels" (V.ref tl) (putF "height" (V.int h) []))))) tl = some (.tup (ls.map V.int)) := by rw [upd_ne nxt.symm, htl]
  generalize upd H3 x (.ins ζ.Ladder dx (putF "top" (V.int ((ls.map V.int).length : Int)) (putF "levels" (V.ref tl) (putF "height" (V.int h) [])))) = H5 at k5 hx5 ht5 ⊢
  refine ⟨_, rfl, _, _, rfl, rfl, 1, _, rfl, ⟨by decide, by decide, by omega, by omega⟩, fun D hD => ?_⟩
  have nDx : D ≠ x := fun q => by rw [q, hx5] at hD; cases hD
  refine lc_range (lo := 1) (n := (h + 2 - 1).toNat) (fun i H' => Keep x H H' ∧ H' x = H5 x ∧ H' tl = H5 tl ∧ ∃ cs : List Addr, H' D = some (.lst (cs.map V.ref)) ∧ cs.length = i ∧ ∀ (j : Nat) (b : Addr), cs[j]? = some b → H' b = some (.tup (cnL ls (j + 1) (ls.length + 1)))) ?_ ?_ ?_
  · exact ⟨k5.new hD, upd_ne nDx.symm, upd_ne (ne_of_none ht5 hD), [], upd_same, rfl, fun j b e => by simp at e⟩
  · rintro i H6 hi ⟨k6, e1, e2, cs, h6, hc, hj⟩
    refine ⟨rfl, lc_yes (iteT ?_)⟩
    refine ⟨_, rfl, _, rfl, _, a, ls, rfl, hS.keep k6 nax, by omega, fun H7 p s7 hp h7 => ?_⟩
    have nD : D ≠ p := ne_of_none h6 hp
    refine ⟨_, s7 _ _ h6, (by rw [List.length_map, hc, sizeLine_eq]; omega), ?_, ?_, ?_, cs ++ [p], ?_, by simp [hc], ?_⟩
    · intro b nb o e
      have := s7 _ _ (k6 b nb o e)
      rw [upd_ne (fun q => ?_)]
      · exact this
      · have hn : H D = none := by
          cases q2 : H D with
          | none => rfl
          | some o2 =>
            have := k5 D nDx o2 q2
            rw [hD] at this; cases this
        rw [q, hn] at e; cases e
    · rw [upd_ne nDx.symm, s7 x _ (e1.trans hx5), hx5]
    · rw [upd_ne (ne_of_none ht5 hD), s7 tl _ (e2.trans ht5), ht5]
    · rw [upd_same, List.map_append]; rfl
    · intro j b e
      rw [List.getElem?_append] at e
      split at e
      · rename_i hj2
        have h8 := s7 _ _ (hj j b e)
        rw [upd_ne (fun q => ?_)]
        · exact h8
        · rw [q, s7 _ _ h6] at h8; cases h8
      · rename_i hj2
        have ej : j = i := by
          have := (List.getElem?_eq_some_iff.mp e).1
          simp at this; omega
        subst ej
        rw [hc, Nat.sub_self] at e
        simp at e
        subst e
        rw [upd_ne nD.symm, h7, Int.add_comm]
  · rintro H6 ⟨k6, e1, e2, cs, h6, hc, hj⟩
    refine ⟨D, _, rfl, .inl ⟨SqL.of h6, fun tc htc => ?_⟩⟩
    have hx6 := e1.trans hx5
    have ht6 := e2.trans ht5
    have nx : x ≠ tc := ne_of_none hx6 htc
    refine ⟨_, rfl, x, ζ.Ladder, dx, _, rfl, (upd_ne nx).trans hx6, T.cl_Ladder, T.na_Ladder__counts, (by show 3 < 1000; decide), ?_⟩
    refine kk _ ((k6.new htc).upd) ⟨dx, tl, tc, ?_, ?_, cs, ?_, by rw [hc]; omega, fun j b e => ?_⟩
    · rw [upd_same, List.length_map]; rfl
    · rw [upd_ne nxt.symm, upd_ne (ne_of_none ht6 htc), ht6]
    · rw [upd_ne nx.symm, upd_same]
    · have h9 := hj j b e
      rw [upd_ne (ne_of h9 hx6 (by intro z; cases z)), upd_ne (ne_of_none h9 htc), h9]
end
end LR

set_option Elab.async false
set_option maxRecDepth 100000
set_option linter.all false
set_option maxHeartbeats 4000000
namespace LR
open PySem PySem.Spec PyProof.Rows L2
section
variable {P : Program} {w : World} {K : PySem.W.Frag} {mg : Str → Option Value} {base : Heap} {ζ : Cs}
def spStep : Sp := fun vs H Q _ => ∃ (m u : Int), vs = [.int m, .int u] ∧ 0 ≤ u ∧ u ≤ m ∧ Q .non H
theorem ok_step (T : Txt P K mg ζ) : Cal P w K mg base 1 "check_step" spStep := by
  refine T.d_check_step.cal sc_check_step (fun vs H Q E h => ?_) (fun f cdv A outer s H vs Q E hr h => ⟨_, pss_one (ps_if (pt_not (pt_chain op_le op_le (pe_int) (pv 1) (pv 0) ))
 (pss_never)
 (pss_nil)), ?_⟩)
  · obtain ⟨m, u, rfl, _⟩ := h; rfl
  obtain ⟨m, u, rfl, u0, u1, kk⟩ := h
  refine ⟨_, rfl, _, _, rfl, rfl, _, rfl, ?_⟩
  refine ite2 (fun c => ?_) (fun c => absurd (decide_eq_true u0) c)
  refine ⟨_, rfl, _, _, rfl, rfl, _, rfl, ?_⟩
  refine ite2 (fun c => ?_) (fun _ => kk)
  rw [decide_eq_true u1] at c; cases c
end
end LR

set_option Elab.async false
set_option maxRecDepth 100000
set_option linter.all false
set_option maxHeartbeats 4000000
namespace LR
open PySem PySem.Spec PyProof.Rows L2
section
variable {P : Program} {w : World} {K : PySem.W.Frag} {mg : Str → Option Value} {base : Heap} {ζ : Cs}
def spRank : Sp := fun vs H Q _ => ∃ (h p : Int), vs = [.int h, .int p] ∧ 0 ≤ p ∧ p ≤ 2 * h ∧ Q .non H
theorem ok_rank (T : Txt P K mg ζ) : Cal P w K mg base 1 "check_rank" spRank := by
  refine T.d_check_rank.cal sc_check_rank (fun vs H Q E h => ?_) (fun f cdv A outer s H vs Q E hr h => ⟨_, pss_one (ps_if (pt_not (pt_chain op_le op_le (pe_int) (pv 1) (pe_op op_mul (pe_int) (pv 0)) ))
 (pss_never)
 (pss_nil)), ?_⟩)
  · obtain ⟨h, u, rfl, _⟩ := h; rfl
  obtain ⟨h, u, rfl, u0, u1, kk⟩ := h
  refine ⟨_, rfl, _, _, rfl, rfl, _, rfl, ?_⟩
  refine ite2 (fun c => ?_) (fun c => absurd (decide_eq_true u0) c)
  refine ⟨_, rfl, _, _, rfl, rfl, .inl ⟨by decide, by decide⟩, _, _, rfl, rfl, _, rfl, ?_⟩
  refine ite2 (fun c => ?_) (fun _ => kk)
  rw [decide_eq_true u1] at c; cases c
end
end LR

set_option Elab.async false
set_option maxRecDepth 100000
set_option linter.all false
set_option maxHeartbeats 4000000
namespace LR
open PySem PySem.Spec PyProof.Rows L2
section
variable {P : Program} {w : World} {K : PySem.W.Frag} {mg : Str → Option Value} {base : Heap} {ζ : Cs}
def spLets (C : Addr) : Sp := fun vs H Q _ => ∃ (x : Addr) (h : Int) (ls : List Int) (u p v : Int), vs = [.ref x, .int u, .int p, .int v] ∧ LadderAt C H x h ls ∧ (0 ≤ u ∧ u ≤ ls.length) ∧ (0 ≤ p ∧ p ≤ 2 * h) ∧ (0 ≤ v ∧ v ≤ ls.length) ∧ Q (.bl (alw ls u p v)) H
theorem ok_lets (T : Txt P K mg ζ) : Met P w K mg base 1 ζ.Ladder "_lets" (spLets ζ.Ladder) := by
  refine T.mt_Llets.met T.cl_Ladder sc_Llets (fun vs H Q E h => ?_) (fun f cdv A outer s H vs Q E hr h => ⟨_, pss_cons (ps_set (i := 4) sc_Llets.nd rfl (Or.inl rfl) (pe_ix ix_tup (pe_fld (pv 0) rfl) (pe_op op_fdiv (pv 2) (pe_int)) (fun _ _ => rfl)))
 (pss_cons (ps_if (pt_cmpR op_eq (pe_op op_mod (pv 2) (pe_int)) (pe_int) (nomark _))
 (pss_one (ps_ret (pe_cmpR op_ge (pe_ix ix_tup (pv 4) (pv 1) (fun _ _ => rfl)) (pe_ix ix_tup (pv 4) (pv 3) (fun _ _ => rfl)) (nomark _))))
 (pss_nil))
 (pss_one (ps_ret (pe_cmpR op_gt (pe_ix ix_tup (pv 4) (pv 1) (fun _ _ => rfl)) (pe_ix ix_tup (pv 4) (pv 3) (fun _ _ => rfl)) (nomark _))))), ?_⟩)
  · obtain ⟨x, h, ls, u, p, v, rfl, _⟩ := h; rfl
  obtain ⟨x, h, ls, u, p, v, rfl, ⟨dx, tl, tc, h1, h2, cs, h3, h4, h5⟩, ⟨u0, u1⟩, ⟨p0, p1⟩, ⟨v0, v1⟩, kk⟩ := h
  have hj : (p / 2).toNat < cs.length := by rw [h4]; omega
  have ej : ((p / 2).toNat : Int) = p / 2 := Int.toNat_of_nonneg (by omega)
  have hc := h5 _ _ (List.getElem?_eq_getElem hj)
  rw [ej] at hc
  refine ⟨_, rfl, x, ζ.Ladder, dx, _, _, rfl, h1, T.cl_Ladder, T.na_Ladder__counts, rfl, _, rfl, _, _, rfl, rfl, ⟨by decide, by decide⟩, tc, _, _, _, rfl, rfl, SqT.of h3, (by rw [← ej]; exact atI_nat (v := V.ref (cs[(p / 2).toNat])) (by rw [List.getElem?_map, List.getElem?_eq_getElem hj]; rfl)), ?_⟩
  have gu : atI (cnL ls (p / 2 + 1) (ls.length + 1)) u = some (V.int (cn ls (p / 2 + 1) u.toNat)) := by
    have := atI_nat (cnL_get (ls := ls) (lv := p / 2 + 1) (n := ls.length + 1) (i := u.toNat) (by omega))
    rwa [Int.toNat_of_nonneg u0] at this
  have gv : atI (cnL ls (p / 2 + 1) (ls.length + 1)) v = some (V.int (cn ls (p / 2 + 1) v.toNat)) := by
    have := atI_nat (cnL_get (ls := ls) (lv := p / 2 + 1) (n := ls.length + 1) (i := v.toNat) (by omega))
    rwa [Int.toNat_of_nonneg v0] at this
  refine ⟨_, rfl, _, _, rfl, rfl, (by show (0:Int) < _; decide), rfl, _, rfl, ?_⟩
  have em : decide (V.int (p % 2) = V.int 0) = decide (p % 2 = 0) := by simp
  refine ite2 (fun c => ?_) (fun c => ?_)
  · rw [em] at c
    have c := of_decide_eq_true c
    refine ⟨_, rfl, _, rfl, _, _, _, _, rfl, rfl, SqT.of hc, gu, _, rfl, _, rfl, _, _, _, _, rfl, rfl, SqT.of hc, gv, _, _, rfl, rfl, ?_⟩
    unfold alw at kk; rw [if_pos c] at kk; exact kk
  · rw [em] at c
    have c : ¬ p % 2 = 0 := fun q => c (decide_eq_true q)
    refine ⟨_, rfl, _, rfl, _, _, _, _, rfl, rfl, SqT.of hc, gu, _, rfl, _, rfl, _, _, _, _, rfl, rfl, SqT.of hc, gv, _, _, rfl, rfl, ?_⟩
    unfold alw at kk; rw [if_neg c] at kk; exact kk
end
end LR

set_option Elab.async false
set_option maxRecDepth 100000
set_option linter.all false
set_option maxHeartbeats 4000000
namespace LR
open PySem PySem.Spec PyProof.Rows L2
section
variable {P : Program} {w : World} {K : PySem.W.Frag} {mg : Str → Option Value} {base : Heap} {ζ : Cs}
/-- the error of a step that does not exist -/
def eStep (C : Addr) (u : Int) (E : XK) (H : Hp) : Prop := ∀ d, H d = none → E (.ref C) (some d) (upd H d (.xd [("step", .int u)]))
def eRank (C : Addr) (u : Int) (E : XK) (H : Hp) : Prop := ∀ d, H d = none → E (.ref C) (some d) (upd H d (.xd [("rank", .int u)]))
def spStepX (D : Addr) : Sp := fun vs H Q E => ∃ (m u : Int), vs = [.int m, .int u] ∧ u.natAbs < 2 ^ 1900 ∧ (0 ≤ u ∧ u ≤ m → Q .non H) ∧ (¬ (0 ≤ u ∧ u ≤ m) → eStep D u E H)
theorem ok_stepX (T : Txt P K mg ζ) : CalX P w K mg base 3 "check_step" (spStepX ζ.NoSuchStep) := by
  have e_NoSuchStep : ErrOk P w K mg base "NoSuchStep" ζ.NoSuchStep "step" := err_NoSuchStep T
  refine T.d_check_step.calX sc_check_step (fun vs H Q E h => ?_) (fun f cdv A outer s H vs Q E hr h => ⟨_, pss_one (ps_if (pt_not (pt_chain op_le op_le (pe_int) (pv 1) (pv 0) ))
 (pss_one (ps_raise rfl (takes_of rfl rfl rfl rfl) (pmk_err e_NoSuchStep hr (by first | decide | omega) (pa_cons (pv 1) (pa_nil)) rfl)))
 (pss_nil)), ?_⟩)
  · obtain ⟨m, u, rfl, _⟩ := h; rfl
  obtain ⟨m, u, rfl, hu, good, bad⟩ := h
  refine ⟨_, rfl, _, _, rfl, rfl, _, rfl, ?_⟩
  refine ite2 (fun c => ?_) (fun c => ?_)
  · have c := of_decide_eq_true c
    refine ⟨_, rfl, _, _, rfl, rfl, _, rfl, ?_⟩
    refine ite_b (fun c2 => ?_) (fun c2 => ?_)
    · have c2 : ¬ u ≤ m := fun q => by rw [decide_eq_true q] at c2; cases c2
      exact ⟨_, rfl, mkE hu fun d hd => bad (fun q => c2 q.2) d hd⟩
    · have c2 : u ≤ m := by
        by_cases q : u ≤ m
        · exact q
        · rw [decide_eq_false q] at c2; cases c2
      exact good ⟨c, c2⟩
  · have c : ¬ 0 ≤ u := fun q => c (decide_eq_true q)
    exact ⟨_, rfl, iteT ⟨_, rfl, mkE hu fun d hd => bad (fun q => c q.1) d hd⟩⟩
def spRankX (D : Addr) : Sp := fun vs H Q E => ∃ (h u : Int), vs = [.int h, .int u] ∧ u.natAbs < 2 ^ 1900 ∧ (0 ≤ u ∧ u ≤ 2 * h → Q .non H) ∧ (¬ (0 ≤ u ∧ u ≤ 2 * h) → eRank D u E H)
theorem ok_rankX (T : Txt P K mg ζ) : CalX P w K mg base 3 "check_rank" (spRankX ζ.NoSuchRank) := by
  have e_NoSuchRank : ErrOk P w K mg base "NoSuchRank" ζ.NoSuchRank "rank" := err_NoSuchRank T
  refine T.d_check_rank.calX sc_check_rank (fun vs H Q E h => ?_) (fun f cdv A outer s H vs Q E hr h => ⟨_, pss_one (ps_if (pt_not (pt_chain op_le op_le (pe_int) (pv 1) (pe_op op_mul (pe_int) (pv 0)) ))
 (pss_one (ps_raise rfl (takes_of rfl rfl rfl rfl) (pmk_err e_NoSuchRank hr (by first | decide | omega) (pa_cons (pv 1) (pa_nil)) rfl)))
 (pss_nil)), ?_⟩)
  · obtain ⟨h, u, rfl, _⟩ := h; rfl
  obtain ⟨h, u, rfl, hu, good, bad⟩ := h
  refine ⟨_, rfl, _, _, rfl, rfl, _, rfl, ?_⟩
  refine ite2 (fun c => ?_) (fun c => ?_)
  · have c := of_decide_eq_true c
    refine ⟨_, rfl, _, _, rfl, rfl, .inl ⟨by decide, by decide⟩, _, _, rfl, rfl, _, rfl, ?_⟩
    refine ite_b (fun c2 => ?_) (fun c2 => ?_)
    · have c2 : ¬ u ≤ 2 * h := fun q => by rw [decide_eq_true q] at c2; cases c2
      exact ⟨_, rfl, mkE hu fun d hd => bad (fun q => c2 q.2) d hd⟩
    · have c2 : u ≤ 2 * h := by
        by_cases q : u ≤ 2 * h
        · exact q
        · rw [decide_eq_false q] at c2; cases c2
      exact good ⟨c, c2⟩
  · have c : ¬ 0 ≤ u := fun q => c (decide_eq_true q)
    exact ⟨_, rfl, iteT ⟨_, rfl, mkE hu fun d hd => bad (fun q => c q.1) d hd⟩⟩
end
end LR

set_option Elab.async false
set_option maxRecDepth 100000
set_option linter.all false
set_option maxHeartbeats 4000000
namespace LR
open PySem PySem.Spec PyProof.Rows L2
section
variable {P : Program} {w : World} {K : PySem.W.Frag} {mg : Str → Option Value} {base : Heap} {ζ : Cs}
def eLevel (C : Addr) (u : Int) (E : XK) (H : Hp) : Prop := ∀ d, H d = none → E (.ref C) (some d) (upd H d (.xd [("level", .int u)]))
def spGapX (C DS : Addr) : Sp := fun vs H Q E => ∃ (x : Addr) (h : Int) (ls : List Int) (u w : Int), vs = [.ref x, .int u, .int w] ∧ LadderAt C H x h ls ∧ ls.length ≤ 1000 ∧ u.natAbs < 2 ^ 1900 ∧ w.natAbs < 2 ^ 1900 ∧
  (¬ (0 ≤ u ∧ u ≤ ls.length) → eStep DS u E H) ∧ (0 ≤ u ∧ u ≤ ls.length → ¬ (0 ≤ w ∧ w ≤ ls.length) → eStep DS w E H) ∧ (0 ≤ u ∧ u ≤ ls.length → 0 ≤ w ∧ w ≤ ls.length → ∀ H', Same H H' → Q (.int (gapI ls u w)) H')
theorem ok_gapX (T : Txt P K mg ζ) : MetX P w K mg base 4 ζ.Ladder "gap" (spGapX ζ.Ladder ζ.NoSuchStep) := by
  have cx_check_step : CalX P w K mg base 3 "check_step" (spStepX ζ.NoSuchStep) := ok_stepX T
  refine T.mt_L_gap.metX T.cl_Ladder sc_L_gap (fun vs H Q E h => ?_) (fun f cdv A outer s H vs Q E hr h => ⟨_, pss_cons (ps_expr (pe_cT cx_check_step hr (by first | decide | omega) (takes_of rfl rfl rfl rfl) (by rfl) (pa_cons (pe_fld (pv 0) rfl) (pa_cons (pv 1) (pa_nil)))))
 (pss_cons (ps_expr (pe_cT cx_check_step hr (by first | decide | omega) (takes_of rfl rfl rfl rfl) (by rfl) (pa_cons (pe_fld (pv 0) rfl) (pa_cons (pv 2) (pa_nil)))))
 (PSs.nox (pss_one (ps_ret (pe_callBK (cr_maxD rfl (Nat.lt_of_le_of_lt (Nat.add_le_add_left (by decide) _) hr.units)) (by rfl) T.n_max b_max (pa_cons (pe_slice sl_tupA (pe_fld (pv 0) rfl) (po_some (pe_callB (call_min2 rfl) (by rfl) T.n_min b_min (pa_cons (pv 1) (pa_cons (pv 2) (pa_nil))))) (po_some (pe_callB (call_max2 rfl) (by rfl) T.n_max b_max (pa_cons (pv 1) (pa_cons (pv 2) (pa_nil)))))) (pa_nil)) (pk_cons (pe_int) pk_nil)))))), ?_⟩)
  · obtain ⟨x, h, ls, p, w, rfl, _⟩ := h; rfl
  obtain ⟨x, h, ls, u, w, rfl, LA, hl, hu, hw, bad1, bad2, good⟩ := h
  obtain ⟨dx, tl, tc, h1, h2, h3⟩ := id LA
  refine ⟨_, rfl, x, ζ.Ladder, dx, _, _, rfl, h1, T.cl_Ladder, T.na_Ladder_top, rfl, _, rfl, _, u, rfl, hu, fun bu => ?_, bad1⟩
  refine ⟨_, rfl, x, ζ.Ladder, dx, _, _, rfl, h1, T.cl_Ladder, T.na_Ladder_top, rfl, _, rfl, _, w, rfl, hw, fun bw => ?_, bad2 bu⟩
  have h2L : SqT K H tl (ls.map V.int) := SqT.of h2
  refine ⟨_, rfl, x, ζ.Ladder, dx, _, _, rfl, h1, T.cl_Ladder, T.na_Ladder_levels, rfl, _, rfl, _, rfl, u, w, rfl, _, rfl, _, rfl, _, rfl, u, w, rfl, _, rfl, tl, _, rfl, h2L, fun full => ?_, fun nf t ht => ?_⟩
  · have e := whole_gap bu bw full
    exact ⟨tl, gapL ls u w, 0, rfl, rfl, (by rw [e]; exact h2L), good bu bw H (Same.refl _)⟩
  · refine ⟨t, gapL ls u w, 0, rfl, rfl, ?_, good bu bw _ (same_new ht)⟩
    rw [← cut_gap bu bw]
    exact SqT.of upd_same
def spHighX (C DS DL : Addr) : Sp := fun vs H Q E => ∃ (x : Addr) (h : Int) (ls : List Int) (l u : Int), vs = [.ref x, .int l, .int u] ∧ LadderAt C H x h ls ∧ ls.length ≤ 1000 ∧ l.natAbs < 2 ^ 1900 ∧ u.natAbs < 2 ^ 1900 ∧
  (¬ (1 ≤ l ∧ l ≤ h + 1) → eLevel DL l E H) ∧ (1 ≤ l ∧ l ≤ h + 1 → ¬ (0 ≤ u ∧ u ≤ ls.length) → eStep DS u E H) ∧ (1 ≤ l ∧ l ≤ h + 1 → 0 ≤ u ∧ u ≤ ls.length → Q (.int (cn ls l u.toNat)) H)
theorem ok_highX (T : Txt P K mg ζ) : MetX P w K mg base 4 ζ.Ladder "high" (spHighX ζ.Ladder ζ.NoSuchStep ζ.NoSuchLevel) := by
  have cx_check_step : CalX P w K mg base 3 "check_step" (spStepX ζ.NoSuchStep) := ok_stepX T
  have e_NoSuchLevel : ErrOk P w K mg base "NoSuchLevel" ζ.NoSuchLevel "level" := err_NoSuchLevel T
  refine T.mt_L_high.metX T.cl_Ladder sc_L_high (fun vs H Q E h => ?_) (fun f cdv A outer s H vs Q E hr h => ⟨_, pss_cons (ps_if (pt_not (pt_chain op_le op_le (pe_int) (pv 1) (pe_op op_add (pe_fld (pv 0) rfl) (pe_int)) ))
 (pss_one (ps_raise rfl (takes_of rfl rfl rfl rfl) (pmk_err e_NoSuchLevel hr (by first | decide | omega) (pa_cons (pv 1) (pa_nil)) rfl)))
 (pss_nil))
 (pss_cons (ps_expr (pe_cT cx_check_step hr (by first | decide | omega) (takes_of rfl rfl rfl rfl) (by rfl) (pa_cons (pe_fld (pv 0) rfl) (pa_cons (pv 2) (pa_nil)))))
 (PSs.nox (pss_one (ps_ret (pe_ix ix_tup (pe_ix ix_tup (pe_fld (pv 0) rfl) (pe_op op_sub (pv 1) (pe_int)) (fun _ _ => rfl)) (pv 2) (fun _ _ => rfl)))))), ?_⟩)
  · obtain ⟨x, h, ls, p, w, rfl, _⟩ := h; rfl
  obtain ⟨x, h, ls, l, u, rfl, LA, hl, hu, hw, bad1, bad2, good⟩ := h
  obtain ⟨dx, tl, tc, h1, h2, cs, h3, h4, h5⟩ := id LA
  refine ⟨_, rfl, _, _, rfl, rfl, _, rfl, ?_⟩
  refine ite2 (fun c => ?_) (fun c => ?_)
  · have c := of_decide_eq_true c
    refine ⟨_, rfl, x, ζ.Ladder, dx, _, _, rfl, h1, T.cl_Ladder, T.na_Ladder_height, rfl, _, _, rfl, rfl, _, _, rfl, rfl, _, rfl, ?_⟩
    refine ite_b (fun c2 => ?_) (fun c2 => ?_)
    · have c2 : ¬ l ≤ h + 1 := fun q => by rw [decide_eq_true q] at c2; cases c2
      exact ⟨_, rfl, mkE hu fun d hd => bad1 (fun q => c2 q.2) d hd⟩
    · have c2 : l ≤ h + 1 := by
        by_cases q : l ≤ h + 1
        · exact q
        · rw [decide_eq_false q] at c2; cases c2
      refine ⟨_, rfl, x, ζ.Ladder, dx, _, _, rfl, h1, T.cl_Ladder, T.na_Ladder_top, rfl, _, rfl, _, u, rfl, hw, fun bu => ?_, bad2 ⟨c, c2⟩⟩
      have hj : (l - 1).toNat < cs.length := by rw [h4]; omega
      have ej : ((l - 1).toNat : Int) = l - 1 := Int.toNat_of_nonneg (by omega)
      have hc := h5 _ _ (List.getElem?_eq_getElem hj)
      rw [ej, show l - 1 + 1 = l by omega] at hc
      have gu : atI (cnL ls l (ls.length + 1)) u = some (V.int (cn ls l u.toNat)) := by
        have := atI_nat (cnL_get (ls := ls) (lv := l) (n := ls.length + 1) (i := u.toNat) (by omega))
        rwa [Int.toNat_of_nonneg bu.1] at this
      have g1 : atI (cs.map V.ref) (l - 1) = some (V.ref (cs[(l - 1).toNat])) := by
        have := atI_nat (xs := cs.map V.ref) (j := (l - 1).toNat) (v := V.ref (cs[(l - 1).toNat])) (by rw [List.getElem?_map, List.getElem?_eq_getElem hj]; rfl)
        rwa [ej] at this
      exact ⟨_, rfl, x, ζ.Ladder, dx, _, _, rfl, h1, T.cl_Ladder, T.na_Ladder__counts, rfl, _, rfl, _, _, rfl, rfl, tc, _, _, _, rfl, rfl, SqT.of h3, g1, _, rfl, _, _, _, _, rfl, rfl, SqT.of hc, gu, good ⟨c, c2⟩ bu⟩
  · have c : ¬ 1 ≤ l := fun q => c (decide_eq_true q)
    exact ⟨_, rfl, iteT ⟨_, rfl, mkE hu fun d hd => bad1 (fun q => c q.1) d hd⟩⟩
def spAllowsX (C DS DR : Addr) : Sp := fun vs H Q E => ∃ (x : Addr) (h : Int) (ls : List Int) (u p v : Int), vs = [.ref x, .int u, .int p, .int v] ∧ LadderAt C H x h ls ∧ ls.length ≤ 1000 ∧ u.natAbs < 2 ^ 1900 ∧ p.natAbs < 2 ^ 1900 ∧ v.natAbs < 2 ^ 1900 ∧
  (¬ (0 ≤ u ∧ u ≤ ls.length) → eStep DS u E H) ∧ (0 ≤ u ∧ u ≤ ls.length → ¬ (0 ≤ p ∧ p ≤ 2 * h) → eRank DR p E H) ∧ (0 ≤ u ∧ u ≤ ls.length → 0 ≤ p ∧ p ≤ 2 * h → ¬ (0 ≤ v ∧ v ≤ ls.length) → eStep DS v E H) ∧
  (0 ≤ u ∧ u ≤ ls.length → 0 ≤ p ∧ p ≤ 2 * h → 0 ≤ v ∧ v ≤ ls.length → Q (.bl (alw ls u p v)) H)
theorem ok_allowsX (T : Txt P K mg ζ) : MetX P w K mg base 4 ζ.Ladder "allows" (spAllowsX ζ.Ladder ζ.NoSuchStep ζ.NoSuchRank) := by
  have cx_check_step : CalX P w K mg base 3 "check_step" (spStepX ζ.NoSuchStep) := ok_stepX T
  have cx_check_rank : CalX P w K mg base 3 "check_rank" (spRankX ζ.NoSuchRank) := ok_rankX T
  have c_Llets : Met P w K mg base 1 ζ.Ladder "_lets" (spLets ζ.Ladder) := ok_lets T
  refine T.mt_L_allows.metX T.cl_Ladder sc_L_allows (fun vs H Q E h => ?_) (fun f cdv A outer s H vs Q E hr h => ⟨_, pss_cons (ps_expr (pe_cT cx_check_step hr (by first | decide | omega) (takes_of rfl rfl rfl rfl) (by rfl) (pa_cons (pe_fld (pv 0) rfl) (pa_cons (pv 1) (pa_nil)))))
 (pss_cons (ps_expr (pe_cT cx_check_rank hr (by first | decide | omega) (takes_of rfl rfl rfl rfl) (by rfl) (pa_cons (pe_fld (pv 0) rfl) (pa_cons (pv 2) (pa_nil)))))
 (pss_cons (ps_expr (pe_cT cx_check_step hr (by first | decide | omega) (takes_of rfl rfl rfl rfl) (by rfl) (pa_cons (pe_fld (pv 0) rfl) (pa_cons (pv 3) (pa_nil)))))
 (PSs.nox (pss_one (ps_ret (pe_mt c_Llets hr (by first | decide | omega) (pv 0) (pa_cons (pv 1) (pa_cons (pv 2) (pa_cons (pv 3) (pa_nil)))))))))), ?_⟩)
  · obtain ⟨x, h, ls, u, p, v, rfl, _⟩ := h; rfl
  obtain ⟨x, h, ls, u, p, v, rfl, LA, hl, hu, hp, hv, bad1, bad2, bad3, good⟩ := h
  obtain ⟨dx, tl, tc, h1, _⟩ := id LA
  refine ⟨_, rfl, x, ζ.Ladder, dx, _, _, rfl, h1, T.cl_Ladder, T.na_Ladder_top, rfl, _, rfl, _, u, rfl, hu, fun bu => ?_, bad1⟩
  refine ⟨_, rfl, x, ζ.Ladder, dx, _, _, rfl, h1, T.cl_Ladder, T.na_Ladder_height, rfl, _, rfl, _, p, rfl, hp, fun bp => ?_, bad2 bu⟩
  refine ⟨_, rfl, x, ζ.Ladder, dx, _, _, rfl, h1, T.cl_Ladder, T.na_Ladder_top, rfl, _, rfl, _, v, rfl, hv, fun bv => ?_, bad3 bu bp⟩
  exact ⟨_, rfl, x, dx, _, rfl, h1, rfl, _, rfl, _, rfl, _, rfl, x, h, ls, u, p, v, rfl, LA, bu, bp, bv, good bu bp bv⟩
end
end LR

set_option Elab.async false
set_option maxRecDepth 100000
set_option linter.all false
set_option maxHeartbeats 4000000
namespace LR
open PySem PySem.Spec PyProof.Rows L2
section
variable {P : Program} {w : World} {K : PySem.W.Frag} {mg : Str → Option Value} {base : Heap} {ζ : Cs}
def spIter (C : Addr) : Sp := fun vs H Q _ => ∃ (x dx tl tc : Addr) (h n : Int) (ys : List V), vs = [.ref x] ∧ H x = some (.ins C dx (lfs h tl n tc)) ∧ H tl = some (.tup ys) ∧ ∀ it, H it = none → Q (.ref it) (upd H it (ItT tl it 0))
theorem ok_iter (T : Txt P K mg ζ) : Met P w K mg base 1 ζ.Ladder "__iter__" (spIter ζ.Ladder) := by
  refine T.mt_L_iter.met T.cl_Ladder sc_L_iter (fun vs H Q E h => ?_) (fun f cdv A outer s H vs Q E hr h => ⟨_, pss_one (ps_ret (pe_callB call_iterT (by rfl) T.n_iter b_iter (pa_cons (pe_fld (pv 0) rfl) (pa_nil)))), ?_⟩)
  · obtain ⟨x, dx, tl, tc, h, n, ys, rfl, _⟩ := h; rfl
  obtain ⟨x, dx, tl, tc, h, n, ys, rfl, h1, h2, kk⟩ := h
  exact ⟨_, rfl, x, ζ.Ladder, dx, _, _, rfl, h1, T.cl_Ladder, T.na_Ladder_levels, rfl, tl, ys, rfl, SqT.of h2, kk⟩
def spFields (C : Addr) : Sp := fun vs H Q _ => ∃ (x a : Addr) (h : Int) (ls : List Int), vs = [.ref x, .ref a, .int h] ∧ LadderAt C H x h ls ∧ H a = some (.lst (ls.map V.int)) ∧ ls.length ≤ 1000 ∧ ∀ H', Same H H' → Q (.bl true) H'
theorem ok_fields (T : Txt P K mg ζ) : Cal P w K mg base 5 "_law_fields" (spFields ζ.Ladder) := by
  have c_L_iter : Met P w K mg base 1 ζ.Ladder "__iter__" (spIter ζ.Ladder) := ok_iter T
  have c_same : Cal P w K mg base 4 "_law_same" (spSame 2) := ok_same T 2
  refine T.d_fields.cal sc_fields (fun vs H Q E h => ?_) (fun f cdv A outer s H vs Q E hr h => ⟨_, pss_cons (ps_if (PW.pt (pw_or (pt_not (pt_val (pe_c c_same hr (by first | decide | omega) (by rfl) (pa_cons (pe_fld (pv 0) rfl) (pa_cons (pv 2) (pa_nil)))))) (pw_or1 (pt_not (pt_val (pe_c c_same hr (by first | decide | omega) (by rfl) (pa_cons (pe_fld (pv 0) rfl) (pa_cons (pe_callTy call_tuple_of (by rfl) T.n_tuple b_tuple (pa_cons (pv 1) (pa_nil))) (pa_nil)))))))))
 (pss_one (ps_ret (pe_bl)))
 (pss_nil))
 (pss_one (ps_ret (pe_and (pe_c c_same hr (by first | decide | omega) (by rfl) (pa_cons (pe_fld (pv 0) rfl) (pa_cons (pe_callB call_len_seq (by rfl) T.n_len b_len (pa_cons (pv 1) (pa_nil))) (pa_nil)))) (pe_one (pe_c c_same hr (by first | decide | omega) (by rfl) (pa_cons (pe_callTy (cr_listIt c_L_iter T.na_Ladder___len__ T.na_Ladder___length_hint__ hr (by decide)) (by rfl) T.n_list b_list (pa_cons (pv 0) (pa_nil))) (pa_cons (pe_callTy call_list_of (by rfl) T.n_list b_list (pa_cons (pv 1) (pa_nil))) (pa_nil)))))))), ?_⟩)
  · obtain ⟨x, a, h, ls, rfl, _⟩ := h; rfl
  obtain ⟨x, a, h, ls, rfl, LA, ha, hl, kk⟩ := h
  obtain ⟨dx, tl, tc, h1, h2, h3⟩ := id LA
  have d0 : dep (.tup (ls.map Dt.int)) < 2 := by rw [dep, deps_ints]; decide
  have d1 : dep (.lst (ls.map Dt.int)) < 2 := by rw [dep, deps_ints]; decide
  have d2 : ∀ n : Int, dep (.int n) < 2 := fun _ => Nat.lt_of_le_of_lt (Nat.le_refl 0) (by decide)
  refine ⟨_, rfl, x, ζ.Ladder, dx, _, _, rfl, h1, T.cl_Ladder, T.na_Ladder_height, rfl, _, rfl, _, _, .int h, .int h, rfl, .int h, .int h, d2 _, fun b hb => ⟨_, rfl, ?_⟩⟩
  rw [hb.mpr rfl]
  refine iteF ⟨_, rfl, x, ζ.Ladder, dx, _, _, rfl, h1, T.cl_Ladder, T.na_Ladder_levels, rfl, _, rfl, a, _, rfl, .inl ⟨SqL.of ha, fun t ht => ?_⟩⟩
  have s1 : Same H (upd H t (.tup (ls.map V.int))) := same_new ht
  refine ⟨_, _, _, _, rfl, .tup (s1 _ _ h2) (ats_ints _ _) (by rw [List.length_map]; omega), .tup upd_same (ats_ints _ _) (by rw [List.length_map]; omega), d0, fun b hb => ⟨_, rfl, ?_⟩⟩
  rw [hb.mpr rfl]
  have h1 := s1 _ _ h1
  have h2 := s1 _ _ h2
  have ha := s1 _ _ ha
  generalize upd H t (.tup (ls.map V.int)) = H1 at s1 h1 h2 ha ⊢
  refine iteF ⟨_, rfl, x, ζ.Ladder, dx, _, _, rfl, h1, T.cl_Ladder, T.na_Ladder_top, rfl, _, rfl, a, _, rfl, .inl (SqL.of ha), _, _, _, _, rfl, .int _, .int _, d2 _, fun b hb => ?_⟩
  rw [hb.mpr (by rw [List.length_map])]
  refine ⟨_, rfl, iteT ?_⟩
  refine ⟨_, rfl, x, dx, _, rfl, h1, fun q hq => ?_⟩
  have s2 : Same H1 (upd H1 q (.lst [])) := same_new hq
  refine ⟨x, dx, tl, tc, h, ls.length, ls.map V.int, rfl, s2 _ _ h1, s2 _ _ h2, fun it hit => ?_⟩
  have s3 : Same H1 (upd (upd H1 q (.lst [])) it (ItT tl it 0)) := s2.new hit
  have qi : q ≠ it := ne_of_none upd_same hit
  refine ⟨it, tl, ls.map V.int, dx, _, rfl, upd_same, SqT.of (s3 _ _ h2), (by rw [upd_ne qi, upd_same]), s3 _ _ h1, ?_⟩
  have s4 : Same H1 (upd (upd (upd (upd H1 q (.lst [])) it (ItT tl it 0)) it (ItZ it)) q (.lst (ls.map V.int))) := fun b o e => by
    have b1 : b ≠ q := ne_of_none e hq
    have b2 : b ≠ it := ne_of_none (s2 _ _ e) hit
    rw [upd_ne b1, upd_ne b2, upd_ne b2, upd_ne b1]
    exact e
  have hq4 : (upd (upd (upd (upd H1 q (.lst [])) it (ItT tl it 0)) it (ItZ it)) q (.lst (ls.map V.int))) q = some (.lst (ls.map V.int)) := upd_same
  generalize upd (upd (upd (upd H1 q (.lst [])) it (ItT tl it 0)) it (ItZ it)) q (.lst (ls.map V.int)) = H4 at s4 hq4 ⊢
  refine ⟨_, rfl, a, _, rfl, .inl (SqL.of (s4 _ _ ha)), fun l hl5 => ?_⟩
  have s5 : Same H4 (upd H4 l (.lst (ls.map V.int))) := same_new hl5
  refine ⟨_, _, _, _, rfl, .lst (s5 _ _ hq4) (ats_ints _ _) (by rw [List.length_map]; omega), .lst upd_same (ats_ints _ _) (by rw [List.length_map]; omega), d1, fun b hb => ?_⟩
  rw [hb.mpr rfl]
  exact kk _ ((s1.trans s4).trans s5)
end
end LR

set_option Elab.async false
set_option maxRecDepth 100000
set_option linter.all false
set_option maxHeartbeats 4000000
namespace LR
open PySem PySem.Spec PyProof.Rows L2
section
variable {P : Program} {w : World} {K : PySem.W.Frag} {mg : Str → Option Value} {base : Heap} {ζ : Cs}
def spWild : Sp := fun vs H Q _ => ∃ (p : Addr) (f t : Int), vs = [.ref p, .int f, .int t] ∧ IsPool H p ∧ (-1000000 ≤ f ∧ f ≤ t ∧ t ≤ 1000000) ∧ ∀ (v : Int) (H' : Hp), -3000000 ≤ v → v ≤ 3000000 → Keep p H H' → IsPool H' p → Q (.int v) H'
theorem ok_wild (T : Txt P K mg ζ) : Cal P w K mg base 2 "_law_wild" spWild := by
  have c_draw : Cal P w K mg base 1 "_law_draw" spDraw := ok_draw T
  refine T.d_wild.cal sc_wild (fun vs H Q E h => ?_) (fun f cdv A outer s H vs Q E hr h => ⟨_, pss_cons (ps_set (i := 3) sc_wild.nd rfl (Or.inl rfl) (pe_op op_add (pv 1) (pe_c c_draw hr (by first | decide | omega) (by rfl) (pa_cons (pv 0) (pa_cons (pe_op op_add (pe_op op_sub (pv 2) (pv 1)) (pe_int)) (pa_nil))))))
 (pss_cons (ps_if (pt_cmpR op_gt (pe_c c_draw hr (by first | decide | omega) (by rfl) (pa_cons (pv 0) (pa_cons (pe_int) (pa_nil)))) (pe_int) (nomark _))
 (pss_one (ps_ret (pv 3)))
 (pss_nil))
 (pss_cons (ps_set (i := 4) sc_wild.nd rfl (Or.inl rfl) (pe_int))
 (pss_cut (ps_if (pt_cmpR op_eq (pe_c c_draw hr (by first | decide | omega) (by rfl) (pa_cons (pv 0) (pa_cons (pe_int) (pa_nil)))) (pe_int) (nomark _))
 (pss_one (ps_set (i := 4) sc_wild.nd rfl (Or.inl rfl) (pe_op op_add (pe_int) (pe_c c_draw hr (by first | decide | omega) (by rfl) (pa_cons (pv 0) (pa_cons (pe_int) (pa_nil)))))))
 (pss_nil))
 (pss_cut (ps_if (pt_cmpR op_eq (pe_c c_draw hr (by first | decide | omega) (by rfl) (pa_cons (pv 0) (pa_cons (pe_int) (pa_nil)))) (pe_int) (nomark _))
 (pss_one (ps_ret (pe_op op_sub (pv 1) (pv 4))))
 (pss_nil))
 (pss_one (ps_ret (pe_op op_add (pv 2) (pv 4)))))))), ?_⟩)
  · obtain ⟨p, f, t, rfl, _⟩ := h; rfl
  obtain ⟨p, lo, hi, rfl, hp, ⟨b1, b2, b3⟩, kk⟩ := h
  refine ⟨_, rfl, _, rfl, _, rfl, _, rfl, _, _, rfl, rfl, _, _, rfl, rfl, p, _, rfl, hp, by omega, by omega, fun v H1 v0 v1 k1 p1 => ⟨_, _, rfl, rfl, ?_⟩⟩
  refine ⟨_, rfl, p, 5, rfl, p1, by decide, by decide, fun d H2 d0 d1 k2 p2 => ⟨_, _, rfl, rfl, _, rfl, ite2 (fun _ => ?_) (fun _ => ?_)⟩⟩
  · exact ⟨_, rfl, kk _ _ (by omega) (by omega) (k1.trans k2) p2⟩
  refine ⟨fun σ' H' => Keep p H H' ∧ IsPool H' p ∧ ∃ far : Int, (1 ≤ far ∧ far ≤ 999000) ∧ σ' = [some (.ref p), some (.int lo), some (.int hi), some (.int (lo + v)), some (.int far)], ?_, ?_⟩
  · refine ⟨_, rfl, p, 2, rfl, p2, by decide, by decide, fun e H3 e0 e1 k3 p3 => ⟨rfl, _, rfl, ite2 (fun _ => ?_) (fun _ => ?_)⟩⟩
    · refine ⟨_, rfl, p, 999000, rfl, p3, by decide, by decide, fun g H4 g0 g1 k4 p4 => ⟨_, _, rfl, rfl, ?_⟩⟩
      exact ⟨((k1.trans k2).trans k3).trans k4, p4, _, ⟨by omega, by omega⟩, rfl⟩
    · exact ⟨(k1.trans k2).trans k3, p3, 1, ⟨by decide, by decide⟩, rfl⟩
  rintro σ' H3 ⟨k3, p3, far, hf, rfl⟩
  refine ⟨fun σ' H' => Keep p H H' ∧ IsPool H' p ∧ σ' = [some (.ref p), some (.int lo), some (.int hi), some (.int (lo + v)), some (.int far)], ?_, ?_⟩
  · refine ⟨_, rfl, p, 2, rfl, p3, by decide, by decide, fun e H4 e0 e1 k4 p4 => ⟨rfl, _, rfl, ite2 (fun _ => ?_) (fun _ => ?_)⟩⟩
    · exact ⟨_, rfl, _, rfl, _, _, rfl, rfl, kk _ _ (by omega) (by omega) (k3.trans k4) p4⟩
    · exact ⟨k3.trans k4, p4, rfl⟩
  rintro σ' H4 ⟨k4, p4, rfl⟩
  exact ⟨_, rfl, _, rfl, _, _, rfl, rfl, kk _ _ (by omega) (by omega) k4 p4⟩
end
end LR

set_option Elab.async false
set_option maxRecDepth 100000
set_option linter.all false
set_option maxHeartbeats 4000000
namespace LR
open PySem PySem.Spec PyProof.Rows L2
section
variable {P : Program} {w : World} {K : PySem.W.Frag} {mg : Str → Option Value} {base : Heap} {ζ : Cs}
def spGap (K : PySem.W.Frag) : Sp := fun vs H Q _ => ∃ (a : Addr) (ls : List Int) (u v : Int), vs = [.ref a, .int u, .int v] ∧ SqL K H a (ls.map V.int) ∧ (0 ≤ u ∧ u ≤ ls.length) ∧ (0 ≤ v ∧ v ≤ ls.length) ∧ ls.length ≤ 1000 ∧ ∀ g, IsGap ls (min u.toNat v.toNat) (max u.toNat v.toNat) g → Q (.int g) H
theorem ok_gap (T : Txt P K mg ζ) : Cal P w K mg base 1 "_law_gap" (spGap K) := by
  refine T.d_gap.cal sc_gap (fun vs H Q E h => ?_) (fun f cdv A outer s H vs Q E hr h => ⟨_, pss_cons (ps_set (i := 3) sc_gap.nd rfl (Or.inl rfl) (pe_int))
 (pss_cons (ps_for PassesOwn.never rfl (pi_range2 rfl T.n_range (pa_cons (pe_callB (call_min2 rfl) (by rfl) T.n_min b_min (pa_cons (pv 1) (pa_cons (pv 2) (pa_nil)))) (pa_cons (pe_callB (call_max2 rfl) (by rfl) T.n_max b_max (pa_cons (pv 1) (pa_cons (pv 2) (pa_nil)))) (pa_nil)))) (pg_name (i := 4) sc_gap.nd rfl (Or.inl rfl))
 (pss_one (ps_set (i := 3) sc_gap.nd rfl (Or.inl rfl) (pe_callB (call_max2 rfl) (by rfl) T.n_max b_max (pa_cons (pv 3) (pa_cons (pe_ix ix_list (pv 0) (pv 4) (fun _ _ => rfl)) (pa_nil)))))))
 (pss_one (ps_ret (pv 3)))), ?_⟩)
  · obtain ⟨a, ls, u, v, rfl, _⟩ := h; rfl
  obtain ⟨a, ls, u, v, rfl, hS, ⟨u0, u1⟩, ⟨v0, v1⟩, hl, kk⟩ := h
  have em : (if v < u then v else u) = ((min u.toNat v.toNat : Nat) : Int) := by split <;> omega
  have eM : (if v > u then v else u) = ((max u.toNat v.toNat : Nat) : Int) := by split <;> omega
  refine ⟨_, rfl, _, rfl, _, _, rfl, _, rfl, _, rfl, _, _, rfl, _, _, rfl, ⟨by rw [em]; omega, by rw [em]; omega, by rw [eM]; omega, by rw [eM]; omega⟩, ?_⟩
  rw [em, eM]
  generalize hlo : min u.toNat v.toNat = lo at kk ⊢
  generalize hhi : max u.toNat v.toNat = hi at kk ⊢
  have en : ((hi : Int) - (lo : Int)).toNat = hi - lo := by omega
  rw [en]
  refine for_range (lo := (lo : Int)) (n := hi - lo) (fun i σ H' => H' = H ∧ ∃ g z, σ = [some (.ref a), some (.int u), some (.int v), some (.int g), z] ∧ IsGap ls lo (lo + i) g) ⟨rfl, 0, _, rfl, Int.le_refl _, fun m z a b => by omega, .inl rfl⟩ ?_ ?_
  · rintro i σ H' hi2 ⟨rfl, g, z, rfl, g0, g1, g2⟩
    have hlt : lo + i < ls.length := by omega
    have hget := List.getElem?_eq_getElem hlt
    refine ⟨_, rfl, _, rfl, _, rfl, a, _, _, _, rfl, rfl, hS, atI_nat (j := lo + i) (get_map hget), _, _, rfl, rfl, _, _, rfl, ?_⟩
    refine ⟨?_, ?_, ?_⟩
    · split <;> omega
    · intro m z a b e
      by_cases q : m < lo + i
      · have := g1 m z a q e
        split <;> omega
      · have : m = lo + i := by omega
        subst this
        rw [hget] at e; cases e
        split <;> omega
    · by_cases q : ls[lo + i] > g
      · rw [if_pos q]
        exact .inr ⟨lo + i, by omega, by omega, hget⟩
      · rw [if_neg q]
        rcases g2 with e | ⟨m, a, b, e⟩
        · exact .inl e
        · exact .inr ⟨m, a, by omega, e⟩
  · rintro σ H' ⟨rfl, g, z, rfl, hg⟩
    have : lo + (hi - lo) = hi := by omega
    rw [this] at hg
    exact ⟨_, rfl, kk g hg⟩
end
end LR

set_option Elab.async false
set_option maxRecDepth 100000
set_option linter.all false
set_option maxHeartbeats 4000000
namespace LR
open PySem PySem.Spec PyProof.Rows L2
section
variable {P : Program} {w : World} {K : PySem.W.Frag} {mg : Str → Option Value} {base : Heap} {ζ : Cs}
def spLAllows (K : PySem.W.Frag) : Sp := fun vs H Q _ => ∃ (a : Addr) (ls : List Int) (u p v : Int), vs = [.ref a, .int u, .int p, .int v] ∧ SqL K H a (ls.map V.int) ∧ (0 ≤ u ∧ u ≤ ls.length) ∧ 0 ≤ p ∧ (0 ≤ v ∧ v ≤ ls.length) ∧ ls.length ≤ 1000 ∧ Q (.bl (alw ls u p v)) H
theorem ok_lallows (T : Txt P K mg ζ) : Cal P w K mg base 2 "_law_allows" (spLAllows K) := by
  have c_gap : Cal P w K mg base 1 "_law_gap" (spGap K) := ok_gap T
  refine T.d_allows.cal sc_allows (fun vs H Q E h => ?_) (fun f cdv A outer s H vs Q E hr h => ⟨_, pss_cons (ps_set (i := 4) sc_allows.nd rfl (Or.inl rfl) (pe_c c_gap hr (by first | decide | omega) (by rfl) (pa_cons (pv 0) (pa_cons (pv 1) (pa_cons (pv 3) (pa_nil))))))
 (pss_cons (ps_if (pt_cmpR op_eq (pe_op op_mod (pe_callTy call_int1 (by rfl) T.n_int b_int (pa_cons (pv 2) (pa_nil))) (pe_int)) (pe_int) (nomark _))
 (pss_one (ps_ret (pe_or (pe_cmpR op_ge (pv 1) (pv 3) (nomark _)) (pe_one (pe_cmpR op_le (pe_op op_mul (pe_int) (pv 4)) (pv 2) (nomark _))))))
 (pss_nil))
 (pss_one (ps_ret (pe_and (pe_cmpR op_gt (pv 1) (pv 3) (nomark _)) (pe_one (pe_cmpR op_gt (pe_op op_mul (pe_int) (pv 4)) (pv 2) (nomark _))))))), ?_⟩)
  · obtain ⟨a, ls, u, p, v, rfl, _⟩ := h; rfl
  obtain ⟨a, ls, u, p, v, rfl, hS, hu, p0, hv, hl, kk⟩ := h
  refine ⟨_, rfl, _, rfl, _, rfl, a, ls, u, v, rfl, hS, hu, hv, hl, fun g hg => ?_⟩
  rw [alw_gap hu.1 hv.1 p0 hg] at kk
  refine ⟨_, rfl, .inl ⟨p, rfl, _, _, rfl, rfl, (by show (0:Int) < _; decide), rfl, _, rfl, ?_⟩⟩
  have em : decide (V.int (p % 2) = V.int 0) = decide (p % 2 = 0) := by simp
  rw [em]
  refine ite2 (fun c => ?_) (fun c => ?_)
  · rw [if_pos (of_decide_eq_true c)] at kk
    refine ⟨_, rfl, _, rfl, _, _, rfl, rfl, _, rfl, ite_b (fun c2 => ?_) (fun c2 => ?_)⟩
    · rw [c2] at kk; exact kk
    · rw [c2] at kk
      exact ⟨_, rfl, _, _, rfl, rfl, .inl ⟨by decide, by decide⟩, _, rfl, _, _, rfl, rfl, kk⟩
  · rw [if_neg (fun q => c (decide_eq_true q))] at kk
    refine ⟨_, rfl, _, rfl, _, _, rfl, rfl, _, rfl, ite_b (fun c2 => ?_) (fun c2 => ?_)⟩
    · rw [c2] at kk
      exact ⟨_, rfl, _, _, rfl, rfl, .inl ⟨by decide, by decide⟩, _, rfl, _, _, rfl, rfl, kk⟩
    · rw [c2] at kk; exact kk
end
end LR

set_option Elab.async false
set_option maxRecDepth 100000
set_option linter.all false
set_option maxHeartbeats 4000000
namespace LR
open PySem PySem.Spec PyProof.Rows L2
section
variable {P : Program} {w : World} {K : PySem.W.Frag} {mg : Str → Option Value} {base : Heap} {ζ : Cs}
def ChkAt (H : Hp) (r : Addr) (e : Chk) : Prop := H r = some (.lst [.str e.1, .int e.2.1, .int e.2.2.1, .int e.2.2.2])
def spRef : Sp := fun vs H Q _ => ∃ (c : Addr) (rs : List Addr) (cs : List Chk), vs = [.ref c] ∧ H c = some (.lst (rs.map V.ref)) ∧ rs.length = cs.length ∧ (∀ (i : Nat) r e, rs[i]? = some r → cs[i]? = some e → ChkAt H r e) ∧
  ∀ (b : Addr) (H' : Hp), Same H H' → H' b = some (.lst (refV cs)) → Q (.ref b) H'
theorem ok_ref (T : Txt P K mg ζ) : Cal P w K mg base 1 "_law_refusal" spRef := by
  refine T.d_refusal.cal sc_refusal (fun vs H Q E h => ?_) (fun f cdv A outer s H vs Q E hr h => ⟨_, pss_cons (ps_for PassesOwn.never rfl (pi_list (pv 0)) (pg_name (i := 1) sc_refusal.nd rfl (Or.inl rfl))
 (pss_one (ps_if (PW.pt (pw_or (pt_cmpR op_lt (pe_ix ix_list (pv 1) (pe_int) (fun _ _ => rfl)) (pe_ix ix_list (pv 1) (pe_int) (fun _ _ => rfl)) (nomark _)) (pw_or1 (pt_cmpR op_gt (pe_ix ix_list (pv 1) (pe_int) (fun _ _ => rfl)) (pe_ix ix_list (pv 1) (pe_int) (fun _ _ => rfl)) (nomark _)))))
 (pss_one (ps_ret (pe_lst (pa_cons (pe_ix ix_list (pv 1) (pe_int) (fun _ _ => rfl)) (pa_cons (pe_ix ix_list (pv 1) (pe_int) (fun _ _ => rfl)) (pa_cons (pe_bl) (pa_cons (pe_bl) (pa_nil))))))))
 (pss_nil))))
 (pss_one (ps_ret (pe_lst (pa_nil)))), ?_⟩)
  · obtain ⟨c, rs, cs, rfl, _⟩ := h; rfl
  obtain ⟨c, rs, cs, rfl, hc, hl, hr1, kk⟩ := h
  refine ⟨_, rfl, c, rfl, ⟨_, SqL.of hc⟩, for_list (K := K) (a := c) (xs := rs.map V.ref) (fun i σ H' => H = H' ∧ refV cs = refV (cs.drop i) ∧ ∃ z, σ = [some (.ref c), z]) ⟨rfl, rfl, _, rfl⟩ (fun i σ H' _ h => by rw [← h.1]; exact SqL.of hc) ?_ ?_⟩
  · rintro i x σ H1 hx ⟨rfl, hi, z, rfl⟩
    rw [List.getElem?_map] at hx
    obtain ⟨r, er, rfl⟩ := Option.map_eq_some_iff.mp hx
    have hlt : i < rs.length := (List.getElem?_eq_some_iff.mp er).1
    have ee : cs[i]? = some (cs[i]'(by omega)) := List.getElem?_eq_getElem (by omega)
    have ha := hr1 i r _ er ee
    rw [ref_drop ee] at hi
    generalize cs[i]'(by omega) = e at ee ha hi
    obtain ⟨n, v, lo, hi2⟩ := e
    unfold ChkAt at ha
    have bad : ¬ (lo ≤ v ∧ v ≤ hi2) → ∀ b, H b = none → Q (.ref b) (upd H b (.lst [.str n, .int v, .bl true, .bl false])) := fun c b hb => by
      refine kk b _ (same_new hb) ?_
      rw [upd_same, hi, if_neg c]
    refine ⟨_, rfl, _, _, _, _, rfl, rfl, SqL.of ha, rfl, _, rfl, _, _, _, _, rfl, rfl, SqL.of ha, rfl, _, _, rfl, rfl, _, rfl, ite2 (fun c1 => iteT ?_) (fun c1 => ⟨_, rfl, _, _, _, _, rfl, rfl, SqL.of ha, rfl, _, rfl, _, _, _, _, rfl, rfl, SqL.of ha, rfl, _, _, rfl, rfl, _, rfl, ite2 (fun c2 => ?_) (fun c2 => ?_)⟩)⟩
    · have c1 : v < lo := of_decide_eq_true c1
      exact ⟨_, rfl, _, _, _, _, rfl, rfl, SqL.of ha, rfl, _, rfl, _, _, _, _, rfl, rfl, SqL.of ha, rfl, by show 4 ≤ sizeLine; decide, bad (fun q => by omega)⟩
    · have c2 : hi2 < v := of_decide_eq_true c2
      exact ⟨_, rfl, _, _, _, _, rfl, rfl, SqL.of ha, rfl, _, rfl, _, _, _, _, rfl, rfl, SqL.of ha, rfl, by show 4 ≤ sizeLine; decide, bad (fun q => by omega)⟩
    · have c1 : ¬ v < lo := fun q => c1 (decide_eq_true q)
      have c2 : ¬ hi2 < v := fun q => c2 (decide_eq_true q)
      refine ⟨rfl, ?_, _, rfl⟩
      rw [hi, if_pos (show lo ≤ v ∧ v ≤ hi2 from ⟨by omega, by omega⟩)]
  · rintro σ H1 ⟨rfl, hi, z, rfl⟩
    rw [List.length_map, hl, List.drop_length] at hi
    exact ⟨by show 0 ≤ sizeLine; decide, fun b hb => kk b _ (same_new hb) (by rw [upd_same, hi]; rfl)⟩
def gapC (n u w : Int) : List Chk := [("step", u, 0, n), ("step", w, 0, n)]
def highC (h n l u : Int) : List Chk := [("level", l, 1, h + 1), ("step", u, 0, n)]
def alwC (h n u p w : Int) : List Chk := [("step", u, 0, n), ("rank", p, 0, 2 * h), ("step", w, 0, n)]
theorem chk2 {H : Hp} {r1 r2 : Addr} {e1 e2 : Chk} (h1 : ChkAt H r1 e1) (h2 : ChkAt H r2 e2) : ∀ (i : Nat) r e, [r1, r2][i]? = some r → [e1, e2][i]? = some e → ChkAt H r e := fun i r e a b => by
  match i with
  | 0 => cases a; cases b; exact h1
  | 1 => cases a; cases b; exact h2
  | i + 2 => simp at a
theorem chk3 {H : Hp} {r1 r2 r3 : Addr} {e1 e2 e3 : Chk} (h1 : ChkAt H r1 e1) (h2 : ChkAt H r2 e2) (h3 : ChkAt H r3 e3) : ∀ (i : Nat) r e, [r1, r2, r3][i]? = some r → [e1, e2, e3][i]? = some e → ChkAt H r e := fun i r e a b => by
  match i with
  | 0 => cases a; cases b; exact h1
  | 1 => cases a; cases b; exact h2
  | 2 => cases a; cases b; exact h3
  | i + 3 => simp at a
def spGapDue (K : PySem.W.Frag) : Sp := fun vs H Q _ => ∃ (a : Addr) (ls : List Int) (u w : Int), vs = [.ref a, .int u, .int w] ∧ SqL K H a (ls.map V.int) ∧ ls.length ≤ 1000 ∧ (∀ l ∈ ls, 1 ≤ l) ∧
  ∀ (b : Addr) (H' : Hp), Same H H' → H' b = some (.lst (ansV (gapC ls.length u w) (.int (gapI ls u w)))) → Q (.ref b) H'
theorem ok_gapdue (T : Txt P K mg ζ) : Cal P w K mg base 2 "_law_gap_due" (spGapDue K) := by
  have c_refusal : Cal P w K mg base 1 "_law_refusal" spRef := ok_ref T
  have c_gap : Cal P w K mg base 1 "_law_gap" (spGap K) := ok_gap T
  refine T.d_gap_due.cal sc_gap_due (fun vs H Q E h => ?_) (fun f cdv A outer s H vs Q E hr h => ⟨_, pss_cons (ps_set (i := 3) sc_gap_due.nd rfl (Or.inl rfl) (pe_c c_refusal hr (by first | decide | omega) (by rfl) (pa_cons (pe_lst (pa_cons (pe_lst (pa_cons (pe_str) (pa_cons (pv 1) (pa_cons (pe_int) (pa_cons (pe_callB call_len_seq (by rfl) T.n_len b_len (pa_cons (pv 0) (pa_nil))) (pa_nil)))))) (pa_cons (pe_lst (pa_cons (pe_str) (pa_cons (pv 2) (pa_cons (pe_int) (pa_cons (pe_callB call_len_seq (by rfl) T.n_len b_len (pa_cons (pv 0) (pa_nil))) (pa_nil)))))) (pa_nil)))) (pa_nil))))
 (pss_cons (ps_if (pt_cmpR op_eq (pe_callB call_len_seq (by rfl) T.n_len b_len (pa_cons (pv 3) (pa_nil))) (pe_int) (nomark _))
 (pss_one (ps_set (i := 3) sc_gap_due.nd rfl (Or.inl rfl) (pe_lst (pa_cons (pe_str) (pa_cons (pe_c c_gap hr (by first | decide | omega) (by rfl) (pa_cons (pv 0) (pa_cons (pv 1) (pa_cons (pv 2) (pa_nil))))) (pa_nil))))))
 (pss_nil))
 (pss_one (ps_ret (pv 3)))), ?_⟩)
  · obtain ⟨a, ls, u, w, rfl, _⟩ := h; rfl
  obtain ⟨a, ls, u, w, rfl, hS, hl, hb, kk⟩ := h
  have ll : (ls.map V.int).length = ls.length := List.length_map ..
  refine ⟨_, rfl, _, rfl, a, _, rfl, .inl hS, (by show 4 ≤ sizeLine; decide), fun r1 hr1 => ?_⟩
  have s1 : Same H (upd H r1 (.lst [.str "step", .int u, .int 0, .int (ls.map V.int).length])) := same_new hr1
  refine ⟨_, rfl, _, rfl, a, _, rfl, .inl (s1.seq hS), (by show 4 ≤ sizeLine; decide), fun r2 hr2 => ?_⟩
  have s2 := s1.new (o := .lst [.str "step", .int w, .int 0, .int (ls.map V.int).length]) hr2
  refine ⟨(by show 2 ≤ sizeLine; decide), fun c hc => ?_⟩
  refine ⟨c, [r1, r2], gapC ls.length u w, rfl, upd_same, rfl, chk2 ?_ ?_, fun b H' s3 hb2 => ?_⟩
  · show (upd _ c _) r1 = some (.lst [.str "step", .int u, .int 0, .int ls.length])
    rw [← ll]
    exact (same_new hc) _ _ ((same_new hr2) _ _ upd_same)
  · show (upd _ c _) r2 = some (.lst [.str "step", .int w, .int 0, .int ls.length])
    rw [← ll]
    exact (same_new hc) _ _ upd_same
  have s4 : Same H H' := (s2.new hc).trans s3
  have em : ∀ n : Nat, decide (V.int (n : Int) = V.int 0) = decide (n = 0) := fun n => by simp
  refine ⟨_, rfl, b, _, rfl, .inl (SqL.of hb2), rfl, _, rfl, ?_⟩
  rw [em]
  refine ite2 (fun c0 => ?_) (fun c0 => ?_)
  · have ok := ref_ok (of_decide_eq_true c0)
    have o1 : 0 ≤ u ∧ u ≤ ls.length := ok _ (.head _)
    have o2 : 0 ≤ w ∧ w ≤ ls.length := ok _ (.tail _ (.head _))
    refine ⟨_, rfl, _, rfl, _, rfl, a, ls, u, w, rfl, s4.seq hS, o1, o2, hl, fun g hg => ⟨(by show 2 ≤ sizeLine; decide), fun p hp => ⟨_, rfl, kk p _ (s4.new hp) ?_⟩⟩⟩
    rw [upd_same, ans_ok ok, hg.one (isGap_gapI hb o1.1 o2.1)]
  · have ne : (refV (gapC ls.length u w)).length ≠ 0 := fun q => c0 (decide_eq_true q)
    exact ⟨_, rfl, kk b _ s4 (by rw [hb2, ans_ref ne])⟩
def spLHigh (K : PySem.W.Frag) : Sp := fun vs H Q _ => ∃ (a : Addr) (ls : List Int) (l u : Int), vs = [.ref a, .int l, .int u] ∧ SqL K H a (ls.map V.int) ∧ ls.length ≤ 1000 ∧ (0 ≤ u ∧ u ≤ ls.length) ∧ ∀ H', Same H H' → Q (.int (cn ls l u.toNat)) H'
theorem ok_lhigh (T : Txt P K mg ζ) : Cal P w K mg base 1 "_law_high" (spLHigh K) := by
  refine T.d_high.cal sc_high (fun vs H Q E h => ?_) (fun f cdv A outer s H vs Q E hr h => ⟨_, pss_one (ps_ret (pe_callB call_len_seq (by rfl) T.n_len b_len (pa_cons (pe_lc (own := [("passed", 3)]) (g := gName 3)  rfl sc_high.nd (pi_list (pe_slice sl_list (pv 0) (po_none) (po_some (pv 2)))) (blkOk_by (N := N_high) (sc := defScope s_high) (by decide +kernel)) (fun _ _ _ _ _ => pg_name (i := 3) sc_high.nd rfl (Or.inl rfl)) (fun _ _ _ _ _ => pts_one (pt_cmpR op_ge (pv 3) (pv 1) (nomark _))) (fun _ _ _ _ _ => pv 3)) (pa_nil)))), ?_⟩)
  · obtain ⟨a, ls, u, w, rfl, _⟩ := h; rfl
  obtain ⟨a, ls, l, u, rfl, hS, hl, hu, kk⟩ := h
  have ll : (ls.map V.int).length = ls.length := List.length_map ..
  have ec : cutV (ls.map V.int) none (some u) = (ls.take u.toNat).map V.int := by
    unfold cutV
    rw [ll, sIx_in hu.1 hu.2]
    show ((ls.map V.int).drop 0).take (u.toNat - 0) = _
    rw [List.drop_zero, Nat.sub_zero, List.map_take]
  refine ⟨_, rfl, _, rfl, u, rfl, a, _, rfl, hS, fun p hp => ?_⟩
  rw [ec]
  have s1 : Same H (upd H p (.lst ((ls.take u.toNat).map V.int))) := same_new hp
  have hp1 : (upd H p (.lst ((ls.take u.toNat).map V.int))) p = some (.lst ((ls.take u.toNat).map V.int)) := upd_same
  generalize upd H p (.lst ((ls.take u.toNat).map V.int)) = H1 at s1 hp1 ⊢
  refine ⟨p, rfl, ⟨_, SqL.of hp1⟩, fun D hD => ?_⟩
  refine lc_list (K := K) (a := p) (xs := (ls.take u.toNat).map V.int) (fun i H' => Same H1 H' ∧ H' D = some (.lst ((((ls.take u.toNat).take i).filter fun z => decide (l ≤ z)).map V.int))) ⟨same_new hD, upd_same⟩ (fun i H' _ h => SqL.of (h.1 _ _ hp1)) ?_ ?_
  · rintro i x H2 hx ⟨s2, h2⟩
    obtain ⟨z, ez, rfl⟩ := map_get hx
    have et : (ls.take u.toNat).take (i + 1) = (ls.take u.toNat).take i ++ [z] := by rw [List.take_succ, ez]; rfl
    refine ⟨rfl, _, rfl, _, rfl, _, _, rfl, rfl, _, rfl, ite_b (fun c => ?_) (fun c => ?_)⟩
    · refine ⟨_, rfl, _, h2, ?_, fun b o e => ?_, ?_⟩
      · have := List.length_filter_le (fun z => decide (l ≤ z)) ((ls.take u.toNat).take i)
        rw [List.length_take, List.length_take] at this
        rw [List.length_map, sizeLine_eq]
        omega
      · rw [upd_ne (ne_of_none e hD)]
        exact s2 b o e
      · rw [upd_same, et, List.filter_append, List.map_append, List.filter_cons, List.filter_nil, if_pos c]; rfl
    · refine ⟨s2, ?_⟩
      rw [h2, et, List.filter_append, List.filter_cons, List.filter_nil, if_neg (by rw [c]; decide), List.append_nil]
  · rintro H2 ⟨s2, h2⟩
    rw [List.length_map, List.take_length] at h2
    refine ⟨D, _, rfl, .inl (SqL.of h2), ?_⟩
    rw [List.length_map]
    exact kk _ (s1.trans s2)
def spHighDue (K : PySem.W.Frag) : Sp := fun vs H Q _ => ∃ (a : Addr) (ls : List Int) (h l u : Int), vs = [.ref a, .int h, .int l, .int u] ∧ SqL K H a (ls.map V.int) ∧ ls.length ≤ 1000 ∧ (0 ≤ h ∧ h ≤ 1000) ∧
  ∀ (b : Addr) (H' : Hp), Same H H' → H' b = some (.lst (ansV (highC h ls.length l u) (.int (cn ls l u.toNat)))) → Q (.ref b) H'
theorem ok_highdue (T : Txt P K mg ζ) : Cal P w K mg base 2 "_law_high_due" (spHighDue K) := by
  have c_refusal : Cal P w K mg base 1 "_law_refusal" spRef := ok_ref T
  have c_high : Cal P w K mg base 1 "_law_high" (spLHigh K) := ok_lhigh T
  refine T.d_high_due.cal sc_high_due (fun vs H Q E h => ?_) (fun f cdv A outer s H vs Q E hr h => ⟨_, pss_cons (ps_set (i := 4) sc_high_due.nd rfl (Or.inl rfl) (pe_c c_refusal hr (by first | decide | omega) (by rfl) (pa_cons (pe_lst (pa_cons (pe_lst (pa_cons (pe_str) (pa_cons (pv 2) (pa_cons (pe_int) (pa_cons (pe_op op_add (pv 1) (pe_int)) (pa_nil)))))) (pa_cons (pe_lst (pa_cons (pe_str) (pa_cons (pv 3) (pa_cons (pe_int) (pa_cons (pe_callB call_len_seq (by rfl) T.n_len b_len (pa_cons (pv 0) (pa_nil))) (pa_nil)))))) (pa_nil)))) (pa_nil))))
 (pss_cons (ps_if (pt_cmpR op_eq (pe_callB call_len_seq (by rfl) T.n_len b_len (pa_cons (pv 4) (pa_nil))) (pe_int) (nomark _))
 (pss_one (ps_set (i := 4) sc_high_due.nd rfl (Or.inl rfl) (pe_lst (pa_cons (pe_str) (pa_cons (pe_c c_high hr (by first | decide | omega) (by rfl) (pa_cons (pv 0) (pa_cons (pv 2) (pa_cons (pv 3) (pa_nil))))) (pa_nil))))))
 (pss_nil))
 (pss_one (ps_ret (pv 4)))), ?_⟩)
  · obtain ⟨a, ls, h, u, w, rfl, _⟩ := h; rfl
  obtain ⟨a, ls, h, l, u, rfl, hS, hl, hh, kk⟩ := h
  have ll : (ls.map V.int).length = ls.length := List.length_map ..
  refine ⟨_, rfl, _, rfl, _, _, rfl, rfl, (by show 4 ≤ sizeLine; decide), fun r1 hr1 => ?_⟩
  have s1 := same_new (o := .lst [.str "level", .int l, .int 1, .int (h + 1)]) hr1
  refine ⟨_, rfl, _, rfl, a, _, rfl, .inl (s1.seq hS), (by show 4 ≤ sizeLine; decide), fun r2 hr2 => ?_⟩
  have s2 := s1.new (o := .lst [.str "step", .int u, .int 0, .int (ls.map V.int).length]) hr2
  refine ⟨(by show 2 ≤ sizeLine; decide), fun c hc => ?_⟩
  refine ⟨c, [r1, r2], highC h ls.length l u, rfl, upd_same, rfl, chk2 ?_ ?_, fun b H' s3 hb2 => ?_⟩
  · show (upd _ c _) r1 = some (.lst [.str "level", .int l, .int 1, .int (h + 1)])
    exact (same_new hc) _ _ ((same_new hr2) _ _ upd_same)
  · show (upd _ c _) r2 = some (.lst [.str "step", .int u, .int 0, .int ls.length])
    rw [← ll]
    exact (same_new hc) _ _ upd_same
  have s4 : Same H H' := (s2.new hc).trans s3
  have em : ∀ n : Nat, decide (V.int (n : Int) = V.int 0) = decide (n = 0) := fun n => by simp
  refine ⟨_, rfl, b, _, rfl, .inl (SqL.of hb2), rfl, _, rfl, ?_⟩
  rw [em]
  refine ite2 (fun c0 => ?_) (fun c0 => ?_)
  · have ok := ref_ok (of_decide_eq_true c0)
    have o2 : 0 ≤ u ∧ u ≤ ls.length := ok _ (.tail _ (.head _))
    refine ⟨_, rfl, _, rfl, _, rfl, a, ls, l, u, rfl, s4.seq hS, hl, o2, fun H5 s5 => ⟨(by show 2 ≤ sizeLine; decide), fun p hp => ⟨_, rfl, kk p _ ((s4.trans s5).new hp) ?_⟩⟩⟩
    rw [upd_same, ans_ok ok]
  · have ne : (refV (highC h ls.length l u)).length ≠ 0 := fun q => c0 (decide_eq_true q)
    exact ⟨_, rfl, kk b _ s4 (by rw [hb2, ans_ref ne])⟩
def spAlwDue (K : PySem.W.Frag) : Sp := fun vs H Q _ => ∃ (a : Addr) (ls : List Int) (h u p w : Int), vs = [.ref a, .int h, .int u, .int p, .int w] ∧ SqL K H a (ls.map V.int) ∧ ls.length ≤ 1000 ∧ (0 ≤ h ∧ h ≤ 1000) ∧
  ∀ (b : Addr) (H' : Hp), Same H H' → H' b = some (.lst (ansV (alwC h ls.length u p w) (.bl (alw ls u p w)))) → Q (.ref b) H'
theorem ok_alwdue (T : Txt P K mg ζ) : Cal P w K mg base 3 "_law_allows_due" (spAlwDue K) := by
  have c_refusal : Cal P w K mg base 1 "_law_refusal" spRef := ok_ref T
  have c_allows : Cal P w K mg base 2 "_law_allows" (spLAllows K) := ok_lallows T
  refine T.d_allows_due.cal sc_allows_due (fun vs H Q E h => ?_) (fun f cdv A outer s H vs Q E hr h => ⟨_, pss_cons (ps_set (i := 5) sc_allows_due.nd rfl (Or.inl rfl) (pe_callB call_len_seq (by rfl) T.n_len b_len (pa_cons (pv 0) (pa_nil))))
 (pss_cons (ps_set (i := 6) sc_allows_due.nd rfl (Or.inl rfl) (pe_c c_refusal hr (by first | decide | omega) (by rfl) (pa_cons (pe_lst (pa_cons (pe_lst (pa_cons (pe_str) (pa_cons (pv 2) (pa_cons (pe_int) (pa_cons (pv 5) (pa_nil)))))) (pa_cons (pe_lst (pa_cons (pe_str) (pa_cons (pv 3) (pa_cons (pe_int) (pa_cons (pe_op op_mul (pe_int) (pv 1)) (pa_nil)))))) (pa_cons (pe_lst (pa_cons (pe_str) (pa_cons (pv 4) (pa_cons (pe_int) (pa_cons (pv 5) (pa_nil)))))) (pa_nil))))) (pa_nil))))
 (pss_cons (ps_if (pt_cmpR op_eq (pe_callB call_len_seq (by rfl) T.n_len b_len (pa_cons (pv 6) (pa_nil))) (pe_int) (nomark _))
 (pss_one (ps_set (i := 6) sc_allows_due.nd rfl (Or.inl rfl) (pe_lst (pa_cons (pe_str) (pa_cons (pe_c c_allows hr (by first | decide | omega) (by rfl) (pa_cons (pv 0) (pa_cons (pv 2) (pa_cons (pv 3) (pa_cons (pv 4) (pa_nil)))))) (pa_nil))))))
 (pss_nil))
 (pss_one (ps_ret (pv 6))))), ?_⟩)
  · obtain ⟨a, ls, h, u, p, w, rfl, _⟩ := h; rfl
  obtain ⟨a, ls, h, u, p, w, rfl, hS, hl, hh, kk⟩ := h
  have ll : (ls.map V.int).length = ls.length := List.length_map ..
  refine ⟨_, rfl, a, _, rfl, .inl hS, _, rfl, _, rfl, (by show 4 ≤ sizeLine; decide), fun r1 hr1 => ?_⟩
  have s1 := same_new (o := .lst [.str "step", .int u, .int 0, .int (ls.map V.int).length]) hr1
  refine ⟨_, rfl, _, rfl, _, _, rfl, rfl, .inl ⟨by decide, by decide⟩, (by show 4 ≤ sizeLine; decide), fun r2 hr2 => ?_⟩
  have s2 := s1.new (o := .lst [.str "rank", .int p, .int 0, .int (2 * h)]) hr2
  refine ⟨_, rfl, _, rfl, (by show 4 ≤ sizeLine; decide), fun r3 hr3 => ?_⟩
  have s3 := s2.new (o := .lst [.str "step", .int w, .int 0, .int (ls.map V.int).length]) hr3
  refine ⟨(by show 3 ≤ sizeLine; decide), fun c hc => ?_⟩
  refine ⟨c, [r1, r2, r3], alwC h ls.length u p w, rfl, upd_same, rfl, chk3 ?_ ?_ ?_, fun b H' s5 hb2 => ?_⟩
  · show (upd _ c _) r1 = some (.lst [.str "step", .int u, .int 0, .int ls.length])
    rw [← ll]
    exact (same_new hc) _ _ ((same_new hr3) _ _ ((same_new hr2) _ _ upd_same))
  · show (upd _ c _) r2 = some (.lst [.str "rank", .int p, .int 0, .int (2 * h)])
    exact (same_new hc) _ _ ((same_new hr3) _ _ upd_same)
  · show (upd _ c _) r3 = some (.lst [.str "step", .int w, .int 0, .int ls.length])
    rw [← ll]
    exact (same_new hc) _ _ upd_same
  have s4 : Same H H' := (s3.new hc).trans s5
  have em : ∀ n : Nat, decide (V.int (n : Int) = V.int 0) = decide (n = 0) := fun n => by simp
  refine ⟨_, rfl, b, _, rfl, .inl (SqL.of hb2), rfl, _, rfl, ?_⟩
  rw [em]
  refine ite2 (fun c0 => ?_) (fun c0 => ?_)
  · have ok := ref_ok (of_decide_eq_true c0)
    have o1 : 0 ≤ u ∧ u ≤ ls.length := ok _ (.head _)
    have o2 : 0 ≤ p ∧ p ≤ 2 * h := ok _ (.tail _ (.head _))
    have o3 : 0 ≤ w ∧ w ≤ ls.length := ok _ (.tail _ (.tail _ (.head _)))
    refine ⟨_, rfl, _, rfl, _, rfl, _, rfl, a, ls, u, p, w, rfl, s4.seq hS, o1, o2.1, o3, hl, (by show 2 ≤ sizeLine; decide), fun q hq => ⟨_, rfl, kk q _ (s4.new hq) ?_⟩⟩
    rw [upd_same, ans_ok ok]
  · have ne : (refV (alwC h ls.length u p w)).length ≠ 0 := fun q => c0 (decide_eq_true q)
    exact ⟨_, rfl, kk b _ s4 (by rw [hb2, ans_ref ne])⟩
def spHigh (C : Addr) : Sp := fun vs H Q _ => ∃ (x : Addr) (h : Int) (ls : List Int) (l u : Int), vs = [.ref x, .int l, .int u] ∧ LadderAt C H x h ls ∧ (1 ≤ l ∧ l ≤ h + 1) ∧ (0 ≤ u ∧ u ≤ ls.length) ∧ Q (.int (cn ls l u.toNat)) H
theorem ok_high (T : Txt P K mg ζ) : Met P w K mg base 2 ζ.Ladder "high" (spHigh ζ.Ladder) := by
  have c_check_step : Cal P w K mg base 1 "check_step" spStep := ok_step T
  refine T.mt_L_high.met T.cl_Ladder sc_L_high (fun vs H Q E h => ?_) (fun f cdv A outer s H vs Q E hr h => ⟨_, pss_cons (ps_if (pt_not (pt_chain op_le op_le (pe_int) (pv 1) (pe_op op_add (pe_fld (pv 0) rfl) (pe_int)) ))
 (pss_never)
 (pss_nil))
 (pss_cons (ps_expr (pe_c c_check_step hr (by first | decide | omega) (by rfl) (pa_cons (pe_fld (pv 0) rfl) (pa_cons (pv 2) (pa_nil)))))
 (pss_one (ps_ret (pe_ix ix_tup (pe_ix ix_tup (pe_fld (pv 0) rfl) (pe_op op_sub (pv 1) (pe_int)) (fun _ _ => rfl)) (pv 2) (fun _ _ => rfl))))), ?_⟩)
  · obtain ⟨x, h, ls, p, w, rfl, _⟩ := h; rfl
  obtain ⟨x, h, ls, l, u, rfl, LA, bl, bu, good⟩ := h
  obtain ⟨dx, tl, tc, h1, h2, cs, h3, h4, h5⟩ := id LA
  refine ⟨_, rfl, _, _, rfl, rfl, _, rfl, ?_⟩
  refine ite2 (fun c => ?_) (fun c => absurd (decide_eq_true bl.1) c)
  refine ⟨_, rfl, x, ζ.Ladder, dx, _, _, rfl, h1, T.cl_Ladder, T.na_Ladder_height, rfl, _, _, rfl, rfl, _, _, rfl, rfl, _, rfl, ?_⟩
  refine ite_b (fun c2 => ?_) (fun c2 => ?_)
  · rw [decide_eq_true bl.2] at c2; cases c2
  refine ⟨_, rfl, x, ζ.Ladder, dx, _, _, rfl, h1, T.cl_Ladder, T.na_Ladder_top, rfl, _, rfl, _, u, rfl, bu.1, bu.2, ?_⟩
  have hj : (l - 1).toNat < cs.length := by rw [h4]; omega
  have ej : ((l - 1).toNat : Int) = l - 1 := Int.toNat_of_nonneg (by omega)
  have hc := h5 _ _ (List.getElem?_eq_getElem hj)
  rw [ej, show l - 1 + 1 = l by omega] at hc
  have gu : atI (cnL ls l (ls.length + 1)) u = some (V.int (cn ls l u.toNat)) := by
    have := atI_nat (cnL_get (ls := ls) (lv := l) (n := ls.length + 1) (i := u.toNat) (by omega))
    rwa [Int.toNat_of_nonneg bu.1] at this
  have g1 : atI (cs.map V.ref) (l - 1) = some (V.ref (cs[(l - 1).toNat])) := by
    have := atI_nat (xs := cs.map V.ref) (j := (l - 1).toNat) (v := V.ref (cs[(l - 1).toNat])) (by rw [List.getElem?_map, List.getElem?_eq_getElem hj]; rfl)
    rwa [ej] at this
  exact ⟨_, rfl, x, ζ.Ladder, dx, _, _, rfl, h1, T.cl_Ladder, T.na_Ladder__counts, rfl, _, rfl, _, _, rfl, rfl, tc, _, _, _, rfl, rfl, SqT.of h3, g1, _, rfl, _, _, _, _, rfl, rfl, SqT.of hc, gu, good⟩
end
end LR

set_option Elab.async false
set_option maxRecDepth 100000
set_option linter.all false
set_option maxHeartbeats 4000000
namespace LR
open PySem PySem.Spec PyProof.Rows L2
section
variable {P : Program} {w : World} {K : PySem.W.Frag} {mg : Str → Option Value} {base : Heap} {ζ : Cs}
def spAsk (C : Addr) : Sp := fun vs H Q _ => ∃ (x : Addr) (h : Int) (ls : List Int) (way u w p : Int), vs = [.ref x, .int way, .int u, .int w, .int p] ∧ LadderAt C H x h ls ∧ ls.length ≤ 1000 ∧ u.natAbs < 2 ^ 1900 ∧ w.natAbs < 2 ^ 1900 ∧ p.natAbs < 2 ^ 1900 ∧
  ∀ (b : Addr) (H' : Hp) (xs : List V), Same H H' → H' b = some (.lst xs) → (way = 0 → xs = ansV (gapC ls.length u w) (.int (gapI ls u w))) → (way = 1 → xs = ansV (highC h ls.length u w) (.int (cn ls u w.toNat))) →
    (way ≠ 0 → way ≠ 1 → xs = ansV (alwC h ls.length u w p) (.bl (alw ls u w p))) → Q (.ref b) H'
theorem ok_ask (T : Txt P K mg ζ) : Cal P w K mg base 5 "_law_asked" (spAsk ζ.Ladder) := by
  have cx_L_gap : MetX P w K mg base 4 ζ.Ladder "gap" (spGapX ζ.Ladder ζ.NoSuchStep) := ok_gapX T
  have cx_L_high : MetX P w K mg base 4 ζ.Ladder "high" (spHighX ζ.Ladder ζ.NoSuchStep ζ.NoSuchLevel) := ok_highX T
  have cx_L_allows : MetX P w K mg base 4 ζ.Ladder "allows" (spAllowsX ζ.Ladder ζ.NoSuchStep ζ.NoSuchRank) := ok_allowsX T
  refine T.d_asked.cal sc_asked (fun vs H Q E h => ?_) (fun f cdv A outer s H vs Q E hr h => ⟨_, pss_cons (ps_set (i := 5) sc_asked.nd rfl (Or.inl rfl) (pe_lst (pa_cons (pe_str) (pa_nil))))
 (pss_cut (ps_try_any rfl rfl sc_asked.nd takes0 (fun W pn xe tk _ => pss_one (ps_if (pt_cmpR op_eq (pv 1) (pe_int) (nomark _))
 (pss_one (ps_set (i := 5) sc_asked.nd rfl (Or.inl rfl) (pe_lst (pa_cons (pe_str) (pa_cons (pe_mtT cx_L_gap hr (by first | decide | omega) tk (pv 0) (pa_cons (pv 2) (pa_cons (pv 3) (pa_nil)))) (pa_nil))))))
 (pss_one (ps_if (pt_cmpR op_eq (pv 1) (pe_int) (nomark _))
 (pss_one (ps_set (i := 5) sc_asked.nd rfl (Or.inl rfl) (pe_lst (pa_cons (pe_str) (pa_cons (pe_mtT cx_L_high hr (by first | decide | omega) tk (pv 0) (pa_cons (pv 2) (pa_cons (pv 3) (pa_nil)))) (pa_nil))))))
 (pss_one (ps_set (i := 5) sc_asked.nd rfl (Or.inl rfl) (pe_lst (pa_cons (pe_str) (pa_cons (pe_mtT cx_L_allows hr (by first | decide | omega) tk (pv 0) (pa_cons (pv 2) (pa_cons (pv 3) (pa_cons (pv 4) (pa_nil))))) (pa_nil)))))))))) (ClOk.held (i := 6) rfl rfl ⟨rfl, by decide, .inl T.mg_NoSuchStep⟩ (fun a oe cls d pn hz hf => pss_cons (ps_set (i := 7) sc_asked.nd rfl (Or.inl rfl) (pe_and (pe_callB (call_isX T.objc hz hf) (by rfl) T.n_isinstance b_isinstance (pa_cons (pv 6) (pa_cons (pe_glob (v := .ref ζ.OutOfRange) (by rfl) T.mg_OutOfRange rfl) (pa_nil)))) (pe_and (pe_callB (call_isX T.objc hz hf) (by rfl) T.n_isinstance b_isinstance (pa_cons (pv 6) (pa_cons (pe_glob (v := .ref ζ.LadderreachError) (by rfl) T.mg_LadderreachError rfl) (pa_nil)))) (pe_one (pe_callB (call_isX T.objc hz hf) (by rfl) T.n_isinstance b_isinstance (pa_cons (pv 6) (pa_cons (pe_bltn (v := .ty "ValueError") (by rfl) T.n_ValueError b_ValueError rfl) (pa_nil))))))))
 (pss_one (ps_set (i := 5) sc_asked.nd rfl (Or.inl rfl) (pe_lst (pa_cons (pe_str) (pa_cons (pe_xf T.e_NoSuchStep.X T.e_NoSuchStep.no hz hf (pv 6)) (pa_cons (pv 7) (pa_cons (pe_callB (call_isX T.objc hz hf) (by rfl) T.n_isinstance b_isinstance (pa_cons (pv 6) (pa_cons (pe_tup (pa_cons (pe_glob (v := .ref ζ.NoSuchRank) (by rfl) T.mg_NoSuchRank rfl) (pa_cons (pe_glob (v := .ref ζ.NoSuchLevel) (by rfl) T.mg_NoSuchLevel rfl) (pa_cons (pe_glob (v := .ref ζ.NoSuchNode) (by rfl) T.mg_NoSuchNode rfl) (pa_cons (pe_glob (v := .ref ζ.NoSuchState) (by rfl) T.mg_NoSuchState rfl) (pa_cons (pe_glob (v := .ref ζ.NoSuchLetter) (by rfl) T.mg_NoSuchLetter rfl) (pa_cons (pe_glob (v := .ref ζ.GameError) (by rfl) T.mg_GameError rfl) (pa_nil)))))))) (pa_nil)))) (pa_nil))))))))) (ClOk.held (i := 6) rfl rfl ⟨rfl, by decide, .inl T.mg_NoSuchRank⟩ (fun a oe cls d pn hz hf => pss_cons (ps_set (i := 7) sc_asked.nd rfl (Or.inl rfl) (pe_and (pe_callB (call_isX T.objc hz hf) (by rfl) T.n_isinstance b_isinstance (pa_cons (pv 6) (pa_cons (pe_glob (v := .ref ζ.OutOfRange) (by rfl) T.mg_OutOfRange rfl) (pa_nil)))) (pe_and (pe_callB (call_isX T.objc hz hf) (by rfl) T.n_isinstance b_isinstance (pa_cons (pv 6) (pa_cons (pe_glob (v := .ref ζ.LadderreachError) (by rfl) T.mg_LadderreachError rfl) (pa_nil)))) (pe_one (pe_callB (call_isX T.objc hz hf) (by rfl) T.n_isinstance b_isinstance (pa_cons (pv 6) (pa_cons (pe_bltn (v := .ty "ValueError") (by rfl) T.n_ValueError b_ValueError rfl) (pa_nil))))))))
 (pss_one (ps_set (i := 5) sc_asked.nd rfl (Or.inl rfl) (pe_lst (pa_cons (pe_str) (pa_cons (pe_xf T.e_NoSuchRank.X T.e_NoSuchRank.no hz hf (pv 6)) (pa_cons (pv 7) (pa_cons (pe_callB (call_isX T.objc hz hf) (by rfl) T.n_isinstance b_isinstance (pa_cons (pv 6) (pa_cons (pe_tup (pa_cons (pe_glob (v := .ref ζ.NoSuchStep) (by rfl) T.mg_NoSuchStep rfl) (pa_cons (pe_glob (v := .ref ζ.NoSuchLevel) (by rfl) T.mg_NoSuchLevel rfl) (pa_cons (pe_glob (v := .ref ζ.NoSuchNode) (by rfl) T.mg_NoSuchNode rfl) (pa_cons (pe_glob (v := .ref ζ.NoSuchState) (by rfl) T.mg_NoSuchState rfl) (pa_cons (pe_glob (v := .ref ζ.NoSuchLetter) (by rfl) T.mg_NoSuchLetter rfl) (pa_cons (pe_glob (v := .ref ζ.GameError) (by rfl) T.mg_GameError rfl) (pa_nil)))))))) (pa_nil)))) (pa_nil))))))))) (ClOk.held (i := 6) rfl rfl ⟨rfl, by decide, .inl T.mg_NoSuchLevel⟩ (fun a oe cls d pn hz hf => pss_cons (ps_set (i := 7) sc_asked.nd rfl (Or.inl rfl) (pe_and (pe_callB (call_isX T.objc hz hf) (by rfl) T.n_isinstance b_isinstance (pa_cons (pv 6) (pa_cons (pe_glob (v := .ref ζ.OutOfRange) (by rfl) T.mg_OutOfRange rfl) (pa_nil)))) (pe_and (pe_callB (call_isX T.objc hz hf) (by rfl) T.n_isinstance b_isinstance (pa_cons (pv 6) (pa_cons (pe_glob (v := .ref ζ.LadderreachError) (by rfl) T.mg_LadderreachError rfl) (pa_nil)))) (pe_one (pe_callB (call_isX T.objc hz hf) (by rfl) T.n_isinstance b_isinstance (pa_cons (pv 6) (pa_cons (pe_bltn (v := .ty "ValueError") (by rfl) T.n_ValueError b_ValueError rfl) (pa_nil))))))))
 (pss_one (ps_set (i := 5) sc_asked.nd rfl (Or.inl rfl) (pe_lst (pa_cons (pe_str) (pa_cons (pe_xf T.e_NoSuchLevel.X T.e_NoSuchLevel.no hz hf (pv 6)) (pa_cons (pv 7) (pa_cons (pe_callB (call_isX T.objc hz hf) (by rfl) T.n_isinstance b_isinstance (pa_cons (pv 6) (pa_cons (pe_tup (pa_cons (pe_glob (v := .ref ζ.NoSuchStep) (by rfl) T.mg_NoSuchStep rfl) (pa_cons (pe_glob (v := .ref ζ.NoSuchRank) (by rfl) T.mg_NoSuchRank rfl) (pa_cons (pe_glob (v := .ref ζ.NoSuchNode) (by rfl) T.mg_NoSuchNode rfl) (pa_cons (pe_glob (v := .ref ζ.NoSuchState) (by rfl) T.mg_NoSuchState rfl) (pa_cons (pe_glob (v := .ref ζ.NoSuchLetter) (by rfl) T.mg_NoSuchLetter rfl) (pa_cons (pe_glob (v := .ref ζ.GameError) (by rfl) T.mg_GameError rfl) (pa_nil)))))))) (pa_nil)))) (pa_nil))))))))) (ClOk.bare ⟨rfl, by decide, .inl T.mg_LadderreachError⟩ (fun a oe cls d pn hz hf => pss_one (ps_set (i := 5) sc_asked.nd rfl (Or.inl rfl) (pe_lst (pa_cons (pe_str) (pa_nil))))) (ClOk.nil))))))
 (pss_one (ps_ret (pv 5)))), ?_⟩)
  · obtain ⟨x, h, ls, way, u, w, p, rfl, _⟩ := h; rfl
  obtain ⟨x, h, ls, way, u, w, p, rfl, LA, hl, h1, h2, h3, kk⟩ := h
  obtain ⟨dx, tl, tc, hx, _⟩ := id LA
  refine ⟨(by show 1 ≤ sizeLine; decide), fun b0 hb0 => ?_⟩
  have s1 : Same H (upd H b0 (.lst [.str "other"])) := same_new hb0
  have hx1 := s1 _ _ hx
  have LA1 := LA.same s1
  generalize upd H b0 (.lst [.str "other"]) = H1 at s1 hx1 LA1 ⊢
  refine ⟨fun σ' H' => ∃ (b : Addr) (xs : List V) (z6 z7 : Option V), σ' = [some (.ref x), some (.int way), some (.int u), some (.int w), some (.int p), some (.ref b), z6, z7] ∧ Same H H' ∧ H' b = some (.lst xs) ∧ (way = 0 → xs = ansV (gapC ls.length u w) (.int (gapI ls u w))) ∧ (way = 1 → xs = ansV (highC h ls.length u w) (.int (cn ls u w.toNat))) ∧
    (way ≠ 0 → way ≠ 1 → xs = ansV (alwC h ls.length u w p) (.bl (alw ls u w p))), ?_, ?_⟩
  · have em : ∀ n : Int, decide (V.int way = V.int n) = decide (way = n) := fun n => by simp
    refine ⟨_, rfl, rfl, _, rfl, ?_⟩
    rw [em]
    refine ite2 (fun c0 => ?_) (fun c0 => ?_)
    · have c0 := of_decide_eq_true c0
      refine ⟨_, rfl, x, dx, _, rfl, hx1, rfl, _, rfl, _, rfl, x, h, ls, u, w, rfl, LA1, hl, h1, h2, fun w1 => ?_, fun w1 w2 => ?_, fun w1 w2 H2 s2 => ?_⟩
      · intro d hd
        refine (show wCl _ _ _ _ _ _ _ _ from ⟨true, T.exm_NoSuchStep_NoSuchStep, ⟨fun _ e he => ?_, (fun z => nomatch z)⟩⟩)
        refine ⟨_, rfl, ζ.NoSuchStep, rfl, T.e_NoSuchStep.E, ⟨_, upd_same⟩, .inl ⟨_, _, true, rfl, .own _, T.kit_NoSuchStep_OutOfRange, _, rfl, iteT ?_⟩⟩
        refine ⟨_, rfl, ζ.NoSuchStep, rfl, T.e_NoSuchStep.E, ⟨_, upd_same⟩, .inl ⟨_, _, true, rfl, .own _, T.kit_NoSuchStep_LadderreachError, _, rfl, iteT ?_⟩⟩
        refine ⟨_, rfl, ζ.NoSuchStep, rfl, T.e_NoSuchStep.E, ⟨_, upd_same⟩, .inl ⟨_, _, true, rfl, .ty _, T.kit_NoSuchStep_ValueError, ?_⟩⟩
        refine ⟨_, rfl, rfl, rfl, d, _, _, rfl, upd_same, rfl, _, rfl, _, rfl, by show 6 ≤ sizeLine; decide, fun t ht => ?_⟩
        have nt := ne_of_none upd_same ht
        refine ⟨ζ.NoSuchStep, rfl, T.e_NoSuchStep.E, ⟨_, (upd_ne nt).trans upd_same⟩, .inr ⟨t, _, _, false, rfl, upd_same, .cons (.own _) (.cons (.own _) (.cons (.own _) (.cons (.own _) (.cons (.own _) (.cons (.own _) (.nil)))))), kitAny_cons T.kit_NoSuchStep_NoSuchRank (fun _ => kitAny_cons T.kit_NoSuchStep_NoSuchLevel (fun _ => kitAny_cons T.kit_NoSuchStep_NoSuchNode (fun _ => kitAny_cons T.kit_NoSuchStep_NoSuchState (fun _ => kitAny_cons T.kit_NoSuchStep_NoSuchLetter (fun _ => kitAny_cons T.kit_NoSuchStep_GameError (fun _ => kitAny_nil) (fun z => nomatch z)) (fun z => nomatch z)) (fun z => nomatch z)) (fun z => nomatch z)) (fun z => nomatch z)) (fun z => nomatch z), by show 4 ≤ sizeLine; decide, fun b hb => ?_⟩⟩
        exact ⟨b, _, none, _, rfl, ((s1.trans (same_new hd)).trans (same_new ht)).trans (same_new hb), upd_same, fun _ => (if_neg w1).symm, (fun q => absurd (c0.symm.trans q) (by decide)), (fun q _ => absurd c0 q)⟩
      · intro d hd
        refine (show wCl _ _ _ _ _ _ _ _ from ⟨true, T.exm_NoSuchStep_NoSuchStep, ⟨fun _ e he => ?_, (fun z => nomatch z)⟩⟩)
        refine ⟨_, rfl, ζ.NoSuchStep, rfl, T.e_NoSuchStep.E, ⟨_, upd_same⟩, .inl ⟨_, _, true, rfl, .own _, T.kit_NoSuchStep_OutOfRange, _, rfl, iteT ?_⟩⟩
        refine ⟨_, rfl, ζ.NoSuchStep, rfl, T.e_NoSuchStep.E, ⟨_, upd_same⟩, .inl ⟨_, _, true, rfl, .own _, T.kit_NoSuchStep_LadderreachError, _, rfl, iteT ?_⟩⟩
        refine ⟨_, rfl, ζ.NoSuchStep, rfl, T.e_NoSuchStep.E, ⟨_, upd_same⟩, .inl ⟨_, _, true, rfl, .ty _, T.kit_NoSuchStep_ValueError, ?_⟩⟩
        refine ⟨_, rfl, rfl, rfl, d, _, _, rfl, upd_same, rfl, _, rfl, _, rfl, by show 6 ≤ sizeLine; decide, fun t ht => ?_⟩
        have nt := ne_of_none upd_same ht
        refine ⟨ζ.NoSuchStep, rfl, T.e_NoSuchStep.E, ⟨_, (upd_ne nt).trans upd_same⟩, .inr ⟨t, _, _, false, rfl, upd_same, .cons (.own _) (.cons (.own _) (.cons (.own _) (.cons (.own _) (.cons (.own _) (.cons (.own _) (.nil)))))), kitAny_cons T.kit_NoSuchStep_NoSuchRank (fun _ => kitAny_cons T.kit_NoSuchStep_NoSuchLevel (fun _ => kitAny_cons T.kit_NoSuchStep_NoSuchNode (fun _ => kitAny_cons T.kit_NoSuchStep_NoSuchState (fun _ => kitAny_cons T.kit_NoSuchStep_NoSuchLetter (fun _ => kitAny_cons T.kit_NoSuchStep_GameError (fun _ => kitAny_nil) (fun z => nomatch z)) (fun z => nomatch z)) (fun z => nomatch z)) (fun z => nomatch z)) (fun z => nomatch z)) (fun z => nomatch z), by show 4 ≤ sizeLine; decide, fun b hb => ?_⟩⟩
        exact ⟨b, _, none, _, rfl, ((s1.trans (same_new hd)).trans (same_new ht)).trans (same_new hb), upd_same, fun _ => ((if_pos w1).trans (if_neg w2)).symm, (fun q => absurd (c0.symm.trans q) (by decide)), (fun q _ => absurd c0 q)⟩
      · exact ⟨by show 2 ≤ sizeLine; decide, fun b hb => ⟨b, _, none, _, rfl, (s1.trans s2).trans (same_new hb), upd_same, fun _ => ((if_pos w1).trans (if_pos w2)).symm, (fun q => absurd (c0.symm.trans q) (by decide)), (fun q _ => absurd c0 q)⟩⟩
    · have c0 : ¬ way = 0 := fun q => c0 (decide_eq_true q)
      refine ⟨_, rfl, rfl, _, rfl, ?_⟩
      rw [em]
      refine ite2 (fun c1 => ?_) (fun c1 => ?_)
      · have c1 := of_decide_eq_true c1
        refine ⟨_, rfl, x, dx, _, rfl, hx1, rfl, _, rfl, _, rfl, x, h, ls, u, w, rfl, LA1, hl, h1, h2, fun w1 => ?_, fun w1 w2 => ?_, fun w1 w2 => ?_⟩
        · intro d hd
          refine (show wCl _ _ _ _ _ _ _ _ from ⟨false, T.exm_NoSuchLevel_NoSuchStep, ⟨(fun z => nomatch z), fun _ => ⟨false, T.exm_NoSuchLevel_NoSuchRank, ⟨(fun z => nomatch z), fun _ => ⟨true, T.exm_NoSuchLevel_NoSuchLevel, ⟨fun _ e he => ?_, (fun z => nomatch z)⟩⟩⟩⟩⟩⟩)
          refine ⟨_, rfl, ζ.NoSuchLevel, rfl, T.e_NoSuchLevel.E, ⟨_, upd_same⟩, .inl ⟨_, _, true, rfl, .own _, T.kit_NoSuchLevel_OutOfRange, _, rfl, iteT ?_⟩⟩
          refine ⟨_, rfl, ζ.NoSuchLevel, rfl, T.e_NoSuchLevel.E, ⟨_, upd_same⟩, .inl ⟨_, _, true, rfl, .own _, T.kit_NoSuchLevel_LadderreachError, _, rfl, iteT ?_⟩⟩
          refine ⟨_, rfl, ζ.NoSuchLevel, rfl, T.e_NoSuchLevel.E, ⟨_, upd_same⟩, .inl ⟨_, _, true, rfl, .ty _, T.kit_NoSuchLevel_ValueError, ?_⟩⟩
          refine ⟨_, rfl, rfl, rfl, d, _, _, rfl, upd_same, rfl, _, rfl, _, rfl, by show 6 ≤ sizeLine; decide, fun t ht => ?_⟩
          have nt := ne_of_none upd_same ht
          refine ⟨ζ.NoSuchLevel, rfl, T.e_NoSuchLevel.E, ⟨_, (upd_ne nt).trans upd_same⟩, .inr ⟨t, _, _, false, rfl, upd_same, .cons (.own _) (.cons (.own _) (.cons (.own _) (.cons (.own _) (.cons (.own _) (.cons (.own _) (.nil)))))), kitAny_cons T.kit_NoSuchLevel_NoSuchStep (fun _ => kitAny_cons T.kit_NoSuchLevel_NoSuchRank (fun _ => kitAny_cons T.kit_NoSuchLevel_NoSuchNode (fun _ => kitAny_cons T.kit_NoSuchLevel_NoSuchState (fun _ => kitAny_cons T.kit_NoSuchLevel_NoSuchLetter (fun _ => kitAny_cons T.kit_NoSuchLevel_GameError (fun _ => kitAny_nil) (fun z => nomatch z)) (fun z => nomatch z)) (fun z => nomatch z)) (fun z => nomatch z)) (fun z => nomatch z)) (fun z => nomatch z), by show 4 ≤ sizeLine; decide, fun b hb => ?_⟩⟩
          exact ⟨b, _, none, _, rfl, ((s1.trans (same_new hd)).trans (same_new ht)).trans (same_new hb), upd_same, (fun q => absurd q c0), (fun _ => (if_neg w1).symm), (fun _ q => absurd c1 q)⟩
        · intro d hd
          refine (show wCl _ _ _ _ _ _ _ _ from ⟨true, T.exm_NoSuchStep_NoSuchStep, ⟨fun _ e he => ?_, (fun z => nomatch z)⟩⟩)
          refine ⟨_, rfl, ζ.NoSuchStep, rfl, T.e_NoSuchStep.E, ⟨_, upd_same⟩, .inl ⟨_, _, true, rfl, .own _, T.kit_NoSuchStep_OutOfRange, _, rfl, iteT ?_⟩⟩
          refine ⟨_, rfl, ζ.NoSuchStep, rfl, T.e_NoSuchStep.E, ⟨_, upd_same⟩, .inl ⟨_, _, true, rfl, .own _, T.kit_NoSuchStep_LadderreachError, _, rfl, iteT ?_⟩⟩
          refine ⟨_, rfl, ζ.NoSuchStep, rfl, T.e_NoSuchStep.E, ⟨_, upd_same⟩, .inl ⟨_, _, true, rfl, .ty _, T.kit_NoSuchStep_ValueError, ?_⟩⟩
          refine ⟨_, rfl, rfl, rfl, d, _, _, rfl, upd_same, rfl, _, rfl, _, rfl, by show 6 ≤ sizeLine; decide, fun t ht => ?_⟩
          have nt := ne_of_none upd_same ht
          refine ⟨ζ.NoSuchStep, rfl, T.e_NoSuchStep.E, ⟨_, (upd_ne nt).trans upd_same⟩, .inr ⟨t, _, _, false, rfl, upd_same, .cons (.own _) (.cons (.own _) (.cons (.own _) (.cons (.own _) (.cons (.own _) (.cons (.own _) (.nil)))))), kitAny_cons T.kit_NoSuchStep_NoSuchRank (fun _ => kitAny_cons T.kit_NoSuchStep_NoSuchLevel (fun _ => kitAny_cons T.kit_NoSuchStep_NoSuchNode (fun _ => kitAny_cons T.kit_NoSuchStep_NoSuchState (fun _ => kitAny_cons T.kit_NoSuchStep_NoSuchLetter (fun _ => kitAny_cons T.kit_NoSuchStep_GameError (fun _ => kitAny_nil) (fun z => nomatch z)) (fun z => nomatch z)) (fun z => nomatch z)) (fun z => nomatch z)) (fun z => nomatch z)) (fun z => nomatch z), by show 4 ≤ sizeLine; decide, fun b hb => ?_⟩⟩
          exact ⟨b, _, none, _, rfl, ((s1.trans (same_new hd)).trans (same_new ht)).trans (same_new hb), upd_same, (fun q => absurd q c0), (fun _ => ((if_pos w1).trans (if_neg w2)).symm), (fun _ q => absurd c1 q)⟩
        · exact ⟨by show 2 ≤ sizeLine; decide, fun b hb => ⟨b, _, none, _, rfl, s1.trans (same_new hb), upd_same, (fun q => absurd q c0), (fun _ => ((if_pos w1).trans (if_pos w2)).symm), (fun _ q => absurd c1 q)⟩⟩
      · have c1 : ¬ way = 1 := fun q => c1 (decide_eq_true q)
        refine ⟨_, rfl, x, dx, _, rfl, hx1, rfl, _, rfl, _, rfl, _, rfl, x, h, ls, u, w, p, rfl, LA1, hl, h1, h2, h3, fun w1 => ?_, fun w1 w2 => ?_, fun w1 w2 w3 => ?_, fun w1 w2 w3 => ?_⟩
        · intro d hd
          refine (show wCl _ _ _ _ _ _ _ _ from ⟨true, T.exm_NoSuchStep_NoSuchStep, ⟨fun _ e he => ?_, (fun z => nomatch z)⟩⟩)
          refine ⟨_, rfl, ζ.NoSuchStep, rfl, T.e_NoSuchStep.E, ⟨_, upd_same⟩, .inl ⟨_, _, true, rfl, .own _, T.kit_NoSuchStep_OutOfRange, _, rfl, iteT ?_⟩⟩
          refine ⟨_, rfl, ζ.NoSuchStep, rfl, T.e_NoSuchStep.E, ⟨_, upd_same⟩, .inl ⟨_, _, true, rfl, .own _, T.kit_NoSuchStep_LadderreachError, _, rfl, iteT ?_⟩⟩
          refine ⟨_, rfl, ζ.NoSuchStep, rfl, T.e_NoSuchStep.E, ⟨_, upd_same⟩, .inl ⟨_, _, true, rfl, .ty _, T.kit_NoSuchStep_ValueError, ?_⟩⟩
          refine ⟨_, rfl, rfl, rfl, d, _, _, rfl, upd_same, rfl, _, rfl, _, rfl, by show 6 ≤ sizeLine; decide, fun t ht => ?_⟩
          have nt := ne_of_none upd_same ht
          refine ⟨ζ.NoSuchStep, rfl, T.e_NoSuchStep.E, ⟨_, (upd_ne nt).trans upd_same⟩, .inr ⟨t, _, _, false, rfl, upd_same, .cons (.own _) (.cons (.own _) (.cons (.own _) (.cons (.own _) (.cons (.own _) (.cons (.own _) (.nil)))))), kitAny_cons T.kit_NoSuchStep_NoSuchRank (fun _ => kitAny_cons T.kit_NoSuchStep_NoSuchLevel (fun _ => kitAny_cons T.kit_NoSuchStep_NoSuchNode (fun _ => kitAny_cons T.kit_NoSuchStep_NoSuchState (fun _ => kitAny_cons T.kit_NoSuchStep_NoSuchLetter (fun _ => kitAny_cons T.kit_NoSuchStep_GameError (fun _ => kitAny_nil) (fun z => nomatch z)) (fun z => nomatch z)) (fun z => nomatch z)) (fun z => nomatch z)) (fun z => nomatch z)) (fun z => nomatch z), by show 4 ≤ sizeLine; decide, fun b hb => ?_⟩⟩
          exact ⟨b, _, none, _, rfl, ((s1.trans (same_new hd)).trans (same_new ht)).trans (same_new hb), upd_same, (fun q => absurd q c0), (fun q => absurd q c1), (fun _ _ => (if_neg w1).symm)⟩
        · intro d hd
          refine (show wCl _ _ _ _ _ _ _ _ from ⟨false, T.exm_NoSuchRank_NoSuchStep, ⟨(fun z => nomatch z), fun _ => ⟨true, T.exm_NoSuchRank_NoSuchRank, ⟨fun _ e he => ?_, (fun z => nomatch z)⟩⟩⟩⟩)
          refine ⟨_, rfl, ζ.NoSuchRank, rfl, T.e_NoSuchRank.E, ⟨_, upd_same⟩, .inl ⟨_, _, true, rfl, .own _, T.kit_NoSuchRank_OutOfRange, _, rfl, iteT ?_⟩⟩
          refine ⟨_, rfl, ζ.NoSuchRank, rfl, T.e_NoSuchRank.E, ⟨_, upd_same⟩, .inl ⟨_, _, true, rfl, .own _, T.kit_NoSuchRank_LadderreachError, _, rfl, iteT ?_⟩⟩
          refine ⟨_, rfl, ζ.NoSuchRank, rfl, T.e_NoSuchRank.E, ⟨_, upd_same⟩, .inl ⟨_, _, true, rfl, .ty _, T.kit_NoSuchRank_ValueError, ?_⟩⟩
          refine ⟨_, rfl, rfl, rfl, d, _, _, rfl, upd_same, rfl, _, rfl, _, rfl, by show 6 ≤ sizeLine; decide, fun t ht => ?_⟩
          have nt := ne_of_none upd_same ht
          refine ⟨ζ.NoSuchRank, rfl, T.e_NoSuchRank.E, ⟨_, (upd_ne nt).trans upd_same⟩, .inr ⟨t, _, _, false, rfl, upd_same, .cons (.own _) (.cons (.own _) (.cons (.own _) (.cons (.own _) (.cons (.own _) (.cons (.own _) (.nil)))))), kitAny_cons T.kit_NoSuchRank_NoSuchStep (fun _ => kitAny_cons T.kit_NoSuchRank_NoSuchLevel (fun _ => kitAny_cons T.kit_NoSuchRank_NoSuchNode (fun _ => kitAny_cons T.kit_NoSuchRank_NoSuchState (fun _ => kitAny_cons T.kit_NoSuchRank_NoSuchLetter (fun _ => kitAny_cons T.kit_NoSuchRank_GameError (fun _ => kitAny_nil) (fun z => nomatch z)) (fun z => nomatch z)) (fun z => nomatch z)) (fun z => nomatch z)) (fun z => nomatch z)) (fun z => nomatch z), by show 4 ≤ sizeLine; decide, fun b hb => ?_⟩⟩
          exact ⟨b, _, none, _, rfl, ((s1.trans (same_new hd)).trans (same_new ht)).trans (same_new hb), upd_same, (fun q => absurd q c0), (fun q => absurd q c1), (fun _ _ => ((if_pos w1).trans (if_neg w2)).symm)⟩
        · intro d hd
          refine (show wCl _ _ _ _ _ _ _ _ from ⟨true, T.exm_NoSuchStep_NoSuchStep, ⟨fun _ e he => ?_, (fun z => nomatch z)⟩⟩)
          refine ⟨_, rfl, ζ.NoSuchStep, rfl, T.e_NoSuchStep.E, ⟨_, upd_same⟩, .inl ⟨_, _, true, rfl, .own _, T.kit_NoSuchStep_OutOfRange, _, rfl, iteT ?_⟩⟩
          refine ⟨_, rfl, ζ.NoSuchStep, rfl, T.e_NoSuchStep.E, ⟨_, upd_same⟩, .inl ⟨_, _, true, rfl, .own _, T.kit_NoSuchStep_LadderreachError, _, rfl, iteT ?_⟩⟩
          refine ⟨_, rfl, ζ.NoSuchStep, rfl, T.e_NoSuchStep.E, ⟨_, upd_same⟩, .inl ⟨_, _, true, rfl, .ty _, T.kit_NoSuchStep_ValueError, ?_⟩⟩
          refine ⟨_, rfl, rfl, rfl, d, _, _, rfl, upd_same, rfl, _, rfl, _, rfl, by show 6 ≤ sizeLine; decide, fun t ht => ?_⟩
          have nt := ne_of_none upd_same ht
          refine ⟨ζ.NoSuchStep, rfl, T.e_NoSuchStep.E, ⟨_, (upd_ne nt).trans upd_same⟩, .inr ⟨t, _, _, false, rfl, upd_same, .cons (.own _) (.cons (.own _) (.cons (.own _) (.cons (.own _) (.cons (.own _) (.cons (.own _) (.nil)))))), kitAny_cons T.kit_NoSuchStep_NoSuchRank (fun _ => kitAny_cons T.kit_NoSuchStep_NoSuchLevel (fun _ => kitAny_cons T.kit_NoSuchStep_NoSuchNode (fun _ => kitAny_cons T.kit_NoSuchStep_NoSuchState (fun _ => kitAny_cons T.kit_NoSuchStep_NoSuchLetter (fun _ => kitAny_cons T.kit_NoSuchStep_GameError (fun _ => kitAny_nil) (fun z => nomatch z)) (fun z => nomatch z)) (fun z => nomatch z)) (fun z => nomatch z)) (fun z => nomatch z)) (fun z => nomatch z), by show 4 ≤ sizeLine; decide, fun b hb => ?_⟩⟩
          exact ⟨b, _, none, _, rfl, ((s1.trans (same_new hd)).trans (same_new ht)).trans (same_new hb), upd_same, (fun q => absurd q c0), (fun q => absurd q c1), (fun _ _ => ((if_pos w1).trans ((if_pos w2).trans (if_neg w3))).symm)⟩
        · exact ⟨by show 2 ≤ sizeLine; decide, fun b hb => ⟨b, _, none, _, rfl, s1.trans (same_new hb), upd_same, (fun q => absurd q c0), (fun q => absurd q c1), (fun _ _ => ((if_pos w1).trans ((if_pos w2).trans (if_pos w3))).symm)⟩⟩
  · rintro σ' H' ⟨b, xs, z6, z7, rfl, s2, hb, a1, a2, a3⟩
    exact ⟨_, rfl, kk b H' xs s2 hb a1 a2 a3⟩
end
end LR

set_option Elab.async false
set_option maxRecDepth 100000
set_option linter.all false
set_option maxHeartbeats 4000000
namespace LR
open PySem PySem.Spec PyProof.Rows L2
section
variable {P : Program} {w : World} {K : PySem.W.Frag} {mg : Str → Option Value} {base : Heap} {ζ : Cs}
def spAgree (C : Addr) (K : PySem.W.Frag) : Sp := fun vs H Q _ => ∃ (x a : Addr) (h : Int) (ls : List Int) (u p w : Int), vs = [.ref x, .ref a, .int u, .int p, .int w] ∧ LadderAt C H x h ls ∧ SqL K H a (ls.map V.int) ∧ ls.length ≤ 1000 ∧ (0 ≤ u ∧ u ≤ ls.length) ∧ (0 ≤ p ∧ p ≤ 2 * h) ∧ (0 ≤ w ∧ w ≤ ls.length) ∧ ∀ H', Same H H' → Q (.bl true) H'
theorem ok_agree (T : Txt P K mg ζ) : Cal P w K mg base 4 "_law_highs_agree" (spAgree ζ.Ladder K) := by
  have c_L_high : Met P w K mg base 2 ζ.Ladder "high" (spHigh ζ.Ladder) := ok_high T
  have c_high : Cal P w K mg base 1 "_law_high" (spLHigh K) := ok_lhigh T
  have c_same : Cal P w K mg base 3 "_law_same" (spSame 1) := ok_same T 1
  have c_allows : Cal P w K mg base 2 "_law_allows" (spLAllows K) := ok_lallows T
  refine T.d_highs_agree.cal sc_highs_agree (fun vs H Q E h => ?_) (fun f cdv A outer s H vs Q E hr h => ⟨_, pss_cons (ps_set (i := 5) sc_highs_agree.nd rfl (Or.inl rfl) (pe_op op_fdiv (pe_op op_add (pv 3) (pe_int)) (pe_int)))
 (pss_cons (ps_set (i := 6) sc_highs_agree.nd rfl (Or.inl rfl) (pe_mt c_L_high hr (by first | decide | omega) (pv 0) (pa_cons (pv 5) (pa_cons (pv 2) (pa_nil)))))
 (pss_cons (ps_set (i := 7) sc_highs_agree.nd rfl (Or.inl rfl) (pe_mt c_L_high hr (by first | decide | omega) (pv 0) (pa_cons (pv 5) (pa_cons (pv 4) (pa_nil)))))
 (pss_cons (ps_if (PW.pt (pw_or (pt_not (pt_val (pe_c c_same hr (by first | decide | omega) (by rfl) (pa_cons (pv 6) (pa_cons (pe_c c_high hr (by first | decide | omega) (by rfl) (pa_cons (pv 1) (pa_cons (pv 5) (pa_cons (pv 2) (pa_nil))))) (pa_nil)))))) (pw_or1 (pt_not (pt_val (pe_c c_same hr (by first | decide | omega) (by rfl) (pa_cons (pv 7) (pa_cons (pe_c c_high hr (by first | decide | omega) (by rfl) (pa_cons (pv 1) (pa_cons (pv 5) (pa_cons (pv 4) (pa_nil))))) (pa_nil)))))))))
 (pss_one (ps_ret (pe_bl)))
 (pss_nil))
 (pss_cons (ps_if (pt_cmpR op_eq (pe_op op_mod (pe_callTy call_int1 (by rfl) T.n_int b_int (pa_cons (pv 3) (pa_nil))) (pe_int)) (pe_int) (nomark _))
 (pss_one (ps_ret (pe_cmpR op_eq (pe_cmpR op_ge (pv 6) (pv 7) (nomark _)) (pe_c c_allows hr (by first | decide | omega) (by rfl) (pa_cons (pv 1) (pa_cons (pv 2) (pa_cons (pv 3) (pa_cons (pv 4) (pa_nil)))))) (nomark _))))
 (pss_nil))
 (pss_one (ps_ret (pe_cmpR op_eq (pe_cmpR op_gt (pv 6) (pv 7) (nomark _)) (pe_c c_allows hr (by first | decide | omega) (by rfl) (pa_cons (pv 1) (pa_cons (pv 2) (pa_cons (pv 3) (pa_cons (pv 4) (pa_nil)))))) (nomark _)))))))), ?_⟩)
  · obtain ⟨x, a, h, ls, u, p, w, rfl, _⟩ := h; rfl
  obtain ⟨x, a, h, ls, u, p, w, rfl, LA, hS, hl, bu, bp, bw, kk⟩ := h
  obtain ⟨dx, tl, tc, h1, _⟩ := id LA
  have bl : 1 ≤ (p + 2) / 2 ∧ (p + 2) / 2 ≤ h + 1 := ⟨by omega, by omega⟩
  have d1 : ∀ n : Int, dep (.int n) < 1 := fun _ => Nat.lt_of_le_of_lt (Nat.le_refl 0) (by decide)
  refine ⟨_, rfl, _, _, rfl, rfl, _, _, rfl, rfl, ⟨by decide, by decide⟩, ?_⟩
  refine ⟨_, rfl, x, dx, _, rfl, h1, rfl, _, rfl, _, rfl, x, h, ls, _, u, rfl, LA, bl, bu, ?_⟩
  refine ⟨_, rfl, x, dx, _, rfl, h1, rfl, _, rfl, _, rfl, x, h, ls, _, w, rfl, LA, bl, bw, ?_⟩
  refine ⟨_, rfl, _, rfl, _, rfl, _, rfl, a, ls, _, u, rfl, hS, hl, bu, fun H1 s1 => ⟨_, _, _, _, rfl, .int _, .int _, d1 _, fun b hb => ⟨_, rfl, ?_⟩⟩⟩
  rw [hb.mpr rfl]
  refine iteF ⟨_, rfl, _, rfl, _, rfl, _, rfl, a, ls, _, w, rfl, s1.seq hS, hl, bw, fun H2 s2 => ⟨_, _, _, _, rfl, .int _, .int _, d1 _, fun b hb => ⟨_, rfl, ?_⟩⟩⟩
  rw [hb.mpr rfl]
  have s3 := s1.trans s2
  have e2 : (p + 2) / 2 = p / 2 + 1 := by omega
  refine iteF ⟨_, rfl, .inl ⟨p, rfl, _, _, rfl, rfl, (by show (0:Int) < _; decide), rfl, _, rfl, ?_⟩⟩
  have em : decide (V.int (p % 2) = V.int 0) = decide (p % 2 = 0) := by simp
  rw [em, e2]
  refine ite2 (fun c => ?_) (fun c => ?_)
  · have c := of_decide_eq_true c
    refine ⟨_, rfl, _, rfl, _, _, rfl, rfl, _, rfl, _, rfl, _, rfl, _, rfl, a, ls, u, p, w, rfl, s3.seq hS, bu, bp.1, bw, hl, rfl, ?_⟩
    have e : decide (V.bl (decide (cn ls (p / 2 + 1) w.toNat ≤ cn ls (p / 2 + 1) u.toNat)) = V.bl (alw ls u p w)) = true := by
      unfold alw; rw [if_pos c]; exact decide_eq_true rfl
    show Q (.bl (decide (V.bl (decide (cn ls (p / 2 + 1) w.toNat ≤ cn ls (p / 2 + 1) u.toNat)) = V.bl (alw ls u p w)))) H2
    rw [e]
    exact kk _ s3
  · have c : ¬ p % 2 = 0 := fun q => c (decide_eq_true q)
    refine ⟨_, rfl, _, rfl, _, _, rfl, rfl, _, rfl, _, rfl, _, rfl, _, rfl, a, ls, u, p, w, rfl, s3.seq hS, bu, bp.1, bw, hl, rfl, ?_⟩
    have e : decide (V.bl (decide (cn ls (p / 2 + 1) w.toNat < cn ls (p / 2 + 1) u.toNat)) = V.bl (alw ls u p w)) = true := by
      unfold alw; rw [if_neg c]; exact decide_eq_true rfl
    show Q (.bl (decide (V.bl (decide (cn ls (p / 2 + 1) w.toNat < cn ls (p / 2 + 1) u.toNat)) = V.bl (alw ls u p w)))) H2
    rw [e]
    exact kk _ s3
end
end LR

set_option Elab.async false
set_option maxRecDepth 100000
set_option linter.all false
set_option maxHeartbeats 4000000
namespace LR
open PySem PySem.Spec PyProof.Rows L2
section
variable {P : Program} {w : World} {K : PySem.W.Frag} {mg : Str → Option Value} {base : Heap} {ζ : Cs}
def spTurn (C : Addr) : Sp := fun vs H Q _ => ∃ (x a r : Addr) (h : Int) (ls : List Int) (u w p l : Int), vs = [.ref x, .ref a, .int h, .ref r] ∧ LadderAt C H x h ls ∧ H a = some (.lst (ls.map V.int)) ∧ ls.length ≤ 1000 ∧ (0 ≤ h ∧ h ≤ 1000) ∧ (∀ l ∈ ls, 1 ≤ l) ∧ H r = some (.lst [.int u, .int w, .int p, .int l]) ∧
  (u.natAbs < 2 ^ 1900 ∧ w.natAbs < 2 ^ 1900 ∧ p.natAbs < 2 ^ 1900 ∧ l.natAbs < 2 ^ 1900) ∧ ∀ H', Same H H' → Q (.bl true) H'
theorem ok_turn (T : Txt P K mg ζ) : Cal P w K mg base 6 "_law_turn" (spTurn ζ.Ladder) := by
  have c_asked : Cal P w K mg base 5 "_law_asked" (spAsk ζ.Ladder) := ok_ask T
  have c_gap_due : Cal P w K mg base 2 "_law_gap_due" (spGapDue K) := ok_gapdue T
  have c_high_due : Cal P w K mg base 2 "_law_high_due" (spHighDue K) := ok_highdue T
  have c_allows_due : Cal P w K mg base 3 "_law_allows_due" (spAlwDue K) := ok_alwdue T
  have c_highs_agree : Cal P w K mg base 4 "_law_highs_agree" (spAgree ζ.Ladder K) := ok_agree T
  have c_same : Cal P w K mg base 4 "_law_same" (spSame 2) := ok_same T 2
  refine T.d_turn.cal sc_turn (fun vs H Q E h => ?_) (fun f cdv A outer s H vs Q E hr h => ⟨_, pss_cons (ps_asg (pv 3) (pg_lst rfl (pgs_cons (pg_name (i := 4) sc_turn.nd rfl (Or.inl rfl)) (pgs_cons (pg_name (i := 5) sc_turn.nd rfl (Or.inl rfl)) (pgs_cons (pg_name (i := 6) sc_turn.nd rfl (Or.inl rfl)) (pgs_cons (pg_name (i := 7) sc_turn.nd rfl (Or.inl rfl)) (pgs_nil)))))))
 (pss_cons (ps_if (pt_not (pt_val (pe_c c_same hr (by first | decide | omega) (by rfl) (pa_cons (pe_c c_asked hr (by first | decide | omega) (by rfl) (pa_cons (pv 0) (pa_cons (pe_int) (pa_cons (pv 4) (pa_cons (pv 5) (pa_cons (pe_int) (pa_nil))))))) (pa_cons (pe_c c_gap_due hr (by first | decide | omega) (by rfl) (pa_cons (pv 1) (pa_cons (pv 4) (pa_cons (pv 5) (pa_nil))))) (pa_nil))))))
 (pss_one (ps_ret (pe_bl)))
 (pss_nil))
 (pss_cons (ps_if (pt_not (pt_val (pe_c c_same hr (by first | decide | omega) (by rfl) (pa_cons (pe_c c_asked hr (by first | decide | omega) (by rfl) (pa_cons (pv 0) (pa_cons (pe_int) (pa_cons (pv 5) (pa_cons (pv 4) (pa_cons (pe_int) (pa_nil))))))) (pa_cons (pe_c c_gap_due hr (by first | decide | omega) (by rfl) (pa_cons (pv 1) (pa_cons (pv 5) (pa_cons (pv 4) (pa_nil))))) (pa_nil))))))
 (pss_one (ps_ret (pe_bl)))
 (pss_nil))
 (pss_cons (ps_if (pt_not (pt_val (pe_c c_same hr (by first | decide | omega) (by rfl) (pa_cons (pe_c c_asked hr (by first | decide | omega) (by rfl) (pa_cons (pv 0) (pa_cons (pe_int) (pa_cons (pv 7) (pa_cons (pv 4) (pa_cons (pe_int) (pa_nil))))))) (pa_cons (pe_c c_high_due hr (by first | decide | omega) (by rfl) (pa_cons (pv 1) (pa_cons (pv 2) (pa_cons (pv 7) (pa_cons (pv 4) (pa_nil)))))) (pa_nil))))))
 (pss_one (ps_ret (pe_bl)))
 (pss_nil))
 (pss_cons (ps_if (pt_not (pt_val (pe_c c_same hr (by first | decide | omega) (by rfl) (pa_cons (pe_c c_asked hr (by first | decide | omega) (by rfl) (pa_cons (pv 0) (pa_cons (pe_int) (pa_cons (pv 7) (pa_cons (pv 5) (pa_cons (pe_int) (pa_nil))))))) (pa_cons (pe_c c_high_due hr (by first | decide | omega) (by rfl) (pa_cons (pv 1) (pa_cons (pv 2) (pa_cons (pv 7) (pa_cons (pv 5) (pa_nil)))))) (pa_nil))))))
 (pss_one (ps_ret (pe_bl)))
 (pss_nil))
 (pss_cons (ps_set (i := 8) sc_turn.nd rfl (Or.inl rfl) (pe_c c_allows_due hr (by first | decide | omega) (by rfl) (pa_cons (pv 1) (pa_cons (pv 2) (pa_cons (pv 4) (pa_cons (pv 6) (pa_cons (pv 5) (pa_nil))))))))
 (pss_cons (ps_if (pt_not (pt_val (pe_c c_same hr (by first | decide | omega) (by rfl) (pa_cons (pe_c c_asked hr (by first | decide | omega) (by rfl) (pa_cons (pv 0) (pa_cons (pe_int) (pa_cons (pv 4) (pa_cons (pv 6) (pa_cons (pv 5) (pa_nil))))))) (pa_cons (pv 8) (pa_nil))))))
 (pss_one (ps_ret (pe_bl)))
 (pss_nil))
 (pss_cons (ps_if (pt_cmpR op_eq (pe_ix ix_list (pv 8) (pe_int) (fun _ _ => rfl)) (pe_str) (nomark _))
 (pss_one (ps_ret (pe_c c_highs_agree hr (by first | decide | omega) (by rfl) (pa_cons (pv 0) (pa_cons (pv 1) (pa_cons (pv 4) (pa_cons (pv 6) (pa_cons (pv 5) (pa_nil)))))))))
 (pss_nil))
 (pss_one (ps_ret (pe_bl)))))))))), ?_⟩)
  · obtain ⟨x, a, r, h, ls, u, w, p, l, rfl, _⟩ := h; rfl
  obtain ⟨x, a, r, h, ls, u, w, p, l, rfl, LA, ha, hl, hh, hb, hr1, ⟨b1, b2, b3, b4⟩, kk⟩ := h
  refine ⟨_, rfl, r, _, rfl, SqL.of hr1, rfl, _, _, rfl, _, _, rfl, _, _, rfl, _, _, rfl, rfl, ?_⟩
  have z0 : (0 : Int).natAbs < 2 ^ 1900 := Nat.lt_of_lt_of_le (show 0 < 2 ^ 0 by decide) (Nat.pow_le_pow_right (by decide) (Nat.zero_le _))
  refine ⟨_, rfl, _, rfl, _, rfl, x, h, ls, 0, u, w, 0, rfl, LA.same (Same.refl H), hl, b1, b2, z0, fun q1 Ha1 xs1 sa1 hq1 a1 a2 a3 => ?_⟩
  have e1 := a1 rfl
  subst e1
  have ta1 := (Same.refl H).trans sa1
  refine ⟨_, rfl, _, rfl, _, rfl, a, ls, u, w, rfl, SqL.of (ta1 _ _ ha), hl, hb, fun g1 Hb1 sb1 hg1 => ?_⟩
  have at1 := ans_ats (H := Hb1) (v := .int (gapI ls u w)) (d := .int (gapI ls u w)) (.int _) rfl (gapC ls.length u w)
  refine ⟨_, _, _, _, rfl, .lst (sb1 _ _ hq1) at1.1 at1.2.1, .lst hg1 at1.1 at1.2.1, by rw [dep]; exact Nat.succ_lt_succ at1.2.2, fun b hb2 => ⟨_, rfl, ?_⟩⟩
  rw [hb2.mpr rfl]
  have tb1 := ta1.trans sb1
  refine iteF ⟨_, rfl, _, rfl, _, rfl, x, h, ls, 0, w, u, 0, rfl, LA.same (tb1), hl, b2, b1, z0, fun q2 Ha2 xs2 sa2 hq2 a1 a2 a3 => ?_⟩
  have e2 := a1 rfl
  subst e2
  have ta2 := (tb1).trans sa2
  refine ⟨_, rfl, _, rfl, _, rfl, a, ls, w, u, rfl, SqL.of (ta2 _ _ ha), hl, hb, fun g2 Hb2 sb2 hg2 => ?_⟩
  have at2 := ans_ats (H := Hb2) (v := .int (gapI ls w u)) (d := .int (gapI ls w u)) (.int _) rfl (gapC ls.length w u)
  refine ⟨_, _, _, _, rfl, .lst (sb2 _ _ hq2) at2.1 at2.2.1, .lst hg2 at2.1 at2.2.1, by rw [dep]; exact Nat.succ_lt_succ at2.2.2, fun b hb2 => ⟨_, rfl, ?_⟩⟩
  rw [hb2.mpr rfl]
  have tb2 := ta2.trans sb2
  refine iteF ⟨_, rfl, _, rfl, _, rfl, x, h, ls, 1, l, u, 0, rfl, LA.same (tb2), hl, b4, b1, z0, fun q3 Ha3 xs3 sa3 hq3 a1 a2 a3 => ?_⟩
  have e3 := a2 rfl
  subst e3
  have ta3 := (tb2).trans sa3
  refine ⟨_, rfl, _, rfl, _, rfl, _, rfl, a, ls, h, l, u, rfl, SqL.of (ta3 _ _ ha), hl, hh, fun g3 Hb3 sb3 hg3 => ?_⟩
  have at3 := ans_ats (H := Hb3) (v := .int (cn ls l u.toNat)) (d := .int (cn ls l u.toNat)) (.int _) rfl (highC h ls.length l u)
  refine ⟨_, _, _, _, rfl, .lst (sb3 _ _ hq3) at3.1 at3.2.1, .lst hg3 at3.1 at3.2.1, by rw [dep]; exact Nat.succ_lt_succ at3.2.2, fun b hb2 => ⟨_, rfl, ?_⟩⟩
  rw [hb2.mpr rfl]
  have tb3 := ta3.trans sb3
  refine iteF ⟨_, rfl, _, rfl, _, rfl, x, h, ls, 1, l, w, 0, rfl, LA.same (tb3), hl, b4, b2, z0, fun q4 Ha4 xs4 sa4 hq4 a1 a2 a3 => ?_⟩
  have e4 := a2 rfl
  subst e4
  have ta4 := (tb3).trans sa4
  refine ⟨_, rfl, _, rfl, _, rfl, _, rfl, a, ls, h, l, w, rfl, SqL.of (ta4 _ _ ha), hl, hh, fun g4 Hb4 sb4 hg4 => ?_⟩
  have at4 := ans_ats (H := Hb4) (v := .int (cn ls l w.toNat)) (d := .int (cn ls l w.toNat)) (.int _) rfl (highC h ls.length l w)
  refine ⟨_, _, _, _, rfl, .lst (sb4 _ _ hq4) at4.1 at4.2.1, .lst hg4 at4.1 at4.2.1, by rw [dep]; exact Nat.succ_lt_succ at4.2.2, fun b hb2 => ⟨_, rfl, ?_⟩⟩
  rw [hb2.mpr rfl]
  have tb4 := ta4.trans sb4
  refine iteF ⟨_, rfl, _, rfl, _, rfl, _, rfl, _, rfl, a, ls, h, u, p, w, rfl, SqL.of (tb4 _ _ ha), hl, hh, fun g5 Hb5 sb5 hg5 => ?_⟩
  have tb5 := tb4.trans sb5
  refine ⟨_, rfl, _, rfl, _, rfl, _, rfl, x, h, ls, 2, u, p, w, rfl, LA.same tb5, hl, b1, b3, b2, fun q6 Ha6 xs6 sa6 hq6 a1 a2 a3 => ?_⟩
  have e6 := a3 (by decide) (by decide)
  subst e6
  have tb6 := tb5.trans sa6
  have hg6 := sa6 _ _ hg5
  have at6 := ans_ats (H := Ha6) (v := .bl (alw ls u p w)) (d := .bl (alw ls u p w)) (.bl _) rfl (alwC h ls.length u p w)
  refine ⟨_, rfl, _, _, _, _, rfl, .lst hq6 at6.1 at6.2.1, .lst hg6 at6.1 at6.2.1, by rw [dep]; exact Nat.succ_lt_succ at6.2.2, fun b hb2 => ⟨_, rfl, ?_⟩⟩
  rw [hb2.mpr rfl]
  refine iteF ?_
  by_cases o1 : 0 ≤ u ∧ u ≤ (ls.length : Int)
  · by_cases o2 : 0 ≤ p ∧ p ≤ 2 * h
    · by_cases o3 : 0 ≤ w ∧ w ≤ (ls.length : Int)
      · rw [show ansV (alwC h ls.length u p w) (.bl (alw ls u p w)) = [.str "value", .bl (alw ls u p w)] from ((if_pos o1).trans ((if_pos o2).trans (if_pos o3)))] at hg6
        refine ⟨_, rfl, _, _, _, _, rfl, rfl, SqL.of hg6, rfl, rfl, _, rfl, iteT ⟨_, rfl, _, rfl, _, rfl, _, rfl, _, rfl, x, a, h, ls, u, p, w, rfl, LA.same tb6, SqL.of (tb6 _ _ ha), hl, o1, o2, o3, fun H7 s7 => kk _ (tb6.trans s7)⟩⟩
      · rw [show ansV (alwC h ls.length u p w) (.bl (alw ls u p w)) = [.str "step", .int w, .bl true, .bl false] from ((if_pos o1).trans ((if_pos o2).trans (if_neg o3)))] at hg6
        exact ⟨_, rfl, _, _, _, _, rfl, rfl, SqL.of hg6, rfl, rfl, _, rfl, iteF (kk _ tb6)⟩
    · rw [show ansV (alwC h ls.length u p w) (.bl (alw ls u p w)) = [.str "rank", .int p, .bl true, .bl false] from ((if_pos o1).trans (if_neg o2))] at hg6
      exact ⟨_, rfl, _, _, _, _, rfl, rfl, SqL.of hg6, rfl, rfl, _, rfl, iteF (kk _ tb6)⟩
  · rw [show ansV (alwC h ls.length u p w) (.bl (alw ls u p w)) = [.str "step", .int u, .bl true, .bl false] from (if_neg o1)] at hg6
    exact ⟨_, rfl, _, _, _, _, rfl, rfl, SqL.of hg6, rfl, rfl, _, rfl, iteF (kk _ tb6)⟩
end
end LR

set_option Elab.async false
set_option maxRecDepth 100000
set_option linter.all false
set_option maxHeartbeats 4000000
namespace LR
open PySem PySem.Spec PyProof.Rows L2
section
variable {P : Program} {w : World} {K : PySem.W.Frag} {mg : Str → Option Value} {base : Heap} {ζ : Cs}
def RowAt (H : Hp) (r : Addr) : Prop := ∃ u w p l : Int, H r = some (.lst [.int u, .int w, .int p, .int l]) ∧ (-3000000 ≤ u ∧ u ≤ 3000000) ∧ (-3000000 ≤ w ∧ w ≤ 3000000) ∧ (-3000000 ≤ p ∧ p ≤ 3000000) ∧ (-3000000 ≤ l ∧ l ≤ 3000000)
def spRows (K : PySem.W.Frag) : Sp := fun vs H Q _ => ∃ (p a : Addr) (ls : List Int) (h c : Int), vs = [.ref p, .ref a, .int h, .int c] ∧ IsPool H p ∧ H a = some (.lst (ls.map V.int)) ∧ a ≠ p ∧ ls.length ≤ 1000 ∧ (0 ≤ h ∧ h ≤ 1000) ∧ (0 ≤ c ∧ c ≤ 10) ∧
  ∀ (D : Addr) (H' : Hp) (rs : List Addr), Keep p H H' → H D = none → H' D = some (.lst (rs.map V.ref)) → rs.length = c.toNat → (∀ (j : Nat) r, rs[j]? = some r → RowAt H' r ∧ H r = none) → Q (.ref D) H'
theorem ok_rows (T : Txt P K mg ζ) : Cal P w K mg base 3 "_law_rows" (spRows K) := by
  have c_draw : Cal P w K mg base 1 "_law_draw" spDraw := ok_draw T
  have c_wild : Cal P w K mg base 2 "_law_wild" spWild := ok_wild T
  refine T.d_rows.cal sc_rows (fun vs H Q E h => ?_) (fun f cdv A outer s H vs Q E hr h => ⟨_, pss_cons (ps_set (i := 4) sc_rows.nd rfl (Or.inl rfl) (pe_lst (pa_nil)))
 (pss_cons (ps_for PassesOwn.never rfl (pi_range1 rfl T.n_range (pa_cons (pv 3) (pa_nil))) (pg_name (i := 5) sc_rows.nd rfl (Or.inl rfl))
 (pss_cons (ps_set (i := 6) sc_rows.nd rfl (Or.inl rfl) (pe_c c_wild hr (by first | decide | omega) (by rfl) (pa_cons (pv 0) (pa_cons (pe_int) (pa_cons (pe_callB call_len_seq (by rfl) T.n_len b_len (pa_cons (pv 1) (pa_nil))) (pa_nil))))))
 (pss_cons (ps_set (i := 7) sc_rows.nd rfl (Or.inl rfl) (pe_c c_wild hr (by first | decide | omega) (by rfl) (pa_cons (pv 0) (pa_cons (pe_int) (pa_cons (pe_callB call_len_seq (by rfl) T.n_len b_len (pa_cons (pv 1) (pa_nil))) (pa_nil))))))
 (pss_cut (ps_if (PW.pt (pw_and (pt_chain op_le op_le (pe_int) (pv 6) (pe_callB call_len_seq (by rfl) T.n_len b_len (pa_cons (pv 1) (pa_nil))) ) (pw_and1 (pt_cmpR op_eq (pe_c c_draw hr (by first | decide | omega) (by rfl) (pa_cons (pv 0) (pa_cons (pe_int) (pa_nil)))) (pe_int) (nomark _)))))
 (pss_one (ps_set (i := 7) sc_rows.nd rfl (Or.inl rfl) (pe_callB (call_min2 rfl) (by rfl) T.n_min b_min (pa_cons (pe_callB call_len_seq (by rfl) T.n_len b_len (pa_cons (pv 1) (pa_nil))) (pa_cons (pe_callB (call_max2 rfl) (by rfl) T.n_max b_max (pa_cons (pe_int) (pa_cons (pe_op op_add (pe_op op_sub (pv 6) (pe_int)) (pe_op op_mul (pe_int) (pe_c c_draw hr (by first | decide | omega) (by rfl) (pa_cons (pv 0) (pa_cons (pe_int) (pa_nil)))))) (pa_nil)))) (pa_nil))))))
 (pss_nil))
 (pss_cons (ps_set (i := 8) sc_rows.nd rfl (Or.inl rfl) (pe_c c_wild hr (by first | decide | omega) (by rfl) (pa_cons (pv 0) (pa_cons (pe_int) (pa_cons (pe_op op_mul (pe_int) (pv 2)) (pa_nil))))))
 (pss_one (ps_expr (pe_bm PySem.F.plainAttrs_list PySem.F.slot_list_append PySem.F.type_list_append mt_append (pv 4) (pa_cons (pe_lst (pa_cons (pv 6) (pa_cons (pv 7) (pa_cons (pv 8) (pa_cons (pe_c c_wild hr (by first | decide | omega) (by rfl) (pa_cons (pv 0) (pa_cons (pe_int) (pa_cons (pe_op op_add (pv 2) (pe_int)) (pa_nil))))) (pa_nil)))))) (pa_nil))))))))))
 (pss_one (ps_ret (pv 4)))), ?_⟩)
  · obtain ⟨p, a, ls, h, c, rfl, _⟩ := h; rfl
  obtain ⟨p, a, ls, h, c, rfl, hp, ha, nap, hl, hh, hc, kk⟩ := h
  have ll : (ls.map V.int).length = ls.length := List.length_map ..
  refine ⟨(by show 0 ≤ sizeLine; decide), fun D hD => ?_⟩
  have nDp : D ≠ p := hp.free hD
  refine ⟨_, rfl, _, rfl, by omega, by omega, ?_⟩
  refine for_range (lo := 0) (n := c.toNat) (fun i σ H' => Keep p H H' ∧ IsPool H' p ∧ (∃ rs : List Addr, H' D = some (.lst (rs.map V.ref)) ∧ rs.length = i ∧ ∀ (j : Nat) r, rs[j]? = some r → RowAt H' r ∧ r ≠ p ∧ r ≠ D ∧ H r = none) ∧
    ∃ z5 z6 z7 z8 : Option V, σ = [some (.ref p), some (.ref a), some (.int h), some (.int c), some (.ref D), z5, z6, z7, z8]) ⟨Keep.refl.new hD, hp.same (same_new hD), ⟨[], upd_same, rfl, fun j r e => by simp at e⟩, _, _, _, _, rfl⟩ ?_ ?_
  · rintro i σ H' hi ⟨k0, p0, ⟨rs, hrs, hlen, hrow⟩, z5, z6, z7, z8, rfl⟩
    refine ⟨_, rfl, _, rfl, a, _, rfl, .inl (SqL.of (k0 _ nap _ ha)), p, 0, _, rfl, p0, ⟨by omega, by omega, by omega⟩, fun one Ha r0 r1 ka pa => ?_⟩
    have ka' := k0.trans ka
    refine ⟨_, rfl, _, rfl, a, _, rfl, .inl (SqL.of (ka' _ nap _ ha)), p, 0, _, rfl, pa, ⟨by omega, by omega, by omega⟩, fun oth Hb q0 q1 kb pb => ?_⟩
    have kb' := ka'.trans kb
    refine ⟨fun σ' H2 => Keep p Hb H2 ∧ IsPool H2 p ∧ ∃ ot : Int, (-3000000 ≤ ot ∧ ot ≤ 3000000) ∧ σ' = [some (.ref p), some (.ref a), some (.int h), some (.int c), some (.ref D), some (.int (0 + (i : Int))), some (.int one), some (.int ot), z8], ?_, ?_⟩
    · refine ⟨_, rfl, _, _, rfl, rfl, _, rfl, ?_⟩
      refine ite2 (fun c1 => ?_) (fun c1 => ⟨_, rfl, iteF ⟨Keep.refl, pb, oth, ⟨q0, q1⟩, rfl⟩⟩)
      refine ⟨_, rfl, a, _, rfl, .inl (SqL.of (kb' _ nap _ ha)), _, _, rfl, rfl, _, rfl, ite_b (fun c2 => ?_) (fun c2 => ⟨Keep.refl, pb, oth, ⟨q0, q1⟩, rfl⟩)⟩
      refine ⟨_, rfl, p, 2, rfl, pb, by decide, by decide, fun d0 H1 d00 d01 k1 p1 => ⟨rfl, _, rfl, ite_b (fun c3 => ?_) (fun c3 => ⟨k1, p1, oth, ⟨q0, q1⟩, rfl⟩)⟩⟩
      refine ⟨_, rfl, a, _, rfl, .inl (SqL.of ((kb'.trans k1) _ nap _ ha)), _, rfl, _, _, rfl, rfl, _, rfl, p, 2, rfl, p1, by decide, by decide, fun d1 H2 d10 d11 k2 p2 => ⟨_, _, rfl, rfl, .inl ⟨by decide, by decide⟩, _, _, rfl, rfl, _, _, rfl, _, _, rfl, ?_⟩⟩
      refine ⟨k1.trans k2, p2, _, ⟨?_, ?_⟩, rfl⟩
      · split <;> split <;> omega
      · split <;> split <;> omega
    · rintro σ' H2 ⟨kc, pc, ot, ⟨o0, o1⟩, rfl⟩
      refine ⟨_, rfl, _, rfl, _, _, rfl, rfl, .inl ⟨by decide, by decide⟩, p, 0, 2 * h, rfl, pc, ⟨by omega, by omega, by omega⟩, fun rk H3 g0 g1 kd pd => ?_⟩
      have k3 : Keep p H' H3 := ((ka.trans kb).trans kc).trans kd
      refine ⟨_, rfl, .inl ⟨rfl, _, SqL.of (k3 _ nDp _ hrs)⟩, _, rfl, _, rfl, _, rfl, _, rfl, _, rfl, _, _, rfl, rfl, p, 1, h + 1, rfl, pd, ⟨by omega, by omega, by omega⟩, fun lv H4 l0 l1 ke pe => ⟨(by show 4 ≤ sizeLine; decide), fun r hr2 => ?_⟩⟩
      have k4 : Keep p H' H4 := (((ka.trans kb).trans kc).trans kd).trans ke
      have hD4 := k4 _ nDp _ hrs
      have nr : r ≠ D := (ne_of_none hD4 hr2).symm
      have nrp : r ≠ p := pe.free hr2
      have hD5 : (upd H4 r (.lst [.int one, .int ot, .int rk, .int lv])) D = some (.lst (rs.map V.ref)) := by rw [upd_ne nr.symm]; exact hD4
      refine ⟨D, _, _, rfl, rfl, hD5, (by rw [List.length_map, hlen, sizeLine_eq]; omega), ?_, ?_, ⟨rs ++ [r], ?_, (by rw [List.length_append, hlen]; rfl), fun j r' e => ?_⟩, _, _, _, _, rfl⟩
      · intro b nb o e
        have b1 : b ≠ D := ne_of_none e hD
        have e4 := (k0.trans k4) b nb o e
        rw [upd_ne b1, upd_ne (ne_of_none e4 hr2)]
        exact e4
      · obtain ⟨u1, u2, u3, u4, e⟩ := pe
        exact ⟨u1, u2, u3, u4, by rw [upd_ne nDp.symm, upd_ne nrp.symm, e]⟩
      · rw [upd_same, List.map_append]; rfl
      · rw [List.getElem?_append] at e
        split at e
        · obtain ⟨⟨u1, u2, u3, u4, e1, e2⟩, n1, n2, n3⟩ := hrow j r' e
          have e4 := k4 _ n1 _ e1
          exact ⟨⟨u1, u2, u3, u4, by rw [upd_ne n2, upd_ne (ne_of_none e4 hr2), e4], e2⟩, n1, n2, n3⟩
        · rename_i hj
          have ej : j = rs.length := by
            have := (List.getElem?_eq_some_iff.mp e).1
            simp at this; omega
          subst ej
          rw [Nat.sub_self] at e
          cases e
          exact ⟨⟨one, ot, rk, lv, by rw [upd_ne nr, upd_same], ⟨r0, r1⟩, ⟨o0, o1⟩, ⟨g0, g1⟩, ⟨l0, l1⟩⟩, nrp, nr, (k0.trans k4).free nrp hr2⟩
  · rintro σ H' ⟨k0, p0, ⟨rs, hrs, hlen, hrow⟩, z5, z6, z7, z8, rfl⟩
    exact ⟨_, rfl, kk D H' rs k0 hD hrs hlen fun j r e => ⟨(hrow j r e).1, (hrow j r e).2.2.2⟩⟩
end
end LR

set_option Elab.async false
set_option maxRecDepth 100000
set_option linter.all false
set_option maxHeartbeats 4000000
namespace LR
open PySem PySem.Spec PyProof.Rows L2
section
variable {P : Program} {w : World} {K : PySem.W.Frag} {mg : Str → Option Value} {base : Heap} {ζ : Cs}
def spLevels : Sp := fun vs H Q _ => ∃ (p : Addr) (h lim : Int), vs = [.ref p, .int h, .int lim] ∧ IsPool H p ∧ (1 ≤ h ∧ h ≤ 1000) ∧ (0 ≤ lim ∧ lim ≤ 1000) ∧
  ∀ (H' : Hp) (D : Addr) (ls : List Int), Keep p H H' → IsPool H' p → H D = none → H' D = some (.lst (ls.map V.int)) → (ls.length : Int) ≤ lim → (∀ l ∈ ls, 1 ≤ l ∧ l ≤ h) → Q (.ref D) H'
theorem ok_levels (T : Txt P K mg ζ) : Cal P w K mg base 2 "_law_levels" spLevels := by
  have c_draw : Cal P w K mg base 1 "_law_draw" spDraw := ok_draw T
  refine T.d_levels.cal sc_levels (fun vs H Q E h => ?_) (fun f cdv A outer s H vs Q E hr h => ⟨_, pss_cons (ps_set (i := 3) sc_levels.nd rfl (Or.inl rfl) (pe_c c_draw hr (by first | decide | omega) (by rfl) (pa_cons (pv 0) (pa_cons (pe_op op_add (pv 2) (pe_int)) (pa_nil)))))
 (pss_one (ps_ret (pe_lc (own := [("index", 4)]) (g := gName 4) (tt := tYes)  rfl sc_levels.nd (pi_range1 rfl T.n_range (pa_cons (pv 3) (pa_nil))) (blkOk_by (N := N_levels) (sc := defScope s_levels) (by decide +kernel)) (fun _ _ _ _ _ => pg_name (i := 4) sc_levels.nd rfl (Or.inl rfl)) (fun _ _ _ _ _ => pts_nil) (fun _ _ _ _ _ => pe_op op_add (pe_int) (pe_c c_draw hr (by first | decide | omega) (by rfl) (pa_cons (pv 0) (pa_cons (pv 1) (pa_nil)))))))), ?_⟩)
  · obtain ⟨p, h, lim, rfl, _⟩ := h; rfl
  obtain ⟨p, h, lim, rfl, hp, ⟨h0, h1⟩, ⟨l0, l1⟩, kk⟩ := h
  refine ⟨_, rfl, _, rfl, _, _, rfl, rfl, p, _, rfl, hp, by omega, by omega, fun n H1 n0 n1 k1 p1 => ?_⟩
  refine ⟨_, rfl, _, rfl, by omega, by omega, fun D hD => ?_⟩
  have nD := p1.free hD
  have hD0 := k1.free nD hD
  refine lc_range (lo := 0) (n := n.toNat) (fun i H' => Keep p H H' ∧ IsPool H' p ∧ ∃ ls : List Int, H' D = some (.lst (ls.map V.int)) ∧ ls.length = i ∧ ∀ l ∈ ls, 1 ≤ l ∧ l ≤ h) ?_ ?_ ?_
  · exact ⟨k1.new hD, p1.same (same_new hD), [], upd_same, rfl, fun l z => by cases z⟩
  · rintro i H2 hi ⟨k2, p2, ls, h2, hl, hb⟩
    refine ⟨rfl, lc_yes (iteT ?_)⟩
    refine ⟨_, rfl, _, rfl, p, h, rfl, p2, by omega, by omega, fun v H3 v0 v1 k3 p3 => ?_⟩
    have h3 := k3 _ nD _ h2
    refine ⟨_, _, rfl, rfl, _, h3, (by rw [List.length_map, hl, sizeLine_eq]; omega), ?_, ?_, ls ++ [1 + v], ?_, by simp [hl], ?_⟩
    · intro b nb o e
      rw [upd_ne (ne_of_none e hD0)]
      exact k3 b nb o (k2 b nb o e)
    · obtain ⟨x, y, z, t, p3⟩ := p3
      exact ⟨x, y, z, t, by rw [upd_ne nD.symm, p3]⟩
    · rw [upd_same, List.map_append]; rfl
    · intro l hl
      rcases List.mem_append.mp hl with q | q
      · exact hb l q
      · have : l = 1 + v := by simpa using q
        omega
  · rintro H2 ⟨k2, p2, ls, h2, hl, hb⟩
    exact kk H2 D ls k2 p2 hD0 h2 (by omega) hb
end
end LR

set_option Elab.async false
set_option maxRecDepth 100000
set_option linter.all false
set_option maxHeartbeats 4000000
namespace LR
open PySem PySem.Spec PyProof.Rows L2
section
variable {P : Program} {w : World} {K : PySem.W.Frag} {mg : Str → Option Value} {base : Heap} {ζ : Cs}
abbrev lawLevel : Nat := 7
theorem ok_law (T : Txt P K mg ζ) {f : Addr} {fd : FuncData} (F : Fun K "law" "law" s_law f fd) : FnOk P w K mg base CX0 7 f fd ["script"] (spLaw K) := by
  have c_pool : Cal P w K mg base 1 "_law_pool" (spPool K) := ok_pool T
  have c_draw : Cal P w K mg base 1 "_law_draw" spDraw := ok_draw T
  have c_levels : Cal P w K mg base 2 "_law_levels" spLevels := ok_levels T
  have c_Ladder : Mak P w K mg base 2 "Ladder" ζ.Ladder (spInitS ζ.Ladder) := ok_initS T
  have c_rows : Cal P w K mg base 3 "_law_rows" (spRows K) := ok_rows T
  have c_fields : Cal P w K mg base 5 "_law_fields" (spFields ζ.Ladder) := ok_fields T
  have c_turn : Cal P w K mg base 6 "_law_turn" (spTurn ζ.Ladder) := ok_turn T
  have c_same : Cal P w K mg base 4 "_law_same" (spSame 2) := ok_same T 2
  refine F.ok sc_law (fun vs H Q E h => ?_) (fun cdv A outer s H vs Q E hr h => ⟨_, pss_cons (ps_set (i := 1) sc_law.nd rfl (Or.inl rfl) (pe_c c_pool hr (by first | decide | omega) (by rfl) (pa_cons (pv 0) (pa_cons (pe_int) (pa_nil)))))
 (pss_cons (ps_set (i := 2) sc_law.nd rfl (Or.inl rfl) (pe_op op_add (pe_int) (pe_c c_draw hr (by first | decide | omega) (by rfl) (pa_cons (pv 1) (pa_cons (pe_int) (pa_nil))))))
 (pss_cons (ps_set (i := 3) sc_law.nd rfl (Or.inl rfl) (pe_int))
 (pss_cut (ps_if (pt_cmpR op_eq (pe_c c_draw hr (by first | decide | omega) (by rfl) (pa_cons (pv 1) (pa_cons (pe_int) (pa_nil)))) (pe_int) (nomark _))
 (pss_one (ps_set (i := 3) sc_law.nd rfl (Or.inl rfl) (pe_int)))
 (pss_nil))
 (pss_cons (ps_set (i := 4) sc_law.nd rfl (Or.inl rfl) (pe_c c_levels hr (by first | decide | omega) (by rfl) (pa_cons (pv 1) (pa_cons (pv 2) (pa_cons (pv 3) (pa_nil))))))
 (pss_cons (ps_set (i := 5) sc_law.nd rfl (Or.inl rfl) (pe_op op_add (pe_int) (pe_c c_draw hr (by first | decide | omega) (by rfl) (pa_cons (pv 1) (pa_cons (pe_int) (pa_nil))))))
 (pss_cons (ps_set (i := 6) sc_law.nd rfl (Or.inl rfl) (pe_c c_levels hr (by first | decide | omega) (by rfl) (pa_cons (pv 1) (pa_cons (pv 5) (pa_cons (pe_int) (pa_nil))))))
 (pss_cons (ps_set (i := 7) sc_law.nd rfl (Or.inl rfl) (pe_callTy call_list_of (by rfl) T.n_list b_list (pa_cons (pv 4) (pa_nil))))
 (pss_cut (ps_if (pt_cmpR op_eq (pe_c c_draw hr (by first | decide | omega) (by rfl) (pa_cons (pv 1) (pa_cons (pe_int) (pa_nil)))) (pe_int) (nomark _))
 (pss_one (ps_set (i := 8) sc_law.nd rfl (Or.inl rfl) (pe_mk c_Ladder hr (by first | decide | omega) (by rfl) (pa_cons (pv 2) (pa_cons (pv 7) (pa_nil))))))
 (pss_one (ps_set (i := 8) sc_law.nd rfl (Or.inl rfl) (pe_mk c_Ladder hr (by first | decide | omega) (by rfl) (pa_cons (pv 2) (pa_cons (pe_callTy call_tuple_of (by rfl) T.n_tuple b_tuple (pa_cons (pv 7) (pa_nil))) (pa_nil)))))))
 (pss_cons (ps_set (i := 9) sc_law.nd rfl (Or.inl rfl) (pe_mk c_Ladder hr (by first | decide | omega) (by rfl) (pa_cons (pv 5) (pa_cons (pe_callTy call_tuple_of (by rfl) T.n_tuple b_tuple (pa_cons (pv 6) (pa_nil))) (pa_nil)))))
 (pss_cons (ps_if (PW.pt (pw_or (pt_not (pt_val (pe_c c_same hr (by first | decide | omega) (by rfl) (pa_cons (pv 7) (pa_cons (pv 4) (pa_nil)))))) (pw_or1 (pt_not (pt_val (pe_c c_same hr (by first | decide | omega) (by rfl) (pa_cons (ClX.pe_cval (pe_glob (v := .ref ζ.Ladder) (by rfl) T.mg_Ladder rfl)) (pa_cons (pe_int) (pa_nil)))))))))
 (pss_one (ps_ret (pe_bl)))
 (pss_nil))
 (pss_cons (ps_set (i := 10) sc_law.nd rfl (Or.inl rfl) (pe_c c_rows hr (by first | decide | omega) (by rfl) (pa_cons (pe_c c_pool hr (by first | decide | omega) (by rfl) (pa_cons (pv 0) (pa_cons (pe_int) (pa_nil)))) (pa_cons (pv 4) (pa_cons (pv 2) (pa_cons (pe_int) (pa_nil)))))))
 (pss_cons (ps_set (i := 11) sc_law.nd rfl (Or.inl rfl) (pe_c c_rows hr (by first | decide | omega) (by rfl) (pa_cons (pe_c c_pool hr (by first | decide | omega) (by rfl) (pa_cons (pv 0) (pa_cons (pe_int) (pa_nil)))) (pa_cons (pv 6) (pa_cons (pv 5) (pa_cons (pe_int) (pa_nil)))))))
 (pss_cons (ps_for PassesOwn.never rfl (pi_range1 rfl T.n_range (pa_cons (pe_int) (pa_nil))) (pg_name (i := 12) sc_law.nd rfl (Or.inl rfl))
 (pss_cons (ps_if (PW.pt (pw_or (pt_not (pt_val (pe_c c_fields hr (by first | decide | omega) (by rfl) (pa_cons (pv 8) (pa_cons (pv 4) (pa_cons (pv 2) (pa_nil))))))) (pw_or1 (pt_not (pt_val (pe_c c_fields hr (by first | decide | omega) (by rfl) (pa_cons (pv 9) (pa_cons (pv 6) (pa_cons (pv 5) (pa_nil))))))))))
 (pss_one (ps_ret (pe_bl)))
 (pss_nil))
 (pss_cons (ps_for PassesOwn.never rfl (pi_range1 rfl T.n_range (pa_cons (pe_int) (pa_nil))) (pg_name (i := 13) sc_law.nd rfl (Or.inl rfl))
 (pss_cons (ps_if (pt_not (pt_val (pe_c c_turn hr (by first | decide | omega) (by rfl) (pa_cons (pv 8) (pa_cons (pv 4) (pa_cons (pv 2) (pa_cons (pe_ix ix_list (pv 10) (pv 13) (fun _ _ => rfl)) (pa_nil))))))))
 (pss_one (ps_ret (pe_bl)))
 (pss_nil))
 (pss_one (ps_if (PW.pt (pw_and (pt_cmpR op_lt (pv 13) (pe_int) (nomark _)) (pw_and1 (pt_not (pt_val (pe_c c_turn hr (by first | decide | omega) (by rfl) (pa_cons (pv 9) (pa_cons (pv 6) (pa_cons (pv 5) (pa_cons (pe_ix ix_list (pv 11) (pv 13) (fun _ _ => rfl)) (pa_nil)))))))))))
 (pss_one (ps_ret (pe_bl)))
 (pss_nil)))))
 (pss_cons (ps_expr (pe_bm PySem.F.plainAttrs_list PySem.F.slot_list_insert PySem.F.type_list_insert mt_insert (pv 7) (pa_cons (pe_int) (pa_cons (pv 2) (pa_nil)))))
 (pss_one (ps_expr (pe_bm PySem.F.plainAttrs_list PySem.F.slot_list_append PySem.F.type_list_append mt_append (pv 7) (pa_cons (pe_int) (pa_nil)))))))))
 (pss_one (ps_ret (pe_bl)))))))))))))))), ?_⟩)
  · obtain ⟨a, ns, rfl, _⟩ := h; rfl
  obtain ⟨a, ns, rfl, hS, kk⟩ := h
  refine ⟨_, rfl, a, ns, 0, rfl, hS, fun p x1 x2 x3 x4 hp => ?_⟩
  have p1 : IsPool (upd H p (.lst [.int x1, .int x2, .int x3, .int x4])) p := .upd
  have k1 : Keep p H (upd H p (.lst [.int x1, .int x2, .int x3, .int x4])) := Keep.refl.upd
  generalize upd H p (.lst [.int x1, .int x2, .int x3, .int x4]) = H1 at p1 k1 ⊢
  refine ⟨_, rfl, p, 3, rfl, p1, by decide, by decide, fun h0 H2 h00 h01 k2 p2 => ⟨_, _, rfl, rfl, ?_⟩⟩
  refine ⟨fun σ' H' => Keep p H H' ∧ IsPool H' p ∧ ∃ lim : Int, (0 ≤ lim ∧ lim ≤ 24) ∧ σ' = [some (.ref a), some (.ref p), some (.int (1 + h0)), some (.int lim), none, none, none, none, none, none, none, none, none, none], ?_, ?_⟩
  · refine ⟨_, rfl, p, 16, rfl, p2, by decide, by decide, fun d H3 d0 d1 k3 p3 => ⟨rfl, _, rfl, ite2 (fun _ => ?_) (fun _ => ?_)⟩⟩
    · exact ⟨(k1.trans k2).trans k3, p3, 24, ⟨by decide, by decide⟩, rfl⟩
    · exact ⟨(k1.trans k2).trans k3, p3, 7, ⟨by decide, by decide⟩, rfl⟩
  rintro σ' H3 ⟨k3, p3, lim, ⟨l0, l1⟩, rfl⟩
  refine ⟨_, rfl, _, rfl, _, rfl, p, _, lim, rfl, p3, ⟨by omega, by omega⟩, ⟨l0, by omega⟩, fun H4 D ls k4 p4 hD h4 hlen hb => ?_⟩
  have kk4 := k3.trans k4
  have nD : D ≠ p := p3.free hD
  refine ⟨_, rfl, p, 3, rfl, p4, by decide, by decide, fun z0 H5 z00 z01 k5 p5 => ⟨_, _, rfl, rfl, ?_⟩⟩
  have h5 := k5 _ nD _ h4
  have kk5 := kk4.trans k5
  refine ⟨_, rfl, _, rfl, p, _, 4, rfl, p5, ⟨by omega, by omega⟩, ⟨by decide, by decide⟩, fun H6 G os k6 p6 hG h6 hlen2 hb2 => ?_⟩
  have nG : G ≠ p := p5.free hG
  have h6D := k6 _ nD _ h5
  have kk6 := kk5.trans k6
  refine ⟨_, rfl, D, _, rfl, .inl (SqL.of h6D), fun E1 hE1 => ?_⟩
  have s7 : Same H6 (upd H6 E1 (.lst (ls.map V.int))) := same_new hE1
  have h7 : (upd H6 E1 (.lst (ls.map V.int))) E1 = some (.lst (ls.map V.int)) := upd_same
  have h7D := s7 _ _ h6D
  have h7G := s7 _ _ h6
  have kk7 := kk6.same s7
  have p7 := p6.same s7
  have nE : E1 ≠ p := p6.free hE1
  have nDE : D ≠ E1 := ne_of_none h6D hE1
  have nGE : G ≠ E1 := ne_of_none h6 hE1
  generalize upd H6 E1 (.lst (ls.map V.int)) = H7 at s7 h7 h7D h7G kk7 p7 ⊢
  have mx1 : ls.length ≤ 24 := by omega
  have mx2 : os.length ≤ 24 := by omega
  refine ⟨fun σ' H' => Keep p H7 H' ∧ IsPool H' p ∧ ∃ x : Addr, LadderAt ζ.Ladder H' x (1 + h0) ls ∧ σ' = [some (.ref a), some (.ref p), some (.int (1 + h0)), some (.int lim), some (.ref D), some (.int (1 + z0)), some (.ref G), some (.ref E1), some (.ref x), none, none, none, none, none], ?_, ?_⟩
  · refine ⟨_, rfl, p, 2, rfl, p7, by decide, by decide, fun d H8 d0 d1 k8 p8 => ⟨rfl, _, rfl, ite2 (fun _ => ?_) (fun _ => ?_)⟩⟩
    · refine ⟨_, rfl, _, rfl, fun x dx nx ndx nex => ?_⟩
      have s9 : Same H8 (upd (upd H8 dx (.own x)) x (.ins ζ.Ladder dx [])) := (same_new ndx).new (by rw [upd_ne nex.symm]; exact nx)
      refine ⟨x, E1, dx, 1 + h0, ls, rfl, upd_same, .inl (s9 _ _ (k8 _ nE _ h7)), by omega, mx1, hb, fun H9 k9 LA => ⟨rfl, ?_⟩⟩
      have s10 : Same H8 H9 := fun b o e => k9 b (ne_of_none e nx) o (s9 b o e)
      exact ⟨k8.same s10, p8.same s10, x, LA, rfl⟩
    · refine ⟨_, rfl, _, rfl, E1, _, rfl, .inl ⟨SqL.of (k8 _ nE _ h7), fun t ht => ?_⟩⟩
      have s8 : Same H8 (upd H8 t (.tup (ls.map V.int))) := same_new ht
      have h8t : (upd H8 t (.tup (ls.map V.int))) t = some (.tup (ls.map V.int)) := upd_same
      generalize upd H8 t (.tup (ls.map V.int)) = H8' at s8 h8t ⊢
      refine fun x dx nx ndx nex => ?_
      have s9 : Same H8' (upd (upd H8' dx (.own x)) x (.ins ζ.Ladder dx [])) := (same_new ndx).new (by rw [upd_ne nex.symm]; exact nx)
      refine ⟨x, t, dx, 1 + h0, ls, rfl, upd_same, .inr (s9 _ _ h8t), by omega, mx1, hb, fun H9 k9 LA => ⟨rfl, ?_⟩⟩
      have s10 : Same H8 H9 := s8.trans fun b o e => k9 b (ne_of_none e nx) o (s9 b o e)
      exact ⟨k8.same s10, p8.same s10, x, LA, rfl⟩
  rintro σ' H9 ⟨k9, p9, x, LA, rfl⟩
  have h9 := k9 _ nE _ h7
  have h9D := k9 _ nD _ h7D
  have h9G := k9 _ nG _ h7G
  have kk9 := kk7.trans k9
  refine ⟨_, rfl, _, rfl, G, _, rfl, .inl ⟨SqL.of h9G, fun t ht => ?_⟩⟩
  have s10 : Same H9 (upd H9 t (.tup (os.map V.int))) := same_new ht
  have h10t : (upd H9 t (.tup (os.map V.int))) t = some (.tup (os.map V.int)) := upd_same
  generalize upd H9 t (.tup (os.map V.int)) = H10 at s10 h10t ⊢
  refine fun y dy ny ndy ney => ?_
  have s11 : Same H10 (upd (upd H10 dy (.own y)) y (.ins ζ.Ladder dy [])) := (same_new ndy).new (by rw [upd_ne ney.symm]; exact ny)
  refine ⟨y, t, dy, 1 + z0, os, rfl, upd_same, .inr (s11 _ _ h10t), by omega, mx2, hb2, fun H12 k12 LB => ⟨rfl, ?_⟩⟩
  have s12 : Same H9 H12 := s10.trans fun b o e => k12 b (ne_of_none e ny) o (s11 b o e)
  have LA := LA.same s12
  have h12 := s12 _ _ h9
  have h12D := s12 _ _ h9D
  have h12G := s12 _ _ h9G
  have kk12 := kk9.same s12
  have d1 : ∀ l : List Int, dep (.lst (l.map Dt.int)) < 2 := fun l => by rw [dep, deps_ints]; decide
  have d2 : ∀ n : Int, dep (.int n) < 2 := fun _ => Nat.lt_of_le_of_lt (Nat.le_refl 0) (by decide)
  refine ⟨_, rfl, _, rfl, _, _, _, _, rfl, .lst h12 (ats_ints _ _) (by rw [List.length_map]; omega), .lst h12D (ats_ints _ _) (by rw [List.length_map]; omega), d1 _, fun b hb3 => ⟨_, rfl, ?_⟩⟩
  rw [hb3.mpr rfl]
  obtain ⟨mc, u, cr, cv⟩ := T.cv_Ladder_MOST_LEVELS
  refine iteF ⟨ζ.Ladder, mc, _, u, rfl, cr, cv, _, _, _, _, rfl, .int _, .int _, d2 _, fun b hb3 => ⟨_, rfl, ?_⟩⟩
  rw [hb3.mpr rfl]
  refine iteF ?_
  refine ⟨_, rfl, a, ns, 1, rfl, seq_after hS hp kk12, fun q y1 y2 y3 y4 hq => ?_⟩
  have s13 : Same H12 (upd H12 q (.lst [.int y1, .int y2, .int y3, .int y4])) := same_new hq
  have p13 : IsPool (upd H12 q (.lst [.int y1, .int y2, .int y3, .int y4])) q := .upd
  have nDq : D ≠ q := ne_of_none h12D hq
  have nGq : G ≠ q := ne_of_none h12G hq
  have nEq : E1 ≠ q := ne_of_none h12 hq
  have h13 := s13 _ _ h12
  have h13D := s13 _ _ h12D
  have h13G := s13 _ _ h12G
  have LA := LA.same s13
  have LB := LB.same s13
  have kk13 := kk12.same s13
  have old13 : ∀ b, b ≠ p → ∀ o, H b = some o → b ≠ q := fun b nb o e => ne_of_none (kk12 b nb o e) hq
  generalize upd H12 q (.lst [.int y1, .int y2, .int y3, .int y4]) = H13 at s13 p13 h13 h13D h13G LA LB kk13 ⊢
  refine ⟨_, rfl, _, rfl, q, D, ls, 1 + h0, 5, rfl, p13, h13D, nDq, by omega, ⟨by omega, by omega⟩, ⟨by decide, by decide⟩, fun R1 H14 rs kq nR1 hR1 hl1 hrow1 => ?_⟩
  have nER1 : R1 ≠ E1 := (ne_of_none h13 nR1).symm
  have h14 := kq _ nEq _ h13
  have h14D := kq _ nDq _ h13D
  have h14G := kq _ nGq _ h13G
  have LA := LA.keep kq p13.some
  have LB := LB.keep kq p13.some
  have kk14 : Keep p H H14 := fun b nb o e => kq b (old13 b nb o e) o (kk13 b nb o e)
  refine ⟨_, rfl, a, ns, 2, rfl, seq_after hS hp kk14, fun q2 v1 v2 v3 v4 hq2 => ?_⟩
  have s15 : Same H14 (upd H14 q2 (.lst [.int v1, .int v2, .int v3, .int v4])) := same_new hq2
  have p15 : IsPool (upd H14 q2 (.lst [.int v1, .int v2, .int v3, .int v4])) q2 := .upd
  have nDq2 : D ≠ q2 := ne_of_none h14D hq2
  have nGq2 : G ≠ q2 := ne_of_none h14G hq2
  have nEq2 : E1 ≠ q2 := ne_of_none h14 hq2
  have nRq2 : R1 ≠ q2 := ne_of_none hR1 hq2
  have h15 := s15 _ _ h14
  have h15D := s15 _ _ h14D
  have h15G := s15 _ _ h14G
  have hR15 := s15 _ _ hR1
  have LA := LA.same s15
  have LB := LB.same s15
  have hrow1 : ∀ (j : Nat) r, rs[j]? = some r → RowAt (upd H14 q2 (.lst [.int v1, .int v2, .int v3, .int v4])) r ∧ r ≠ q2 ∧ r ≠ E1 := fun j r e => by
    obtain ⟨⟨u1, u2, u3, u4, e1, e2⟩, n1⟩ := hrow1 j r e
    exact ⟨⟨u1, u2, u3, u4, s15 _ _ e1, e2⟩, ne_of_none e1 hq2, (ne_of_none h13 n1).symm⟩
  generalize upd H14 q2 (.lst [.int v1, .int v2, .int v3, .int v4]) = H15 at s15 p15 h15 h15D h15G hR15 LA LB hrow1 ⊢
  refine ⟨_, rfl, _, rfl, q2, G, os, 1 + z0, 3, rfl, p15, h15G, nGq2, by omega, ⟨by omega, by omega⟩, ⟨by decide, by decide⟩, fun R2 H16 rs2 kq2 nR2 hR2 hl2 hrow2 => ?_⟩
  have nER2 : R2 ≠ E1 := (ne_of_none h15 nR2).symm
  have h16 := kq2 _ nEq2 _ h15
  have h16D := kq2 _ nDq2 _ h15D
  have h16G := kq2 _ nGq2 _ h15G
  have hR16 := kq2 _ nRq2 _ hR15
  have LA := LA.keep kq2 p15.some
  have LB := LB.keep kq2 p15.some
  have hrow1 : ∀ (j : Nat) r, rs[j]? = some r → RowAt H16 r ∧ r ≠ E1 := fun j r e => by
    obtain ⟨⟨u1, u2, u3, u4, e1, e2⟩, n1, n2⟩ := hrow1 j r e
    exact ⟨⟨u1, u2, u3, u4, kq2 _ n1 _ e1, e2⟩, n2⟩
  have hrow2 : ∀ (j : Nat) r, rs2[j]? = some r → RowAt H16 r ∧ r ≠ E1 := fun j r e => by
    obtain ⟨e1, n1⟩ := hrow2 j r e
    exact ⟨e1, (ne_of_none h15 n1).symm⟩
  have big : ∀ v : Int, -3000000 ≤ v ∧ v ≤ 3000000 → v.natAbs < 2 ^ 1900 := fun v ⟨a, b⟩ => Nat.lt_of_le_of_lt (show v.natAbs ≤ 3000000 by omega) (Nat.lt_of_lt_of_le (show 3000000 < 2 ^ 22 by decide) (Nat.pow_le_pow_right (by decide) (by decide)))
  have lstE : ∃ l, H16 E1 = some (.lst l) := ⟨_, h16⟩
  have pos1 : ∀ l ∈ ls, 1 ≤ l := fun l hl => (hb l hl).1
  have pos2 : ∀ l ∈ os, 1 ≤ l := fun l hl => (hb2 l hl).1
  refine ⟨_, rfl, by decide, by decide, ?_⟩
  refine for_range (lo := 0) (n := 2) (fun i σ H' => Keep E1 H16 H' ∧ (∃ hs : List Int, H' E1 = some (.lst (hs.map V.int)) ∧ hs.length ≤ 24 + 2 * i) ∧ ∃ z12 z13 : Option V, σ = [some (.ref a), some (.ref p), some (.int (1 + h0)), some (.int lim), some (.ref D), some (.int (1 + z0)), some (.ref G), some (.ref E1), some (.ref x), some (.ref y), some (.ref R1), some (.ref R2), z12, z13])
    ⟨.refl, ⟨ls, h16, by omega⟩, none, none, rfl⟩ ?_ ?_
  · rintro i σ H' hi ⟨kE, ⟨hs, hE, hsl⟩, z12, z13, rfl⟩
    refine ⟨_, rfl, _, rfl, _, rfl, x, D, 1 + h0, ls, rfl, LA.keep kE lstE, kE _ nDE _ h16D, by omega, fun Ha sa => ⟨_, rfl, iteF ?_⟩⟩
    refine ⟨_, rfl, _, rfl, _, rfl, y, G, 1 + z0, os, rfl, (LB.keep kE lstE).same sa, sa _ _ (kE _ nGE _ h16G), by omega, fun Hb sb => ⟨_, rfl, iteF ?_⟩⟩
    refine ⟨_, rfl, by decide, by decide, ?_⟩
    refine for_range (lo := 0) (n := 5) (fun j σ H2 => Same H' H2 ∧ ∃ z13 : Option V, σ = [some (.ref a), some (.ref p), some (.int (1 + h0)), some (.int lim), some (.ref D), some (.int (1 + z0)), some (.ref G), some (.ref E1), some (.ref x), some (.ref y), some (.ref R1), some (.ref R2), some (.int (0 + (i : Int))), z13])
      ⟨sa.trans sb, _, rfl⟩ ?_ ?_
    · rintro j σ H2 hj ⟨s2, z13, rfl⟩
      have e0 : (0 : Int) + (j : Int) = (j : Int) := by omega
      have hjr : j < rs.length := by rw [hl1]; exact hj
      obtain ⟨⟨u1, u2, u3, u4, hr1, b1, b2, b3, b4⟩, n1⟩ := hrow1 j _ (List.getElem?_eq_getElem hjr)
      refine ⟨_, rfl, _, rfl, _, rfl, _, rfl, _, rfl, R1, _, _, _, rfl, rfl, SqL.of (s2 _ _ (kE _ nER1 _ hR16)), (by rw [e0]; exact atI_nat (v := V.ref (rs[j])) (by rw [List.getElem?_map, List.getElem?_eq_getElem hjr]; rfl)), ?_⟩
      refine ⟨x, D, rs[j], 1 + h0, ls, u1, u2, u3, u4, rfl, (LA.keep kE lstE).same s2, s2 _ _ (kE _ nDE _ h16D), by omega, ⟨by omega, by omega⟩, pos1, s2 _ _ (kE _ n1 _ hr1), ⟨big _ b1, big _ b2, big _ b3, big _ b4⟩, fun H3 s3 => ⟨_, rfl, iteF ?_⟩⟩
      refine ⟨_, rfl, _, _, rfl, rfl, _, rfl, ite2 (fun c => ?_) (fun c => ⟨s2.trans s3, _, rfl⟩)⟩
      have c : (0 : Int) + (j : Int) < 3 := of_decide_eq_true c
      have hjr2 : j < rs2.length := by rw [hl2]; show j < 3; omega
      have s4 := s2.trans s3
      obtain ⟨⟨t1, t2, t3, t4, hr2, g1, g2, g3, g4⟩, n2⟩ := hrow2 j _ (List.getElem?_eq_getElem hjr2)
      refine ⟨_, rfl, _, rfl, _, rfl, _, rfl, _, rfl, R2, _, _, _, rfl, rfl, SqL.of (s4 _ _ (kE _ nER2 _ hR2)), (by rw [e0]; exact atI_nat (v := V.ref (rs2[j])) (by rw [List.getElem?_map, List.getElem?_eq_getElem hjr2]; rfl)), ?_⟩
      exact ⟨y, G, rs2[j], 1 + z0, os, t1, t2, t3, t4, rfl, (LB.keep kE lstE).same s4, s4 _ _ (kE _ nGE _ h16G), by omega, ⟨by omega, by omega⟩, pos2, s4 _ _ (kE _ n2 _ hr2), ⟨big _ g1, big _ g2, big _ g3, big _ g4⟩, fun H3 s5 => ⟨_, rfl, iteF ⟨s4.trans s5, _, rfl⟩⟩⟩
    · rintro σ H2 ⟨s2, z13, rfl⟩
      have hE2 := s2 _ _ hE
      refine ⟨_, rfl, .inl ⟨rfl, _, SqL.of hE2⟩, _, rfl, E1, _, 0, _, rfl, rfl, hE2, (by rw [List.length_map, sizeLine_eq]; omega), by decide, by decide, ?_⟩
      refine ⟨_, rfl, .inl ⟨rfl, _, SqL.of upd_same⟩, E1, _, _, rfl, rfl, upd_same, (by rw [List.length_append, List.length_append, List.length_take, List.length_drop, List.length_map, sizeLine_eq]; show _ + 1 + _ < _; omega), (kE.same s2).upd.upd, ⟨(1 + h0) :: (hs ++ [1]), ?_, ?_⟩, _, _, rfl⟩
      · rw [upd_same, List.map_cons, List.map_append]; rfl
      · rw [List.length_cons, List.length_append]; show _ + 1 + 1 ≤ _; omega
  · rintro σ H' ⟨kE, _, z12, z13, rfl⟩
    exact kk _
end
end LR

set_option Elab.async false
set_option maxRecDepth 100000
set_option linter.all false
set_option maxHeartbeats 4000000
namespace LR
open PySem PySem.Spec PyProof.Rows L2
theorem all_mk {P : Program} {K : PySem.W.Frag} {h : Heap} {mg : Str → Option Value} (X : K.In h) (G : h.Ns mainGlobals mg)
    {od_check_height an_check_height : Option Addr} {sl_check_height : Array (Option Value)} {oc_check_height kV_check_height dc_check_height pm_check_height ct_check_height : Value} {f_check_height : Addr} {cd_check_height : Value} {od_check_row an_check_row : Option Addr} {sl_check_row : Array (Option Value)} {oc_check_row kV_check_row dc_check_row pm_check_row ct_check_row : Value} {f_check_row : Addr} {cd_check_row : Value} {od_check_step an_check_step : Option Addr} {sl_check_step : Array (Option Value)} {oc_check_step kV_check_step dc_check_step pm_check_step ct_check_step : Value} {f_check_step : Addr} {cd_check_step : Value} {od_check_rank an_check_rank : Option Addr} {sl_check_rank : Array (Option Value)} {oc_check_rank kV_check_rank dc_check_rank pm_check_rank ct_check_rank : Value} {f_check_rank : Addr} {cd_check_rank : Value} {od__counts_from an__counts_from : Option Addr} {sl__counts_from : Array (Option Value)} {oc__counts_from kV__counts_from dc__counts_from pm__counts_from ct__counts_from : Value} {f__counts_from : Addr} {cd__counts_from : Value} {od_pool an_pool : Option Addr} {sl_pool : Array (Option Value)} {oc_pool kV_pool dc_pool pm_pool ct_pool : Value} {f_pool : Addr} {cd_pool : Value} {od_draw an_draw : Option Addr} {sl_draw : Array (Option Value)} {oc_draw kV_draw dc_draw pm_draw ct_draw : Value} {f_draw : Addr} {cd_draw : Value} {od_levels an_levels : Option Addr} {sl_levels : Array (Option Value)} {oc_levels kV_levels dc_levels pm_levels ct_levels : Value} {f_levels : Addr} {cd_levels : Value} {od_number an_number : Option Addr} {sl_number : Array (Option Value)} {oc_number kV_number dc_number pm_number ct_number : Value} {f_number : Addr} {cd_number : Value} {od_same an_same : Option Addr} {sl_same : Array (Option Value)} {oc_same kV_same dc_same pm_same ct_same : Value} {f_same : Addr} {cd_same : Value} {od_gap an_gap : Option Addr} {sl_gap : Array (Option Value)} {oc_gap kV_gap dc_gap pm_gap ct_gap : Value} {f_gap : Addr} {cd_gap : Value} {od_allows an_allows : Option Addr} {sl_allows : Array (Option Value)} {oc_allows kV_allows dc_allows pm_allows ct_allows : Value} {f_allows : Addr} {cd_allows : Value} {od_wild an_wild : Option Addr} {sl_wild : Array (Option Value)} {oc_wild kV_wild dc_wild pm_wild ct_wild : Value} {f_wild : Addr} {cd_wild : Value} {od_rows an_rows : Option Addr} {sl_rows : Array (Option Value)} {oc_rows kV_rows dc_rows pm_rows ct_rows : Value} {f_rows : Addr} {cd_rows : Value} {od_asked an_asked : Option Addr} {sl_asked : Array (Option Value)} {oc_asked kV_asked dc_asked pm_asked ct_asked : Value} {f_asked : Addr} {cd_asked : Value} {od_refusal an_refusal : Option Addr} {sl_refusal : Array (Option Value)} {oc_refusal kV_refusal dc_refusal pm_refusal ct_refusal : Value} {f_refusal : Addr} {cd_refusal : Value} {od_gap_due an_gap_due : Option Addr} {sl_gap_due : Array (Option Value)} {oc_gap_due kV_gap_due dc_gap_due pm_gap_due ct_gap_due : Value} {f_gap_due : Addr} {cd_gap_due : Value} {od_high an_high : Option Addr} {sl_high : Array (Option Value)} {oc_high kV_high dc_high pm_high ct_high : Value} {f_high : Addr} {cd_high : Value} {od_high_due an_high_due : Option Addr} {sl_high_due : Array (Option Value)} {oc_high_due kV_high_due dc_high_due pm_high_due ct_high_due : Value} {f_high_due : Addr} {cd_high_due : Value} {od_allows_due an_allows_due : Option Addr} {sl_allows_due : Array (Option Value)} {oc_allows_due kV_allows_due dc_allows_due pm_allows_due ct_allows_due : Value} {f_allows_due : Addr} {cd_allows_due : Value} {od_highs_agree an_highs_agree : Option Addr} {sl_highs_agree : Array (Option Value)} {oc_highs_agree kV_highs_agree dc_highs_agree pm_highs_agree ct_highs_agree : Value} {f_highs_agree : Addr} {cd_highs_agree : Value} {od_turn an_turn : Option Addr} {sl_turn : Array (Option Value)} {oc_turn kV_turn dc_turn pm_turn ct_turn : Value} {f_turn : Addr} {cd_turn : Value} {od_fields an_fields : Option Addr} {sl_fields : Array (Option Value)} {oc_fields kV_fields dc_fields pm_fields ct_fields : Value} {f_fields : Addr} {cd_fields : Value} {od_law an_law : Option Addr} {sl_law : Array (Option Value)} {oc_law kV_law dc_law pm_law ct_law : Value} {f_law : Addr} {cd_law : Value} {C_Ladder : Addr} {od_L_init an_L_init : Option Addr} {sl_L_init : Array (Option Value)} {oc_L_init kV_L_init dc_L_init pm_L_init ct_L_init : Value} {f_L_init : Addr} {cd_L_init : Value} {od_L_gap an_L_gap : Option Addr} {sl_L_gap : Array (Option Value)} {oc_L_gap kV_L_gap dc_L_gap pm_L_gap ct_L_gap : Value} {f_L_gap : Addr} {cd_L_gap : Value} {od_L_high an_L_high : Option Addr} {sl_L_high : Array (Option Value)} {oc_L_high kV_L_high dc_L_high pm_L_high ct_L_high : Value} {f_L_high : Addr} {cd_L_high : Value} {od_L_allows an_L_allows : Option Addr} {sl_L_allows : Array (Option Value)} {oc_L_allows kV_L_allows dc_L_allows pm_L_allows ct_L_allows : Value} {f_L_allows : Addr} {cd_L_allows : Value} {od_Llets an_Llets : Option Addr} {sl_Llets : Array (Option Value)} {oc_Llets kV_Llets dc_Llets pm_Llets ct_Llets : Value} {f_Llets : Addr} {cd_Llets : Value} {od_L_iter an_L_iter : Option Addr} {sl_L_iter : Array (Option Value)} {oc_L_iter kV_L_iter dc_L_iter pm_L_iter ct_L_iter : Value} {f_L_iter : Addr} {cd_L_iter : Value} {u_Ladder_MOST_LEVELS : Value} {C_NoSuchStep : Addr} {nm_NoSuchStep qn_NoSuchStep : Str} {ns_NoSuchStep : Addr} {bs_NoSuchStep bm_NoSuchStep sb_NoSuchStep : List Value} {sn_NoSuchStep : List Str} {ab_NoSuchStep : Bool} {co_NoSuchStep : Option Bool} {dd_NoSuchStep : Option Addr} {k0_NoSuchStep k1_NoSuchStep k2_NoSuchStep k3_NoSuchStep k5_NoSuchStep : Option Value} {od_NoSuchStep_init an_NoSuchStep_init : Option Addr} {sl_NoSuchStep_init : Array (Option Value)} {oc_NoSuchStep_init kV_NoSuchStep_init dc_NoSuchStep_init pm_NoSuchStep_init ct_NoSuchStep_init : Value} {f_NoSuchStep_init : Addr} {cda_NoSuchStep_init cc_NoSuchStep_init : Addr} {ccl_NoSuchStep_init : Value} {cdd_NoSuchStep_init : Option Addr} {cvs_NoSuchStep_init : Array Value} {ccs_NoSuchStep_init : Array (Option Value)} {cfi_NoSuchStep_init : Str} {ctf_NoSuchStep_init : Tok} {ecl_NoSuchStep_init : Value} {eld_NoSuchStep_init : Option Addr} {esl_NoSuchStep_init : Array (Option Value)} {C_NoSuchRank : Addr} {nm_NoSuchRank qn_NoSuchRank : Str} {ns_NoSuchRank : Addr} {bs_NoSuchRank bm_NoSuchRank sb_NoSuchRank : List Value} {sn_NoSuchRank : List Str} {ab_NoSuchRank : Bool} {co_NoSuchRank : Option Bool} {dd_NoSuchRank : Option Addr} {k0_NoSuchRank k1_NoSuchRank k2_NoSuchRank k3_NoSuchRank k5_NoSuchRank : Option Value} {od_NoSuchRank_init an_NoSuchRank_init : Option Addr} {sl_NoSuchRank_init : Array (Option Value)} {oc_NoSuchRank_init kV_NoSuchRank_init dc_NoSuchRank_init pm_NoSuchRank_init ct_NoSuchRank_init : Value} {f_NoSuchRank_init : Addr} {cda_NoSuchRank_init cc_NoSuchRank_init : Addr} {ccl_NoSuchRank_init : Value} {cdd_NoSuchRank_init : Option Addr} {cvs_NoSuchRank_init : Array Value} {ccs_NoSuchRank_init : Array (Option Value)} {cfi_NoSuchRank_init : Str} {ctf_NoSuchRank_init : Tok} {ecl_NoSuchRank_init : Value} {eld_NoSuchRank_init : Option Addr} {esl_NoSuchRank_init : Array (Option Value)} {C_NoSuchLevel : Addr} {nm_NoSuchLevel qn_NoSuchLevel : Str} {ns_NoSuchLevel : Addr} {bs_NoSuchLevel bm_NoSuchLevel sb_NoSuchLevel : List Value} {sn_NoSuchLevel : List Str} {ab_NoSuchLevel : Bool} {co_NoSuchLevel : Option Bool} {dd_NoSuchLevel : Option Addr} {k0_NoSuchLevel k1_NoSuchLevel k2_NoSuchLevel k3_NoSuchLevel k5_NoSuchLevel : Option Value} {od_NoSuchLevel_init an_NoSuchLevel_init : Option Addr} {sl_NoSuchLevel_init : Array (Option Value)} {oc_NoSuchLevel_init kV_NoSuchLevel_init dc_NoSuchLevel_init pm_NoSuchLevel_init ct_NoSuchLevel_init : Value} {f_NoSuchLevel_init : Addr} {cda_NoSuchLevel_init cc_NoSuchLevel_init : Addr} {ccl_NoSuchLevel_init : Value} {cdd_NoSuchLevel_init : Option Addr} {cvs_NoSuchLevel_init : Array Value} {ccs_NoSuchLevel_init : Array (Option Value)} {cfi_NoSuchLevel_init : Str} {ctf_NoSuchLevel_init : Tok} {ecl_NoSuchLevel_init : Value} {eld_NoSuchLevel_init : Option Addr} {esl_NoSuchLevel_init : Array (Option Value)} {C_OutOfRange : Addr} {C_LadderreachError : Addr} {C_NoSuchNode : Addr} {C_NoSuchState : Addr} {C_NoSuchLetter : Addr} {C_GameError : Addr}
    (z_super : PySem.W.nsIn K mainGlobals "super" = some none)
    (z_any : PySem.W.nsIn K cStatics "thirdparty.any" = some none)
    (z_top : (P.main.scope.names.lookup ("super" : Str)).isSome = false)
    (z_len : PySem.W.nsIn K mainGlobals "len" = some none)
    (z_abs : PySem.W.nsIn K mainGlobals "abs" = some none)
    (z_max : PySem.W.nsIn K mainGlobals "max" = some none)
    (z_min : PySem.W.nsIn K mainGlobals "min" = some none)
    (z_isinstance : PySem.W.nsIn K mainGlobals "isinstance" = some none)
    (z_int : PySem.W.nsIn K mainGlobals "int" = some none)
    (z_bool : PySem.W.nsIn K mainGlobals "bool" = some none)
    (z_str : PySem.W.nsIn K mainGlobals "str" = some none)
    (z_list : PySem.W.nsIn K mainGlobals "list" = some none)
    (z_tuple : PySem.W.nsIn K mainGlobals "tuple" = some none)
    (z_range : PySem.W.nsIn K mainGlobals "range" = some none)
    (z_enumerate : PySem.W.nsIn K mainGlobals "enumerate" = some none)
    (z_iter : PySem.W.nsIn K mainGlobals "iter" = some none)
    (z_ValueError : PySem.W.nsIn K mainGlobals "ValueError" = some none)
    (o_gt : PySem.W.specialIn K (.builtin "object.__class__") "__get__" = some (some (.builtin "getset_descriptor.__get__")))
    (o_tk : PySem.W.takesIn K (.builtin "object.__class__") = some true)
    (a_check_height : PySem.W.nsIn K mainGlobals "check_height" = some (some (.ref f_check_height)))
    (l_check_height : K.lookup f_check_height = some ⟨oc_check_height, od_check_height, .func (PySem.W.fnOf "check_height" "check_height" (defArgs s_check_height) (defBody s_check_height) (defScope s_check_height) .none kV_check_height dc_check_height pm_check_height an_check_height cd_check_height ct_check_height), sl_check_height⟩)
    (c_check_height : PySem.W.codeIn K cd_check_height "check_height" = true)
    (k_check_height : PySem.W.keepIn K (.ref f_check_height) = true)
    (a_check_row : PySem.W.nsIn K mainGlobals "check_row" = some (some (.ref f_check_row)))
    (l_check_row : K.lookup f_check_row = some ⟨oc_check_row, od_check_row, .func (PySem.W.fnOf "check_row" "check_row" (defArgs s_check_row) (defBody s_check_row) (defScope s_check_row) .none kV_check_row dc_check_row pm_check_row an_check_row cd_check_row ct_check_row), sl_check_row⟩)
    (c_check_row : PySem.W.codeIn K cd_check_row "check_row" = true)
    (k_check_row : PySem.W.keepIn K (.ref f_check_row) = true)
    (a_check_step : PySem.W.nsIn K mainGlobals "check_step" = some (some (.ref f_check_step)))
    (l_check_step : K.lookup f_check_step = some ⟨oc_check_step, od_check_step, .func (PySem.W.fnOf "check_step" "check_step" (defArgs s_check_step) (defBody s_check_step) (defScope s_check_step) .none kV_check_step dc_check_step pm_check_step an_check_step cd_check_step ct_check_step), sl_check_step⟩)
    (c_check_step : PySem.W.codeIn K cd_check_step "check_step" = true)
    (k_check_step : PySem.W.keepIn K (.ref f_check_step) = true)
    (a_check_rank : PySem.W.nsIn K mainGlobals "check_rank" = some (some (.ref f_check_rank)))
    (l_check_rank : K.lookup f_check_rank = some ⟨oc_check_rank, od_check_rank, .func (PySem.W.fnOf "check_rank" "check_rank" (defArgs s_check_rank) (defBody s_check_rank) (defScope s_check_rank) .none kV_check_rank dc_check_rank pm_check_rank an_check_rank cd_check_rank ct_check_rank), sl_check_rank⟩)
    (c_check_rank : PySem.W.codeIn K cd_check_rank "check_rank" = true)
    (k_check_rank : PySem.W.keepIn K (.ref f_check_rank) = true)
    (a__counts_from : PySem.W.nsIn K mainGlobals "_counts_from" = some (some (.ref f__counts_from)))
    (l__counts_from : K.lookup f__counts_from = some ⟨oc__counts_from, od__counts_from, .func (PySem.W.fnOf "_counts_from" "_counts_from" (defArgs s__counts_from) (defBody s__counts_from) (defScope s__counts_from) .none kV__counts_from dc__counts_from pm__counts_from an__counts_from cd__counts_from ct__counts_from), sl__counts_from⟩)
    (c__counts_from : PySem.W.codeIn K cd__counts_from "_counts_from" = true)
    (k__counts_from : PySem.W.keepIn K (.ref f__counts_from) = true)
    (a_pool : PySem.W.nsIn K mainGlobals "_law_pool" = some (some (.ref f_pool)))
    (l_pool : K.lookup f_pool = some ⟨oc_pool, od_pool, .func (PySem.W.fnOf "_law_pool" "_law_pool" (defArgs s_pool) (defBody s_pool) (defScope s_pool) .none kV_pool dc_pool pm_pool an_pool cd_pool ct_pool), sl_pool⟩)
    (c_pool : PySem.W.codeIn K cd_pool "_law_pool" = true)
    (k_pool : PySem.W.keepIn K (.ref f_pool) = true)
    (a_draw : PySem.W.nsIn K mainGlobals "_law_draw" = some (some (.ref f_draw)))
    (l_draw : K.lookup f_draw = some ⟨oc_draw, od_draw, .func (PySem.W.fnOf "_law_draw" "_law_draw" (defArgs s_draw) (defBody s_draw) (defScope s_draw) .none kV_draw dc_draw pm_draw an_draw cd_draw ct_draw), sl_draw⟩)
    (c_draw : PySem.W.codeIn K cd_draw "_law_draw" = true)
    (k_draw : PySem.W.keepIn K (.ref f_draw) = true)
    (a_levels : PySem.W.nsIn K mainGlobals "_law_levels" = some (some (.ref f_levels)))
    (l_levels : K.lookup f_levels = some ⟨oc_levels, od_levels, .func (PySem.W.fnOf "_law_levels" "_law_levels" (defArgs s_levels) (defBody s_levels) (defScope s_levels) .none kV_levels dc_levels pm_levels an_levels cd_levels ct_levels), sl_levels⟩)
    (c_levels : PySem.W.codeIn K cd_levels "_law_levels" = true)
    (k_levels : PySem.W.keepIn K (.ref f_levels) = true)
    (a_number : PySem.W.nsIn K mainGlobals "_law_number" = some (some (.ref f_number)))
    (l_number : K.lookup f_number = some ⟨oc_number, od_number, .func (PySem.W.fnOf "_law_number" "_law_number" (defArgs s_number) (defBody s_number) (defScope s_number) .none kV_number dc_number pm_number an_number cd_number ct_number), sl_number⟩)
    (c_number : PySem.W.codeIn K cd_number "_law_number" = true)
    (k_number : PySem.W.keepIn K (.ref f_number) = true)
    (a_same : PySem.W.nsIn K mainGlobals "_law_same" = some (some (.ref f_same)))
    (l_same : K.lookup f_same = some ⟨oc_same, od_same, .func (PySem.W.fnOf "_law_same" "_law_same" (defArgs s_same) (defBody s_same) (defScope s_same) .none kV_same dc_same pm_same an_same cd_same ct_same), sl_same⟩)
    (c_same : PySem.W.codeIn K cd_same "_law_same" = true)
    (k_same : PySem.W.keepIn K (.ref f_same) = true)
    (a_gap : PySem.W.nsIn K mainGlobals "_law_gap" = some (some (.ref f_gap)))
    (l_gap : K.lookup f_gap = some ⟨oc_gap, od_gap, .func (PySem.W.fnOf "_law_gap" "_law_gap" (defArgs s_gap) (defBody s_gap) (defScope s_gap) .none kV_gap dc_gap pm_gap an_gap cd_gap ct_gap), sl_gap⟩)
    (c_gap : PySem.W.codeIn K cd_gap "_law_gap" = true)
    (k_gap : PySem.W.keepIn K (.ref f_gap) = true)
    (a_allows : PySem.W.nsIn K mainGlobals "_law_allows" = some (some (.ref f_allows)))
    (l_allows : K.lookup f_allows = some ⟨oc_allows, od_allows, .func (PySem.W.fnOf "_law_allows" "_law_allows" (defArgs s_allows) (defBody s_allows) (defScope s_allows) .none kV_allows dc_allows pm_allows an_allows cd_allows ct_allows), sl_allows⟩)
    (c_allows : PySem.W.codeIn K cd_allows "_law_allows" = true)
    (k_allows : PySem.W.keepIn K (.ref f_allows) = true)
    (a_wild : PySem.W.nsIn K mainGlobals "_law_wild" = some (some (.ref f_wild)))
    (l_wild : K.lookup f_wild = some ⟨oc_wild, od_wild, .func (PySem.W.fnOf "_law_wild" "_law_wild" (defArgs s_wild) (defBody s_wild) (defScope s_wild) .none kV_wild dc_wild pm_wild an_wild cd_wild ct_wild), sl_wild⟩)
    (c_wild : PySem.W.codeIn K cd_wild "_law_wild" = true)
    (k_wild : PySem.W.keepIn K (.ref f_wild) = true)
    (a_rows : PySem.W.nsIn K mainGlobals "_law_rows" = some (some (.ref f_rows)))
    (l_rows : K.lookup f_rows = some ⟨oc_rows, od_rows, .func (PySem.W.fnOf "_law_rows" "_law_rows" (defArgs s_rows) (defBody s_rows) (defScope s_rows) .none kV_rows dc_rows pm_rows an_rows cd_rows ct_rows), sl_rows⟩)
    (c_rows : PySem.W.codeIn K cd_rows "_law_rows" = true)
    (k_rows : PySem.W.keepIn K (.ref f_rows) = true)
    (a_asked : PySem.W.nsIn K mainGlobals "_law_asked" = some (some (.ref f_asked)))
    (l_asked : K.lookup f_asked = some ⟨oc_asked, od_asked, .func (PySem.W.fnOf "_law_asked" "_law_asked" (defArgs s_asked) (defBody s_asked) (defScope s_asked) .none kV_asked dc_asked pm_asked an_asked cd_asked ct_asked), sl_asked⟩)
    (c_asked : PySem.W.codeIn K cd_asked "_law_asked" = true)
    (k_asked : PySem.W.keepIn K (.ref f_asked) = true)
    (a_refusal : PySem.W.nsIn K mainGlobals "_law_refusal" = some (some (.ref f_refusal)))
    (l_refusal : K.lookup f_refusal = some ⟨oc_refusal, od_refusal, .func (PySem.W.fnOf "_law_refusal" "_law_refusal" (defArgs s_refusal) (defBody s_refusal) (defScope s_refusal) .none kV_refusal dc_refusal pm_refusal an_refusal cd_refusal ct_refusal), sl_refusal⟩)
    (c_refusal : PySem.W.codeIn K cd_refusal "_law_refusal" = true)
    (k_refusal : PySem.W.keepIn K (.ref f_refusal) = true)
    (a_gap_due : PySem.W.nsIn K mainGlobals "_law_gap_due" = some (some (.ref f_gap_due)))
    (l_gap_due : K.lookup f_gap_due = some ⟨oc_gap_due, od_gap_due, .func (PySem.W.fnOf "_law_gap_due" "_law_gap_due" (defArgs s_gap_due) (defBody s_gap_due) (defScope s_gap_due) .none kV_gap_due dc_gap_due pm_gap_due an_gap_due cd_gap_due ct_gap_due), sl_gap_due⟩)
    (c_gap_due : PySem.W.codeIn K cd_gap_due "_law_gap_due" = true)
    (k_gap_due : PySem.W.keepIn K (.ref f_gap_due) = true)
    (a_high : PySem.W.nsIn K mainGlobals "_law_high" = some (some (.ref f_high)))
    (l_high : K.lookup f_high = some ⟨oc_high, od_high, .func (PySem.W.fnOf "_law_high" "_law_high" (defArgs s_high) (defBody s_high) (defScope s_high) .none kV_high dc_high pm_high an_high cd_high ct_high), sl_high⟩)
    (c_high : PySem.W.codeIn K cd_high "_law_high" = true)
    (k_high : PySem.W.keepIn K (.ref f_high) = true)
    (a_high_due : PySem.W.nsIn K mainGlobals "_law_high_due" = some (some (.ref f_high_due)))
    (l_high_due : K.lookup f_high_due = some ⟨oc_high_due, od_high_due, .func (PySem.W.fnOf "_law_high_due" "_law_high_due" (defArgs s_high_due) (defBody s_high_due) (defScope s_high_due) .none kV_high_due dc_high_due pm_high_due an_high_due cd_high_due ct_high_due), sl_high_due⟩)
    (c_high_due : PySem.W.codeIn K cd_high_due "_law_high_due" = true)
    (k_high_due : PySem.W.keepIn K (.ref f_high_due) = true)
    (a_allows_due : PySem.W.nsIn K mainGlobals "_law_allows_due" = some (some (.ref f_allows_due)))
    (l_allows_due : K.lookup f_allows_due = some ⟨oc_allows_due, od_allows_due, .func (PySem.W.fnOf "_law_allows_due" "_law_allows_due" (defArgs s_allows_due) (defBody s_allows_due) (defScope s_allows_due) .none kV_allows_due dc_allows_due pm_allows_due an_allows_due cd_allows_due ct_allows_due), sl_allows_due⟩)
    (c_allows_due : PySem.W.codeIn K cd_allows_due "_law_allows_due" = true)
    (k_allows_due : PySem.W.keepIn K (.ref f_allows_due) = true)
    (a_highs_agree : PySem.W.nsIn K mainGlobals "_law_highs_agree" = some (some (.ref f_highs_agree)))
    (l_highs_agree : K.lookup f_highs_agree = some ⟨oc_highs_agree, od_highs_agree, .func (PySem.W.fnOf "_law_highs_agree" "_law_highs_agree" (defArgs s_highs_agree) (defBody s_highs_agree) (defScope s_highs_agree) .none kV_highs_agree dc_highs_agree pm_highs_agree an_highs_agree cd_highs_agree ct_highs_agree), sl_highs_agree⟩)
    (c_highs_agree : PySem.W.codeIn K cd_highs_agree "_law_highs_agree" = true)
    (k_highs_agree : PySem.W.keepIn K (.ref f_highs_agree) = true)
    (a_turn : PySem.W.nsIn K mainGlobals "_law_turn" = some (some (.ref f_turn)))
    (l_turn : K.lookup f_turn = some ⟨oc_turn, od_turn, .func (PySem.W.fnOf "_law_turn" "_law_turn" (defArgs s_turn) (defBody s_turn) (defScope s_turn) .none kV_turn dc_turn pm_turn an_turn cd_turn ct_turn), sl_turn⟩)
    (c_turn : PySem.W.codeIn K cd_turn "_law_turn" = true)
    (k_turn : PySem.W.keepIn K (.ref f_turn) = true)
    (a_fields : PySem.W.nsIn K mainGlobals "_law_fields" = some (some (.ref f_fields)))
    (l_fields : K.lookup f_fields = some ⟨oc_fields, od_fields, .func (PySem.W.fnOf "_law_fields" "_law_fields" (defArgs s_fields) (defBody s_fields) (defScope s_fields) .none kV_fields dc_fields pm_fields an_fields cd_fields ct_fields), sl_fields⟩)
    (c_fields : PySem.W.codeIn K cd_fields "_law_fields" = true)
    (k_fields : PySem.W.keepIn K (.ref f_fields) = true)
    (a_law : PySem.W.nsIn K mainGlobals "law" = some (some (.ref f_law)))
    (l_law : K.lookup f_law = some ⟨oc_law, od_law, .func (PySem.W.fnOf "law" "law" (defArgs s_law) (defBody s_law) (defScope s_law) .none kV_law dc_law pm_law an_law cd_law ct_law), sl_law⟩)
    (c_law : PySem.W.codeIn K cd_law "law" = true)
    (k_law : PySem.W.keepIn K (.ref f_law) = true)
    (aC_Ladder : PySem.W.nsIn K mainGlobals "Ladder" = some (some (.ref C_Ladder)))
    (pg_Ladder : PySem.W.plainGet K C_Ladder Str.empty = true)
    (hd_Ladder : PySem.W.hasDictIn K C_Ladder = true)
    (po_Ladder : PySem.W.plainOver K C_Ladder = true)
    (sa_Ladder : PySem.W.findIn K (.ref C_Ladder) "__setattr__" = some (some (.builtin "object.__setattr__")))
    (na_Ladder_height : PySem.W.findIn K (.ref C_Ladder) "height" = some none)
    (na_Ladder_levels : PySem.W.findIn K (.ref C_Ladder) "levels" = some none)
    (na_Ladder_top : PySem.W.findIn K (.ref C_Ladder) "top" = some none)
    (na_Ladder__counts : PySem.W.findIn K (.ref C_Ladder) "_counts" = some none)
    (na_Ladder___len__ : PySem.W.findIn K (.ref C_Ladder) "__len__" = some none)
    (na_Ladder___length_hint__ : PySem.W.findIn K (.ref C_Ladder) "__length_hint__" = some none)
    (mk_Ladder : PySem.W.makesIn K C_Ladder = true)
    (kc_Ladder : PySem.W.keepIn K (.ref C_Ladder) = true)
    (a_L_init : PySem.W.findIn K (.ref C_Ladder) "__init__" = some (some (.ref f_L_init)))
    (i_L_init : PySem.W.isFn K (.ref f_L_init) = true)
    (l_L_init : K.lookup f_L_init = some ⟨oc_L_init, od_L_init, .func (PySem.W.fnOf "__init__" "Ladder.__init__" (defArgs s_L_init) (defBody s_L_init) (defScope s_L_init) .none kV_L_init dc_L_init pm_L_init an_L_init cd_L_init ct_L_init), sl_L_init⟩)
    (c_L_init : PySem.W.codeIn K cd_L_init "Ladder.__init__" = true)
    (k_L_init : PySem.W.keepIn K (.ref f_L_init) = true)
    (a_L_gap : PySem.W.findIn K (.ref C_Ladder) "gap" = some (some (.ref f_L_gap)))
    (i_L_gap : PySem.W.isFn K (.ref f_L_gap) = true)
    (l_L_gap : K.lookup f_L_gap = some ⟨oc_L_gap, od_L_gap, .func (PySem.W.fnOf "gap" "Ladder.gap" (defArgs s_L_gap) (defBody s_L_gap) (defScope s_L_gap) .none kV_L_gap dc_L_gap pm_L_gap an_L_gap cd_L_gap ct_L_gap), sl_L_gap⟩)
    (c_L_gap : PySem.W.codeIn K cd_L_gap "Ladder.gap" = true)
    (k_L_gap : PySem.W.keepIn K (.ref f_L_gap) = true)
    (a_L_high : PySem.W.findIn K (.ref C_Ladder) "high" = some (some (.ref f_L_high)))
    (i_L_high : PySem.W.isFn K (.ref f_L_high) = true)
    (l_L_high : K.lookup f_L_high = some ⟨oc_L_high, od_L_high, .func (PySem.W.fnOf "high" "Ladder.high" (defArgs s_L_high) (defBody s_L_high) (defScope s_L_high) .none kV_L_high dc_L_high pm_L_high an_L_high cd_L_high ct_L_high), sl_L_high⟩)
    (c_L_high : PySem.W.codeIn K cd_L_high "Ladder.high" = true)
    (k_L_high : PySem.W.keepIn K (.ref f_L_high) = true)
    (a_L_allows : PySem.W.findIn K (.ref C_Ladder) "allows" = some (some (.ref f_L_allows)))
    (i_L_allows : PySem.W.isFn K (.ref f_L_allows) = true)
    (l_L_allows : K.lookup f_L_allows = some ⟨oc_L_allows, od_L_allows, .func (PySem.W.fnOf "allows" "Ladder.allows" (defArgs s_L_allows) (defBody s_L_allows) (defScope s_L_allows) .none kV_L_allows dc_L_allows pm_L_allows an_L_allows cd_L_allows ct_L_allows), sl_L_allows⟩)
    (c_L_allows : PySem.W.codeIn K cd_L_allows "Ladder.allows" = true)
    (k_L_allows : PySem.W.keepIn K (.ref f_L_allows) = true)
    (a_Llets : PySem.W.findIn K (.ref C_Ladder) "_lets" = some (some (.ref f_Llets)))
    (i_Llets : PySem.W.isFn K (.ref f_Llets) = true)
    (l_Llets : K.lookup f_Llets = some ⟨oc_Llets, od_Llets, .func (PySem.W.fnOf "_lets" "Ladder._lets" (defArgs s_Llets) (defBody s_Llets) (defScope s_Llets) .none kV_Llets dc_Llets pm_Llets an_Llets cd_Llets ct_Llets), sl_Llets⟩)
    (c_Llets : PySem.W.codeIn K cd_Llets "Ladder._lets" = true)
    (k_Llets : PySem.W.keepIn K (.ref f_Llets) = true)
    (a_L_iter : PySem.W.findIn K (.ref C_Ladder) "__iter__" = some (some (.ref f_L_iter)))
    (i_L_iter : PySem.W.isFn K (.ref f_L_iter) = true)
    (l_L_iter : K.lookup f_L_iter = some ⟨oc_L_iter, od_L_iter, .func (PySem.W.fnOf "__iter__" "Ladder.__iter__" (defArgs s_L_iter) (defBody s_L_iter) (defScope s_L_iter) .none kV_L_iter dc_L_iter pm_L_iter an_L_iter cd_L_iter ct_L_iter), sl_L_iter⟩)
    (c_L_iter : PySem.W.codeIn K cd_L_iter "Ladder.__iter__" = true)
    (k_L_iter : PySem.W.keepIn K (.ref f_L_iter) = true)
    (cr_Ladder_MOST_LEVELS : PySem.W.readsIn K C_Ladder (.type "type") = true)
    (cg_Ladder_MOST_LEVELS : PySem.W.specialIn K (.ref C_Ladder) "__getattribute__" = some (some (.builtin "type.__getattribute__")))
    (cf_Ladder_MOST_LEVELS : PySem.W.findCls K (.ref C_Ladder) (.type "type") "MOST_LEVELS" = some (.val u_Ladder_MOST_LEVELS))
    (cx_Ladder_MOST_LEVELS : RelV (.int 24) u_Ladder_MOST_LEVELS)
    (aN_NoSuchStep : PySem.W.nsIn K mainGlobals "NoSuchStep" = some (some (.ref C_NoSuchStep)))
    (x_NoSuchStep : K.lookup C_NoSuchStep = some (excClassObj nm_NoSuchStep qn_NoSuchStep C_NoSuchStep ns_NoSuchStep bs_NoSuchStep bm_NoSuchStep true sn_NoSuchStep sb_NoSuchStep ab_NoSuchStep co_NoSuchStep dd_NoSuchStep k0_NoSuchStep k1_NoSuchStep k2_NoSuchStep k3_NoSuchStep k5_NoSuchStep "ValueError.__new__"))
    (r_NoSuchStep : PySem.HandSPX.refsVE bm_NoSuchStep = true)
    (sa_NoSuchStep : PySem.W.findIn K (.ref C_NoSuchStep) "__setattr__" = some (some (.builtin "object.__setattr__")))
    (xb_NoSuchStep : PySem.W.subIn K (.ref C_NoSuchStep) (.type "BaseException") = some true)
    (tc_NoSuchStep : PySem.W.typeIn K (.ref C_NoSuchStep) = some (.type "type"))
    (kc_NoSuchStep : PySem.W.keepIn K (.ref C_NoSuchStep) = true)
    (ga_NoSuchStep : PySem.W.findIn K (.ref C_NoSuchStep) "__getattribute__" = some (some (.builtin "BaseException.__getattribute__")))
    (gg_NoSuchStep : PySem.W.findIn K (.ref C_NoSuchStep) "__getattr__" = some none)
    (ac_NoSuchStep : PySem.W.findIn K (.ref C_NoSuchStep) "__class__" = some (some (.builtin "object.__class__")))
    (mo_NoSuchStep : PySem.W.mroIn K C_NoSuchStep (.type "object") = some true)
    (hd_NoSuchStep : PySem.W.hasDictIn K C_NoSuchStep = true)
    (ic_NoSuchStep : PySem.W.isClsIn K C_NoSuchStep = true)
    (no_NoSuchStep : PySem.W.findIn K (.ref C_NoSuchStep) "step" = some none)
    (sv_NoSuchStep : PySem.W.subIn K (.ref C_NoSuchStep) (.type "ValueError") = some true)
    (mr_NoSuchStep : PySem.W.mroIn K C_NoSuchStep (.ref C_NoSuchStep) = some true)
    (sm_NoSuchStep : PySem.W.ks_superIn K C_NoSuchStep C_NoSuchStep "__init__" = some (some (.builtin "ValueError.__init__")))
    (a_NoSuchStep_init : PySem.W.findIn K (.ref C_NoSuchStep) "__init__" = some (some (.ref f_NoSuchStep_init)))
    (t_NoSuchStep_init : PySem.W.typeIn K (.ref f_NoSuchStep_init) = some (.type "function"))
    (l_NoSuchStep_init : K.lookup f_NoSuchStep_init = some ⟨oc_NoSuchStep_init, od_NoSuchStep_init, .func (PySem.W.ksFn "__init__" "NoSuchStep.__init__" (defArgs s_NoSuchStep_init) (defBody s_NoSuchStep_init) (defScope s_NoSuchStep_init) .none kV_NoSuchStep_init dc_NoSuchStep_init pm_NoSuchStep_init an_NoSuchStep_init (.ref cda_NoSuchStep_init) ct_NoSuchStep_init cc_NoSuchStep_init), sl_NoSuchStep_init⟩)
    (c_NoSuchStep_init : PySem.W.codeIn K (.ref cda_NoSuchStep_init) "NoSuchStep.__init__" = true)
    (h_NoSuchStep_init : K.lookup cda_NoSuchStep_init = some ⟨ccl_NoSuchStep_init, cdd_NoSuchStep_init, .fields cvs_NoSuchStep_init, ccs_NoSuchStep_init⟩)
    (v_NoSuchStep_init : cvs_NoSuchStep_init[2]? = some (.str cfi_NoSuchStep_init ctf_NoSuchStep_init))
    (p_NoSuchStep_init : ((P.main.file : Str) == cfi_NoSuchStep_init) = true)
    (e_NoSuchStep_init : K.lookup cc_NoSuchStep_init = some ⟨ecl_NoSuchStep_init, eld_NoSuchStep_init, .cell (some (.ref C_NoSuchStep)), esl_NoSuchStep_init⟩)
    (aN_NoSuchRank : PySem.W.nsIn K mainGlobals "NoSuchRank" = some (some (.ref C_NoSuchRank)))
    (x_NoSuchRank : K.lookup C_NoSuchRank = some (excClassObj nm_NoSuchRank qn_NoSuchRank C_NoSuchRank ns_NoSuchRank bs_NoSuchRank bm_NoSuchRank true sn_NoSuchRank sb_NoSuchRank ab_NoSuchRank co_NoSuchRank dd_NoSuchRank k0_NoSuchRank k1_NoSuchRank k2_NoSuchRank k3_NoSuchRank k5_NoSuchRank "ValueError.__new__"))
    (r_NoSuchRank : PySem.HandSPX.refsVE bm_NoSuchRank = true)
    (sa_NoSuchRank : PySem.W.findIn K (.ref C_NoSuchRank) "__setattr__" = some (some (.builtin "object.__setattr__")))
    (xb_NoSuchRank : PySem.W.subIn K (.ref C_NoSuchRank) (.type "BaseException") = some true)
    (tc_NoSuchRank : PySem.W.typeIn K (.ref C_NoSuchRank) = some (.type "type"))
    (kc_NoSuchRank : PySem.W.keepIn K (.ref C_NoSuchRank) = true)
    (ga_NoSuchRank : PySem.W.findIn K (.ref C_NoSuchRank) "__getattribute__" = some (some (.builtin "BaseException.__getattribute__")))
    (gg_NoSuchRank : PySem.W.findIn K (.ref C_NoSuchRank) "__getattr__" = some none)
    (ac_NoSuchRank : PySem.W.findIn K (.ref C_NoSuchRank) "__class__" = some (some (.builtin "object.__class__")))
    (mo_NoSuchRank : PySem.W.mroIn K C_NoSuchRank (.type "object") = some true)
    (hd_NoSuchRank : PySem.W.hasDictIn K C_NoSuchRank = true)
    (ic_NoSuchRank : PySem.W.isClsIn K C_NoSuchRank = true)
    (no_NoSuchRank : PySem.W.findIn K (.ref C_NoSuchRank) "rank" = some none)
    (sv_NoSuchRank : PySem.W.subIn K (.ref C_NoSuchRank) (.type "ValueError") = some true)
    (mr_NoSuchRank : PySem.W.mroIn K C_NoSuchRank (.ref C_NoSuchRank) = some true)
    (sm_NoSuchRank : PySem.W.ks_superIn K C_NoSuchRank C_NoSuchRank "__init__" = some (some (.builtin "ValueError.__init__")))
    (a_NoSuchRank_init : PySem.W.findIn K (.ref C_NoSuchRank) "__init__" = some (some (.ref f_NoSuchRank_init)))
    (t_NoSuchRank_init : PySem.W.typeIn K (.ref f_NoSuchRank_init) = some (.type "function"))
    (l_NoSuchRank_init : K.lookup f_NoSuchRank_init = some ⟨oc_NoSuchRank_init, od_NoSuchRank_init, .func (PySem.W.ksFn "__init__" "NoSuchRank.__init__" (defArgs s_NoSuchRank_init) (defBody s_NoSuchRank_init) (defScope s_NoSuchRank_init) .none kV_NoSuchRank_init dc_NoSuchRank_init pm_NoSuchRank_init an_NoSuchRank_init (.ref cda_NoSuchRank_init) ct_NoSuchRank_init cc_NoSuchRank_init), sl_NoSuchRank_init⟩)
    (c_NoSuchRank_init : PySem.W.codeIn K (.ref cda_NoSuchRank_init) "NoSuchRank.__init__" = true)
    (h_NoSuchRank_init : K.lookup cda_NoSuchRank_init = some ⟨ccl_NoSuchRank_init, cdd_NoSuchRank_init, .fields cvs_NoSuchRank_init, ccs_NoSuchRank_init⟩)
    (v_NoSuchRank_init : cvs_NoSuchRank_init[2]? = some (.str cfi_NoSuchRank_init ctf_NoSuchRank_init))
    (p_NoSuchRank_init : ((P.main.file : Str) == cfi_NoSuchRank_init) = true)
    (e_NoSuchRank_init : K.lookup cc_NoSuchRank_init = some ⟨ecl_NoSuchRank_init, eld_NoSuchRank_init, .cell (some (.ref C_NoSuchRank)), esl_NoSuchRank_init⟩)
    (aN_NoSuchLevel : PySem.W.nsIn K mainGlobals "NoSuchLevel" = some (some (.ref C_NoSuchLevel)))
    (x_NoSuchLevel : K.lookup C_NoSuchLevel = some (excClassObj nm_NoSuchLevel qn_NoSuchLevel C_NoSuchLevel ns_NoSuchLevel bs_NoSuchLevel bm_NoSuchLevel true sn_NoSuchLevel sb_NoSuchLevel ab_NoSuchLevel co_NoSuchLevel dd_NoSuchLevel k0_NoSuchLevel k1_NoSuchLevel k2_NoSuchLevel k3_NoSuchLevel k5_NoSuchLevel "ValueError.__new__"))
    (r_NoSuchLevel : PySem.HandSPX.refsVE bm_NoSuchLevel = true)
    (sa_NoSuchLevel : PySem.W.findIn K (.ref C_NoSuchLevel) "__setattr__" = some (some (.builtin "object.__setattr__")))
    (xb_NoSuchLevel : PySem.W.subIn K (.ref C_NoSuchLevel) (.type "BaseException") = some true)
    (tc_NoSuchLevel : PySem.W.typeIn K (.ref C_NoSuchLevel) = some (.type "type"))
    (kc_NoSuchLevel : PySem.W.keepIn K (.ref C_NoSuchLevel) = true)
    (ga_NoSuchLevel : PySem.W.findIn K (.ref C_NoSuchLevel) "__getattribute__" = some (some (.builtin "BaseException.__getattribute__")))
    (gg_NoSuchLevel : PySem.W.findIn K (.ref C_NoSuchLevel) "__getattr__" = some none)
    (ac_NoSuchLevel : PySem.W.findIn K (.ref C_NoSuchLevel) "__class__" = some (some (.builtin "object.__class__")))
    (mo_NoSuchLevel : PySem.W.mroIn K C_NoSuchLevel (.type "object") = some true)
    (hd_NoSuchLevel : PySem.W.hasDictIn K C_NoSuchLevel = true)
    (ic_NoSuchLevel : PySem.W.isClsIn K C_NoSuchLevel = true)
    (no_NoSuchLevel : PySem.W.findIn K (.ref C_NoSuchLevel) "level" = some none)
    (sv_NoSuchLevel : PySem.W.subIn K (.ref C_NoSuchLevel) (.type "ValueError") = some true)
    (mr_NoSuchLevel : PySem.W.mroIn K C_NoSuchLevel (.ref C_NoSuchLevel) = some true)
    (sm_NoSuchLevel : PySem.W.ks_superIn K C_NoSuchLevel C_NoSuchLevel "__init__" = some (some (.builtin "ValueError.__init__")))
    (a_NoSuchLevel_init : PySem.W.findIn K (.ref C_NoSuchLevel) "__init__" = some (some (.ref f_NoSuchLevel_init)))
    (t_NoSuchLevel_init : PySem.W.typeIn K (.ref f_NoSuchLevel_init) = some (.type "function"))
    (l_NoSuchLevel_init : K.lookup f_NoSuchLevel_init = some ⟨oc_NoSuchLevel_init, od_NoSuchLevel_init, .func (PySem.W.ksFn "__init__" "NoSuchLevel.__init__" (defArgs s_NoSuchLevel_init) (defBody s_NoSuchLevel_init) (defScope s_NoSuchLevel_init) .none kV_NoSuchLevel_init dc_NoSuchLevel_init pm_NoSuchLevel_init an_NoSuchLevel_init (.ref cda_NoSuchLevel_init) ct_NoSuchLevel_init cc_NoSuchLevel_init), sl_NoSuchLevel_init⟩)
    (c_NoSuchLevel_init : PySem.W.codeIn K (.ref cda_NoSuchLevel_init) "NoSuchLevel.__init__" = true)
    (h_NoSuchLevel_init : K.lookup cda_NoSuchLevel_init = some ⟨ccl_NoSuchLevel_init, cdd_NoSuchLevel_init, .fields cvs_NoSuchLevel_init, ccs_NoSuchLevel_init⟩)
    (v_NoSuchLevel_init : cvs_NoSuchLevel_init[2]? = some (.str cfi_NoSuchLevel_init ctf_NoSuchLevel_init))
    (p_NoSuchLevel_init : ((P.main.file : Str) == cfi_NoSuchLevel_init) = true)
    (e_NoSuchLevel_init : K.lookup cc_NoSuchLevel_init = some ⟨ecl_NoSuchLevel_init, eld_NoSuchLevel_init, .cell (some (.ref C_NoSuchLevel)), esl_NoSuchLevel_init⟩)
    (aN_OutOfRange : PySem.W.nsIn K mainGlobals "OutOfRange" = some (some (.ref C_OutOfRange)))
    (aN_LadderreachError : PySem.W.nsIn K mainGlobals "LadderreachError" = some (some (.ref C_LadderreachError)))
    (aN_NoSuchNode : PySem.W.nsIn K mainGlobals "NoSuchNode" = some (some (.ref C_NoSuchNode)))
    (aN_NoSuchState : PySem.W.nsIn K mainGlobals "NoSuchState" = some (some (.ref C_NoSuchState)))
    (aN_NoSuchLetter : PySem.W.nsIn K mainGlobals "NoSuchLetter" = some (some (.ref C_NoSuchLetter)))
    (aN_GameError : PySem.W.nsIn K mainGlobals "GameError" = some (some (.ref C_GameError)))
    (kit_NoSuchStep_OutOfRange : PySem.W.kitOne K (.ref C_NoSuchStep) (.ref C_OutOfRange) = some true)
    (kit_NoSuchStep_LadderreachError : PySem.W.kitOne K (.ref C_NoSuchStep) (.ref C_LadderreachError) = some true)
    (kit_NoSuchStep_ValueError : PySem.W.kitOne K (.ref C_NoSuchStep) (.type "ValueError") = some true)
    (kit_NoSuchStep_NoSuchRank : PySem.W.kitOne K (.ref C_NoSuchStep) (.ref C_NoSuchRank) = some false)
    (kit_NoSuchStep_NoSuchLevel : PySem.W.kitOne K (.ref C_NoSuchStep) (.ref C_NoSuchLevel) = some false)
    (kit_NoSuchStep_NoSuchNode : PySem.W.kitOne K (.ref C_NoSuchStep) (.ref C_NoSuchNode) = some false)
    (kit_NoSuchStep_NoSuchState : PySem.W.kitOne K (.ref C_NoSuchStep) (.ref C_NoSuchState) = some false)
    (kit_NoSuchStep_NoSuchLetter : PySem.W.kitOne K (.ref C_NoSuchStep) (.ref C_NoSuchLetter) = some false)
    (kit_NoSuchStep_GameError : PySem.W.kitOne K (.ref C_NoSuchStep) (.ref C_GameError) = some false)
    (kit_NoSuchRank_OutOfRange : PySem.W.kitOne K (.ref C_NoSuchRank) (.ref C_OutOfRange) = some true)
    (kit_NoSuchRank_LadderreachError : PySem.W.kitOne K (.ref C_NoSuchRank) (.ref C_LadderreachError) = some true)
    (kit_NoSuchRank_ValueError : PySem.W.kitOne K (.ref C_NoSuchRank) (.type "ValueError") = some true)
    (kit_NoSuchRank_NoSuchStep : PySem.W.kitOne K (.ref C_NoSuchRank) (.ref C_NoSuchStep) = some false)
    (kit_NoSuchRank_NoSuchLevel : PySem.W.kitOne K (.ref C_NoSuchRank) (.ref C_NoSuchLevel) = some false)
    (kit_NoSuchRank_NoSuchNode : PySem.W.kitOne K (.ref C_NoSuchRank) (.ref C_NoSuchNode) = some false)
    (kit_NoSuchRank_NoSuchState : PySem.W.kitOne K (.ref C_NoSuchRank) (.ref C_NoSuchState) = some false)
    (kit_NoSuchRank_NoSuchLetter : PySem.W.kitOne K (.ref C_NoSuchRank) (.ref C_NoSuchLetter) = some false)
    (kit_NoSuchRank_GameError : PySem.W.kitOne K (.ref C_NoSuchRank) (.ref C_GameError) = some false)
    (kit_NoSuchLevel_OutOfRange : PySem.W.kitOne K (.ref C_NoSuchLevel) (.ref C_OutOfRange) = some true)
    (kit_NoSuchLevel_LadderreachError : PySem.W.kitOne K (.ref C_NoSuchLevel) (.ref C_LadderreachError) = some true)
    (kit_NoSuchLevel_ValueError : PySem.W.kitOne K (.ref C_NoSuchLevel) (.type "ValueError") = some true)
    (kit_NoSuchLevel_NoSuchStep : PySem.W.kitOne K (.ref C_NoSuchLevel) (.ref C_NoSuchStep) = some false)
    (kit_NoSuchLevel_NoSuchRank : PySem.W.kitOne K (.ref C_NoSuchLevel) (.ref C_NoSuchRank) = some false)
    (kit_NoSuchLevel_NoSuchNode : PySem.W.kitOne K (.ref C_NoSuchLevel) (.ref C_NoSuchNode) = some false)
    (kit_NoSuchLevel_NoSuchState : PySem.W.kitOne K (.ref C_NoSuchLevel) (.ref C_NoSuchState) = some false)
    (kit_NoSuchLevel_NoSuchLetter : PySem.W.kitOne K (.ref C_NoSuchLevel) (.ref C_NoSuchLetter) = some false)
    (kit_NoSuchLevel_GameError : PySem.W.kitOne K (.ref C_NoSuchLevel) (.ref C_GameError) = some false)
    (exm_NoSuchStep_NoSuchStep : PySem.W.exmOne K (.ref C_NoSuchStep) (.ref C_NoSuchStep) = some true)
    (exm_NoSuchRank_NoSuchStep : PySem.W.exmOne K (.ref C_NoSuchRank) (.ref C_NoSuchStep) = some false)
    (exm_NoSuchRank_NoSuchRank : PySem.W.exmOne K (.ref C_NoSuchRank) (.ref C_NoSuchRank) = some true)
    (exm_NoSuchLevel_NoSuchStep : PySem.W.exmOne K (.ref C_NoSuchLevel) (.ref C_NoSuchStep) = some false)
    (exm_NoSuchLevel_NoSuchRank : PySem.W.exmOne K (.ref C_NoSuchLevel) (.ref C_NoSuchRank) = some false)
    (exm_NoSuchLevel_NoSuchLevel : PySem.W.exmOne K (.ref C_NoSuchLevel) (.ref C_NoSuchLevel) = some true) :
    Txt P K mg ⟨C_Ladder, C_NoSuchStep, C_NoSuchRank, C_NoSuchLevel, C_OutOfRange, C_LadderreachError, C_NoSuchNode, C_NoSuchState, C_NoSuchLetter, C_GameError⟩ := {
    n_len := PySem.W.mg_none_of X G z_len,
    n_abs := PySem.W.mg_none_of X G z_abs,
    n_max := PySem.W.mg_none_of X G z_max,
    n_min := PySem.W.mg_none_of X G z_min,
    n_isinstance := PySem.W.mg_none_of X G z_isinstance,
    n_int := PySem.W.mg_none_of X G z_int,
    n_bool := PySem.W.mg_none_of X G z_bool,
    n_str := PySem.W.mg_none_of X G z_str,
    n_list := PySem.W.mg_none_of X G z_list,
    n_tuple := PySem.W.mg_none_of X G z_tuple,
    n_range := PySem.W.mg_none_of X G z_range,
    n_enumerate := PySem.W.mg_none_of X G z_enumerate,
    n_iter := PySem.W.mg_none_of X G z_iter,
    n_ValueError := PySem.W.mg_none_of X G z_ValueError,
    objc := ⟨o_gt, o_tk⟩,
    d_check_height := ⟨_, _, fun_mk (st := s_check_height) l_check_height c_check_height k_check_height, PySem.W.mg_of X G a_check_height, (fun_mk (st := s_check_height) l_check_height c_check_height k_check_height).binds (ps := ["height"]) (fun _ _ _ _ _ _ us hl => match us, hl with | [_], _ => rfl)⟩,
    d_check_row := ⟨_, _, fun_mk (st := s_check_row) l_check_row c_check_row k_check_row, PySem.W.mg_of X G a_check_row, (fun_mk (st := s_check_row) l_check_row c_check_row k_check_row).binds (ps := ["height", "row", "most"]) (fun _ _ _ _ _ _ us hl => match us, hl with | [_, _, _], _ => rfl)⟩,
    d_check_step := ⟨_, _, fun_mk (st := s_check_step) l_check_step c_check_step k_check_step, PySem.W.mg_of X G a_check_step, (fun_mk (st := s_check_step) l_check_step c_check_step k_check_step).binds (ps := ["top", "step"]) (fun _ _ _ _ _ _ us hl => match us, hl with | [_, _], _ => rfl)⟩,
    d_check_rank := ⟨_, _, fun_mk (st := s_check_rank) l_check_rank c_check_rank k_check_rank, PySem.W.mg_of X G a_check_rank, (fun_mk (st := s_check_rank) l_check_rank c_check_rank k_check_rank).binds (ps := ["height", "rank"]) (fun _ _ _ _ _ _ us hl => match us, hl with | [_, _], _ => rfl)⟩,
    d__counts_from := ⟨_, _, fun_mk (st := s__counts_from) l__counts_from c__counts_from k__counts_from, PySem.W.mg_of X G a__counts_from, (fun_mk (st := s__counts_from) l__counts_from c__counts_from k__counts_from).binds (ps := ["level", "levels"]) (fun _ _ _ _ _ _ us hl => match us, hl with | [_, _], _ => rfl)⟩,
    d_pool := ⟨_, _, fun_mk (st := s_pool) l_pool c_pool k_pool, PySem.W.mg_of X G a_pool, (fun_mk (st := s_pool) l_pool c_pool k_pool).binds (ps := ["script", "k"]) (fun _ _ _ _ _ _ us hl => match us, hl with | [_, _], _ => rfl)⟩,
    d_draw := ⟨_, _, fun_mk (st := s_draw) l_draw c_draw k_draw, PySem.W.mg_of X G a_draw, (fun_mk (st := s_draw) l_draw c_draw k_draw).binds (ps := ["pool", "many"]) (fun _ _ _ _ _ _ us hl => match us, hl with | [_, _], _ => rfl)⟩,
    d_levels := ⟨_, _, fun_mk (st := s_levels) l_levels c_levels k_levels, PySem.W.mg_of X G a_levels, (fun_mk (st := s_levels) l_levels c_levels k_levels).binds (ps := ["pool", "height", "limit"]) (fun _ _ _ _ _ _ us hl => match us, hl with | [_, _, _], _ => rfl)⟩,
    d_number := ⟨_, _, fun_mk (st := s_number) l_number c_number k_number, PySem.W.mg_of X G a_number, (fun_mk (st := s_number) l_number c_number k_number).binds (ps := ["value"]) (fun _ _ _ _ _ _ us hl => match us, hl with | [_], _ => rfl)⟩,
    d_same := ⟨_, _, fun_mk (st := s_same) l_same c_same k_same, PySem.W.mg_of X G a_same, (fun_mk (st := s_same) l_same c_same k_same).binds (ps := ["answer", "due"]) (fun _ _ _ _ _ _ us hl => match us, hl with | [_, _], _ => rfl)⟩,
    d_gap := ⟨_, _, fun_mk (st := s_gap) l_gap c_gap k_gap, PySem.W.mg_of X G a_gap, (fun_mk (st := s_gap) l_gap c_gap k_gap).binds (ps := ["levels", "one", "other"]) (fun _ _ _ _ _ _ us hl => match us, hl with | [_, _, _], _ => rfl)⟩,
    d_allows := ⟨_, _, fun_mk (st := s_allows) l_allows c_allows k_allows, PySem.W.mg_of X G a_allows, (fun_mk (st := s_allows) l_allows c_allows k_allows).binds (ps := ["levels", "source", "rank", "target"]) (fun _ _ _ _ _ _ us hl => match us, hl with | [_, _, _, _], _ => rfl)⟩,
    d_wild := ⟨_, _, fun_mk (st := s_wild) l_wild c_wild k_wild, PySem.W.mg_of X G a_wild, (fun_mk (st := s_wild) l_wild c_wild k_wild).binds (ps := ["pool", "floor", "ceiling"]) (fun _ _ _ _ _ _ us hl => match us, hl with | [_, _, _], _ => rfl)⟩,
    d_rows := ⟨_, _, fun_mk (st := s_rows) l_rows c_rows k_rows, PySem.W.mg_of X G a_rows, (fun_mk (st := s_rows) l_rows c_rows k_rows).binds (ps := ["pool", "levels", "height", "count"]) (fun _ _ _ _ _ _ us hl => match us, hl with | [_, _, _, _], _ => rfl)⟩,
    d_asked := ⟨_, _, fun_mk (st := s_asked) l_asked c_asked k_asked, PySem.W.mg_of X G a_asked, (fun_mk (st := s_asked) l_asked c_asked k_asked).binds (ps := ["made", "way", "one", "two", "three"]) (fun _ _ _ _ _ _ us hl => match us, hl with | [_, _, _, _, _], _ => rfl)⟩,
    d_refusal := ⟨_, _, fun_mk (st := s_refusal) l_refusal c_refusal k_refusal, PySem.W.mg_of X G a_refusal, (fun_mk (st := s_refusal) l_refusal c_refusal k_refusal).binds (ps := ["checks"]) (fun _ _ _ _ _ _ us hl => match us, hl with | [_], _ => rfl)⟩,
    d_gap_due := ⟨_, _, fun_mk (st := s_gap_due) l_gap_due c_gap_due k_gap_due, PySem.W.mg_of X G a_gap_due, (fun_mk (st := s_gap_due) l_gap_due c_gap_due k_gap_due).binds (ps := ["levels", "one", "other"]) (fun _ _ _ _ _ _ us hl => match us, hl with | [_, _, _], _ => rfl)⟩,
    d_high := ⟨_, _, fun_mk (st := s_high) l_high c_high k_high, PySem.W.mg_of X G a_high, (fun_mk (st := s_high) l_high c_high k_high).binds (ps := ["levels", "level", "step"]) (fun _ _ _ _ _ _ us hl => match us, hl with | [_, _, _], _ => rfl)⟩,
    d_high_due := ⟨_, _, fun_mk (st := s_high_due) l_high_due c_high_due k_high_due, PySem.W.mg_of X G a_high_due, (fun_mk (st := s_high_due) l_high_due c_high_due k_high_due).binds (ps := ["levels", "height", "level", "step"]) (fun _ _ _ _ _ _ us hl => match us, hl with | [_, _, _, _], _ => rfl)⟩,
    d_allows_due := ⟨_, _, fun_mk (st := s_allows_due) l_allows_due c_allows_due k_allows_due, PySem.W.mg_of X G a_allows_due, (fun_mk (st := s_allows_due) l_allows_due c_allows_due k_allows_due).binds (ps := ["levels", "height", "one", "rank", "other"]) (fun _ _ _ _ _ _ us hl => match us, hl with | [_, _, _, _, _], _ => rfl)⟩,
    d_highs_agree := ⟨_, _, fun_mk (st := s_highs_agree) l_highs_agree c_highs_agree k_highs_agree, PySem.W.mg_of X G a_highs_agree, (fun_mk (st := s_highs_agree) l_highs_agree c_highs_agree k_highs_agree).binds (ps := ["made", "levels", "one", "rank", "other"]) (fun _ _ _ _ _ _ us hl => match us, hl with | [_, _, _, _, _], _ => rfl)⟩,
    d_turn := ⟨_, _, fun_mk (st := s_turn) l_turn c_turn k_turn, PySem.W.mg_of X G a_turn, (fun_mk (st := s_turn) l_turn c_turn k_turn).binds (ps := ["made", "levels", "height", "row"]) (fun _ _ _ _ _ _ us hl => match us, hl with | [_, _, _, _], _ => rfl)⟩,
    d_fields := ⟨_, _, fun_mk (st := s_fields) l_fields c_fields k_fields, PySem.W.mg_of X G a_fields, (fun_mk (st := s_fields) l_fields c_fields k_fields).binds (ps := ["made", "levels", "height"]) (fun _ _ _ _ _ _ us hl => match us, hl with | [_, _, _], _ => rfl)⟩,
    d_law := ⟨_, _, fun_mk (st := s_law) l_law c_law k_law, PySem.W.mg_of X G a_law, (fun_mk (st := s_law) l_law c_law k_law).binds (ps := ["script"]) (fun _ _ _ _ _ _ us hl => match us, hl with | [_], _ => rfl)⟩,
    cl_Ladder := ⟨pg_Ladder, hd_Ladder, po_Ladder, sa_Ladder⟩,
    mg_Ladder := PySem.W.mg_of X G aC_Ladder,
    na_Ladder_height := na_Ladder_height,
    na_Ladder_levels := na_Ladder_levels,
    na_Ladder_top := na_Ladder_top,
    na_Ladder__counts := na_Ladder__counts,
    na_Ladder___len__ := na_Ladder___len__,
    na_Ladder___length_hint__ := na_Ladder___length_hint__,
    mk_Ladder := ⟨_, _, fun_mk (st := s_L_init) l_L_init c_L_init k_L_init, ⟨mk_Ladder, a_L_init, i_L_init, kc_Ladder⟩, PySem.W.mg_of X G aC_Ladder, (fun_mk (st := s_L_init) l_L_init c_L_init k_L_init).binds (ps := ["self", "height", "levels"]) (fun _ _ _ _ _ _ us hl => match us, hl with | [_, _, _], _ => rfl)⟩,
    mt_L_gap := ⟨_, _, fun_mk (st := s_L_gap) l_L_gap c_L_gap k_L_gap, ⟨a_L_gap, i_L_gap, k_L_gap⟩, (fun_mk (st := s_L_gap) l_L_gap c_L_gap k_L_gap).binds (ps := ["self", "one", "other"]) (fun _ _ _ _ _ _ us hl => match us, hl with | [_, _, _], _ => rfl)⟩,
    mt_L_high := ⟨_, _, fun_mk (st := s_L_high) l_L_high c_L_high k_L_high, ⟨a_L_high, i_L_high, k_L_high⟩, (fun_mk (st := s_L_high) l_L_high c_L_high k_L_high).binds (ps := ["self", "level", "step"]) (fun _ _ _ _ _ _ us hl => match us, hl with | [_, _, _], _ => rfl)⟩,
    mt_L_allows := ⟨_, _, fun_mk (st := s_L_allows) l_L_allows c_L_allows k_L_allows, ⟨a_L_allows, i_L_allows, k_L_allows⟩, (fun_mk (st := s_L_allows) l_L_allows c_L_allows k_L_allows).binds (ps := ["self", "source", "rank", "target"]) (fun _ _ _ _ _ _ us hl => match us, hl with | [_, _, _, _], _ => rfl)⟩,
    mt_Llets := ⟨_, _, fun_mk (st := s_Llets) l_Llets c_Llets k_Llets, ⟨a_Llets, i_Llets, k_Llets⟩, (fun_mk (st := s_Llets) l_Llets c_Llets k_Llets).binds (ps := ["self", "source", "rank", "target"]) (fun _ _ _ _ _ _ us hl => match us, hl with | [_, _, _, _], _ => rfl)⟩,
    mt_L_iter := ⟨_, _, fun_mk (st := s_L_iter) l_L_iter c_L_iter k_L_iter, ⟨a_L_iter, i_L_iter, k_L_iter⟩, (fun_mk (st := s_L_iter) l_L_iter c_L_iter k_L_iter).binds (ps := ["self"]) (fun _ _ _ _ _ _ us hl => match us, hl with | [_], _ => rfl)⟩,
    cv_Ladder_MOST_LEVELS := ⟨_, _, ⟨cr_Ladder_MOST_LEVELS, cg_Ladder_MOST_LEVELS⟩, ⟨cf_Ladder_MOST_LEVELS, cx_Ladder_MOST_LEVELS⟩⟩,
    mg_NoSuchStep := PySem.W.mg_of X G aN_NoSuchStep,
    e_NoSuchStep := { gC := PySem.W.mg_of X G aN_NoSuchStep, T := ⟨⟨_, _, _, _, _, _, _, _, _, _, _, _, _, _, _, x_NoSuchStep, r_NoSuchStep⟩, sa_NoSuchStep, xb_NoSuchStep, tc_NoSuchStep, kc_NoSuchStep⟩, E := ⟨ic_NoSuchStep, ga_NoSuchStep, gg_NoSuchStep, xb_NoSuchStep, ac_NoSuchStep, mo_NoSuchStep, hd_NoSuchStep⟩, X := ⟨ga_NoSuchStep, gg_NoSuchStep, xb_NoSuchStep, hd_NoSuchStep⟩, no := no_NoSuchStep, sm := sm_NoSuchStep, mr := mr_NoSuchStep, sv := sv_NoSuchStep, ini := ⟨_, _, _, _, a_NoSuchStep_init, t_NoSuchStep_init, ⟨⟨_, _, _, l_NoSuchStep_init⟩, ⟨_, rfl, rfl⟩, ⟨_, _, _, _, _, _, h_NoSuchStep_init, v_NoSuchStep_init, p_NoSuchStep_init⟩, ⟨_, _, _, e_NoSuchStep_init⟩, Option.isSome_iff_exists.mp ic_NoSuchStep, PySem.W.mg_none_of X G z_super, z_top, z_any⟩, .all (fun us hl => match us, hl with | [_, _], _ => rfl), _, _, _, _, _, _, _, _, rfl, l_NoSuchStep_init, c_NoSuchStep_init⟩ },
    mg_NoSuchRank := PySem.W.mg_of X G aN_NoSuchRank,
    e_NoSuchRank := { gC := PySem.W.mg_of X G aN_NoSuchRank, T := ⟨⟨_, _, _, _, _, _, _, _, _, _, _, _, _, _, _, x_NoSuchRank, r_NoSuchRank⟩, sa_NoSuchRank, xb_NoSuchRank, tc_NoSuchRank, kc_NoSuchRank⟩, E := ⟨ic_NoSuchRank, ga_NoSuchRank, gg_NoSuchRank, xb_NoSuchRank, ac_NoSuchRank, mo_NoSuchRank, hd_NoSuchRank⟩, X := ⟨ga_NoSuchRank, gg_NoSuchRank, xb_NoSuchRank, hd_NoSuchRank⟩, no := no_NoSuchRank, sm := sm_NoSuchRank, mr := mr_NoSuchRank, sv := sv_NoSuchRank, ini := ⟨_, _, _, _, a_NoSuchRank_init, t_NoSuchRank_init, ⟨⟨_, _, _, l_NoSuchRank_init⟩, ⟨_, rfl, rfl⟩, ⟨_, _, _, _, _, _, h_NoSuchRank_init, v_NoSuchRank_init, p_NoSuchRank_init⟩, ⟨_, _, _, e_NoSuchRank_init⟩, Option.isSome_iff_exists.mp ic_NoSuchRank, PySem.W.mg_none_of X G z_super, z_top, z_any⟩, .all (fun us hl => match us, hl with | [_, _], _ => rfl), _, _, _, _, _, _, _, _, rfl, l_NoSuchRank_init, c_NoSuchRank_init⟩ },
    mg_NoSuchLevel := PySem.W.mg_of X G aN_NoSuchLevel,
    e_NoSuchLevel := { gC := PySem.W.mg_of X G aN_NoSuchLevel, T := ⟨⟨_, _, _, _, _, _, _, _, _, _, _, _, _, _, _, x_NoSuchLevel, r_NoSuchLevel⟩, sa_NoSuchLevel, xb_NoSuchLevel, tc_NoSuchLevel, kc_NoSuchLevel⟩, E := ⟨ic_NoSuchLevel, ga_NoSuchLevel, gg_NoSuchLevel, xb_NoSuchLevel, ac_NoSuchLevel, mo_NoSuchLevel, hd_NoSuchLevel⟩, X := ⟨ga_NoSuchLevel, gg_NoSuchLevel, xb_NoSuchLevel, hd_NoSuchLevel⟩, no := no_NoSuchLevel, sm := sm_NoSuchLevel, mr := mr_NoSuchLevel, sv := sv_NoSuchLevel, ini := ⟨_, _, _, _, a_NoSuchLevel_init, t_NoSuchLevel_init, ⟨⟨_, _, _, l_NoSuchLevel_init⟩, ⟨_, rfl, rfl⟩, ⟨_, _, _, _, _, _, h_NoSuchLevel_init, v_NoSuchLevel_init, p_NoSuchLevel_init⟩, ⟨_, _, _, e_NoSuchLevel_init⟩, Option.isSome_iff_exists.mp ic_NoSuchLevel, PySem.W.mg_none_of X G z_super, z_top, z_any⟩, .all (fun us hl => match us, hl with | [_, _], _ => rfl), _, _, _, _, _, _, _, _, rfl, l_NoSuchLevel_init, c_NoSuchLevel_init⟩ },
    mg_OutOfRange := PySem.W.mg_of X G aN_OutOfRange,
    mg_LadderreachError := PySem.W.mg_of X G aN_LadderreachError,
    mg_NoSuchNode := PySem.W.mg_of X G aN_NoSuchNode,
    mg_NoSuchState := PySem.W.mg_of X G aN_NoSuchState,
    mg_NoSuchLetter := PySem.W.mg_of X G aN_NoSuchLetter,
    mg_GameError := PySem.W.mg_of X G aN_GameError,
    kit_NoSuchStep_OutOfRange := kit_NoSuchStep_OutOfRange,
    kit_NoSuchStep_LadderreachError := kit_NoSuchStep_LadderreachError,
    kit_NoSuchStep_ValueError := kit_NoSuchStep_ValueError,
    kit_NoSuchStep_NoSuchRank := kit_NoSuchStep_NoSuchRank,
    kit_NoSuchStep_NoSuchLevel := kit_NoSuchStep_NoSuchLevel,
    kit_NoSuchStep_NoSuchNode := kit_NoSuchStep_NoSuchNode,
    kit_NoSuchStep_NoSuchState := kit_NoSuchStep_NoSuchState,
    kit_NoSuchStep_NoSuchLetter := kit_NoSuchStep_NoSuchLetter,
    kit_NoSuchStep_GameError := kit_NoSuchStep_GameError,
    kit_NoSuchRank_OutOfRange := kit_NoSuchRank_OutOfRange,
    kit_NoSuchRank_LadderreachError := kit_NoSuchRank_LadderreachError,
    kit_NoSuchRank_ValueError := kit_NoSuchRank_ValueError,
    kit_NoSuchRank_NoSuchStep := kit_NoSuchRank_NoSuchStep,
    kit_NoSuchRank_NoSuchLevel := kit_NoSuchRank_NoSuchLevel,
    kit_NoSuchRank_NoSuchNode := kit_NoSuchRank_NoSuchNode,
    kit_NoSuchRank_NoSuchState := kit_NoSuchRank_NoSuchState,
    kit_NoSuchRank_NoSuchLetter := kit_NoSuchRank_NoSuchLetter,
    kit_NoSuchRank_GameError := kit_NoSuchRank_GameError,
    kit_NoSuchLevel_OutOfRange := kit_NoSuchLevel_OutOfRange,
    kit_NoSuchLevel_LadderreachError := kit_NoSuchLevel_LadderreachError,
    kit_NoSuchLevel_ValueError := kit_NoSuchLevel_ValueError,
    kit_NoSuchLevel_NoSuchStep := kit_NoSuchLevel_NoSuchStep,
    kit_NoSuchLevel_NoSuchRank := kit_NoSuchLevel_NoSuchRank,
    kit_NoSuchLevel_NoSuchNode := kit_NoSuchLevel_NoSuchNode,
    kit_NoSuchLevel_NoSuchState := kit_NoSuchLevel_NoSuchState,
    kit_NoSuchLevel_NoSuchLetter := kit_NoSuchLevel_NoSuchLetter,
    kit_NoSuchLevel_GameError := kit_NoSuchLevel_GameError,
    exm_NoSuchStep_NoSuchStep := exm_NoSuchStep_NoSuchStep,
    exm_NoSuchRank_NoSuchStep := exm_NoSuchRank_NoSuchStep,
    exm_NoSuchRank_NoSuchRank := exm_NoSuchRank_NoSuchRank,
    exm_NoSuchLevel_NoSuchStep := exm_NoSuchLevel_NoSuchStep,
    exm_NoSuchLevel_NoSuchRank := exm_NoSuchLevel_NoSuchRank,
    exm_NoSuchLevel_NoSuchLevel := exm_NoSuchLevel_NoSuchLevel }
theorem walk {l : PySem.W.OpenLaw} {q : Program} {loose : List Str} {XP : (Str → Option Value) → Heap → Prop} {YP : World → Heap → Prop} {d : DefRec} {K : Params → PySem.W.Frag} (hn : l.most = some 63) (hdf : d.params.defaults = []) (hd : d.name = "law")
    (hY : ∀ (w : World) (h : Heap), YP w h → (K w.params).In h)
    (F : ∀ (w : World) (mg : Str → Option Value) (h : Heap), (K w.params).In h → h.Ns mainGlobals mg → ∃ c, Txt l.prog (K w.params) mg c) :
    PySem.W.WalkO q loose XP YP l.row.toRowW d [] (fun f vs => PySem.call f vs) :=
  L2.walk_of (n := 63) (k := lawLevel) (x := "script") (CX := fun _ => CX0) (sp := fun w => spLaw (K w.params)) hn (by decide) hdf ⟨rfl, by decide, by decide⟩ hY
    (fun w mg fa h KX G hmg => by
      obtain ⟨ζ, T⟩ := F w mg h KX G
      obtain ⟨f, fd, Ff, hm, b⟩ := T.d_law.ex
      rw [hd, hm] at hmg
      cases hmg
      refine ⟨fd, fun s v => ?_, fun base _ _ => ok_law T Ff⟩
      obtain ⟨oc, od, kV, doc, pm, an, cdv, ct, osl, rfl, lk, hcd⟩ := Ff.ex
      exact .of_eq rfl)
    (fun _ _ a ns hl _ hS => ⟨a, ns, rfl, hS, fun _ => rfl⟩) fun _ _ _ _ _ z => z
end LR
open PySem PySem.W PyProof.Rows in
set_option maxRecDepth 100000 in
set_option maxHeartbeats 0 in
theorem PySem.Challenge.cw_ladderreach_k16_gap_high_and_allowed_holds : PySem.Challenge.rw_ladderreach_k16_gap_high_and_allowed.Holds := by
  w_on; o_law; k_head; (case hw => w_witness2)
  k_fill
  refine LR.walk (l := PySem.Challenge.rw_ladderreach_k16_gap_high_and_allowed) rfl rfl rfl (fun w h Y => PySem.W.kIn_of Y) ?F
  case F =>
    intro w mg h KX G
    refine' ⟨_, LR.all_mk (P := PySem.Challenge.rw_ladderreach_k16_gap_high_and_allowed.prog) KX G ?z_super ?z_any ?z_top ?z_len ?z_abs ?z_max ?z_min ?z_isinstance ?z_int ?z_bool ?z_str ?z_list ?z_tuple ?z_range ?z_enumerate ?z_iter ?z_ValueError ?o_gt ?o_tk ?a_check_height ?l_check_height ?c_check_height ?k_check_height ?a_check_row ?l_check_row ?c_check_row ?k_check_row ?a_check_step ?l_check_step ?c_check_step ?k_check_step ?a_check_rank ?l_check_rank ?c_check_rank ?k_check_rank ?a__counts_from ?l__counts_from ?c__counts_from ?k__counts_from ?a_pool ?l_pool ?c_pool ?k_pool ?a_draw ?l_draw ?c_draw ?k_draw ?a_levels ?l_levels ?c_levels ?k_levels ?a_number ?l_number ?c_number ?k_number ?a_same ?l_same ?c_same ?k_same ?a_gap ?l_gap ?c_gap ?k_gap ?a_allows ?l_allows ?c_allows ?k_allows ?a_wild ?l_wild ?c_wild ?k_wild ?a_rows ?l_rows ?c_rows ?k_rows ?a_asked ?l_asked ?c_asked ?k_asked ?a_refusal ?l_refusal ?c_refusal ?k_refusal ?a_gap_due ?l_gap_due ?c_gap_due ?k_gap_due ?a_high ?l_high ?c_high ?k_high ?a_high_due ?l_high_due ?c_high_due ?k_high_due ?a_allows_due ?l_allows_due ?c_allows_due ?k_allows_due ?a_highs_agree ?l_highs_agree ?c_highs_agree ?k_highs_agree ?a_turn ?l_turn ?c_turn ?k_turn ?a_fields ?l_fields ?c_fields ?k_fields ?a_law ?l_law ?c_law ?k_law ?aC_Ladder ?pg_Ladder ?hd_Ladder ?po_Ladder ?sa_Ladder ?na_Ladder_height ?na_Ladder_levels ?na_Ladder_top ?na_Ladder__counts ?na_Ladder___len__ ?na_Ladder___length_hint__ ?mk_Ladder ?kc_Ladder ?a_L_init ?i_L_init ?l_L_init ?c_L_init ?k_L_init ?a_L_gap ?i_L_gap ?l_L_gap ?c_L_gap ?k_L_gap ?a_L_high ?i_L_high ?l_L_high ?c_L_high ?k_L_high ?a_L_allows ?i_L_allows ?l_L_allows ?c_L_allows ?k_L_allows ?a_Llets ?i_Llets ?l_Llets ?c_Llets ?k_Llets ?a_L_iter ?i_L_iter ?l_L_iter ?c_L_iter ?k_L_iter ?cr_Ladder_MOST_LEVELS ?cg_Ladder_MOST_LEVELS ?cf_Ladder_MOST_LEVELS ?cx_Ladder_MOST_LEVELS ?aN_NoSuchStep ?x_NoSuchStep ?r_NoSuchStep ?sa_NoSuchStep ?xb_NoSuchStep ?tc_NoSuchStep ?kc_NoSuchStep ?ga_NoSuchStep ?gg_NoSuchStep ?ac_NoSuchStep ?mo_NoSuchStep ?hd_NoSuchStep ?ic_NoSuchStep ?no_NoSuchStep ?sv_NoSuchStep ?mr_NoSuchStep ?sm_NoSuchStep ?a_NoSuchStep_init ?t_NoSuchStep_init ?l_NoSuchStep_init ?c_NoSuchStep_init ?h_NoSuchStep_init ?v_NoSuchStep_init ?p_NoSuchStep_init ?e_NoSuchStep_init ?aN_NoSuchRank ?x_NoSuchRank ?r_NoSuchRank ?sa_NoSuchRank ?xb_NoSuchRank ?tc_NoSuchRank ?kc_NoSuchRank ?ga_NoSuchRank ?gg_NoSuchRank ?ac_NoSuchRank ?mo_NoSuchRank ?hd_NoSuchRank ?ic_NoSuchRank ?no_NoSuchRank ?sv_NoSuchRank ?mr_NoSuchRank ?sm_NoSuchRank ?a_NoSuchRank_init ?t_NoSuchRank_init ?l_NoSuchRank_init ?c_NoSuchRank_init ?h_NoSuchRank_init ?v_NoSuchRank_init ?p_NoSuchRank_init ?e_NoSuchRank_init ?aN_NoSuchLevel ?x_NoSuchLevel ?r_NoSuchLevel ?sa_NoSuchLevel ?xb_NoSuchLevel ?tc_NoSuchLevel ?kc_NoSuchLevel ?ga_NoSuchLevel ?gg_NoSuchLevel ?ac_NoSuchLevel ?mo_NoSuchLevel ?hd_NoSuchLevel ?ic_NoSuchLevel ?no_NoSuchLevel ?sv_NoSuchLevel ?mr_NoSuchLevel ?sm_NoSuchLevel ?a_NoSuchLevel_init ?t_NoSuchLevel_init ?l_NoSuchLevel_init ?c_NoSuchLevel_init ?h_NoSuchLevel_init ?v_NoSuchLevel_init ?p_NoSuchLevel_init ?e_NoSuchLevel_init ?aN_OutOfRange ?aN_LadderreachError ?aN_NoSuchNode ?aN_NoSuchState ?aN_NoSuchLetter ?aN_GameError ?kit_NoSuchStep_OutOfRange ?kit_NoSuchStep_LadderreachError ?kit_NoSuchStep_ValueError ?kit_NoSuchStep_NoSuchRank ?kit_NoSuchStep_NoSuchLevel ?kit_NoSuchStep_NoSuchNode ?kit_NoSuchStep_NoSuchState ?kit_NoSuchStep_NoSuchLetter ?kit_NoSuchStep_GameError ?kit_NoSuchRank_OutOfRange ?kit_NoSuchRank_LadderreachError ?kit_NoSuchRank_ValueError ?kit_NoSuchRank_NoSuchStep ?kit_NoSuchRank_NoSuchLevel ?kit_NoSuchRank_NoSuchNode ?kit_NoSuchRank_NoSuchState ?kit_NoSuchRank_NoSuchLetter ?kit_NoSuchRank_GameError ?kit_NoSuchLevel_OutOfRange ?kit_NoSuchLevel_LadderreachError ?kit_NoSuchLevel_ValueError ?kit_NoSuchLevel_NoSuchStep ?kit_NoSuchLevel_NoSuchRank ?kit_NoSuchLevel_NoSuchNode ?kit_NoSuchLevel_NoSuchState ?kit_NoSuchLevel_NoSuchLetter ?kit_NoSuchLevel_GameError ?exm_NoSuchStep_NoSuchStep ?exm_NoSuchRank_NoSuchStep ?exm_NoSuchRank_NoSuchRank ?exm_NoSuchLevel_NoSuchStep ?exm_NoSuchLevel_NoSuchRank ?exm_NoSuchLevel_NoSuchLevel⟩
    (case z_super => k_is)
    (case z_any => k_is)
    (case z_top => first | rfl | decide +kernel)
    (case z_len => k_is)
    (case z_abs => k_is)
    (case z_max => k_is)
    (case z_min => k_is)
    (case z_isinstance => k_is)
    (case z_int => k_is)
    (case z_bool => k_is)
    (case z_str => k_is)
    (case z_list => k_is)
    (case z_tuple => k_is)
    (case z_range => k_is)
    (case z_enumerate => k_is)
    (case z_iter => k_is)
    (case z_ValueError => k_is)
    (case o_gt => k_is)
    (case o_tk => k_is)
    (case a_check_height => k_is)
    (case l_check_height => k_is)
    (case c_check_height => k_is)
    (case k_check_height => k_is)
    (case a_check_row => k_is)
    (case l_check_row => k_is)
    (case c_check_row => k_is)
    (case k_check_row => k_is)
    (case a_check_step => k_is)
    (case l_check_step => k_is)
    (case c_check_step => k_is)
    (case k_check_step => k_is)
    (case a_check_rank => k_is)
    (case l_check_rank => k_is)
    (case c_check_rank => k_is)
    (case k_check_rank => k_is)
    (case a__counts_from => k_is)
    (case l__counts_from => k_is)
    (case c__counts_from => k_is)
    (case k__counts_from => k_is)
    (case a_pool => k_is)
    (case l_pool => k_is)
    (case c_pool => k_is)
    (case k_pool => k_is)
    (case a_draw => k_is)
    (case l_draw => k_is)
    (case c_draw => k_is)
    (case k_draw => k_is)
    (case a_levels => k_is)
    (case l_levels => k_is)
    (case c_levels => k_is)
    (case k_levels => k_is)
    (case a_number => k_is)
    (case l_number => k_is)
    (case c_number => k_is)
    (case k_number => k_is)
    (case a_same => k_is)
    (case l_same => k_is)
    (case c_same => k_is)
    (case k_same => k_is)
    (case a_gap => k_is)
    (case l_gap => k_is)
    (case c_gap => k_is)
    (case k_gap => k_is)
    (case a_allows => k_is)
    (case l_allows => k_is)
    (case c_allows => k_is)
    (case k_allows => k_is)
    (case a_wild => k_is)
    (case l_wild => k_is)
    (case c_wild => k_is)
    (case k_wild => k_is)
    (case a_rows => k_is)
    (case l_rows => k_is)
    (case c_rows => k_is)
    (case k_rows => k_is)
    (case a_asked => k_is)
    (case l_asked => k_is)
    (case c_asked => k_is)
    (case k_asked => k_is)
    (case a_refusal => k_is)
    (case l_refusal => k_is)
    (case c_refusal => k_is)
    (case k_refusal => k_is)
    (case a_gap_due => k_is)
    (case l_gap_due => k_is)
    (case c_gap_due => k_is)
    (case k_gap_due => k_is)
    (case a_high => k_is)
    (case l_high => k_is)
    (case c_high => k_is)
    (case k_high => k_is)
    (case a_high_due => k_is)
    (case l_high_due => k_is)
    (case c_high_due => k_is)
    (case k_high_due => k_is)
    (case a_allows_due => k_is)
    (case l_allows_due => k_is)
    (case c_allows_due => k_is)
    (case k_allows_due => k_is)
    (case a_highs_agree => k_is)
    (case l_highs_agree => k_is)
    (case c_highs_agree => k_is)
    (case k_highs_agree => k_is)
    (case a_turn => k_is)
    (case l_turn => k_is)
    (case c_turn => k_is)
    (case k_turn => k_is)
    (case a_fields => k_is)
    (case l_fields => k_is)
    (case c_fields => k_is)
    (case k_fields => k_is)
    (case a_law => k_is)
    (case l_law => k_is)
    (case c_law => k_is)
    (case k_law => k_is)
    (case aC_Ladder => k_is)
    (case pg_Ladder => k_is)
    (case hd_Ladder => k_is)
    (case po_Ladder => k_is)
    (case sa_Ladder => k_is)
    (case na_Ladder_height => k_is)
    (case na_Ladder_levels => k_is)
    (case na_Ladder_top => k_is)
    (case na_Ladder__counts => k_is)
    (case na_Ladder___len__ => k_is)
    (case na_Ladder___length_hint__ => k_is)
    (case mk_Ladder => k_is)
    (case kc_Ladder => k_is)
    (case a_L_init => k_is)
    (case i_L_init => k_is)
    (case l_L_init => k_is)
    (case c_L_init => k_is)
    (case k_L_init => k_is)
    (case a_L_gap => k_is)
    (case i_L_gap => k_is)
    (case l_L_gap => k_is)
    (case c_L_gap => k_is)
    (case k_L_gap => k_is)
    (case a_L_high => k_is)
    (case i_L_high => k_is)
    (case l_L_high => k_is)
    (case c_L_high => k_is)
    (case k_L_high => k_is)
    (case a_L_allows => k_is)
    (case i_L_allows => k_is)
    (case l_L_allows => k_is)
    (case c_L_allows => k_is)
    (case k_L_allows => k_is)
    (case a_Llets => k_is)
    (case i_Llets => k_is)
    (case l_Llets => k_is)
    (case c_Llets => k_is)
    (case k_Llets => k_is)
    (case a_L_iter => k_is)
    (case i_L_iter => k_is)
    (case l_L_iter => k_is)
    (case c_L_iter => k_is)
    (case k_L_iter => k_is)
    (case cr_Ladder_MOST_LEVELS => k_is)
    (case cg_Ladder_MOST_LEVELS => k_is)
    (case cf_Ladder_MOST_LEVELS => k_is)
    (case cx_Ladder_MOST_LEVELS => exact ⟨_, rfl⟩)
    (case aN_NoSuchStep => k_is)
    (case x_NoSuchStep => k_is)
    (case r_NoSuchStep => first | rfl | decide +kernel)
    (case sa_NoSuchStep => k_is)
    (case xb_NoSuchStep => k_is)
    (case tc_NoSuchStep => k_is)
    (case kc_NoSuchStep => k_is)
    (case ga_NoSuchStep => k_is)
    (case gg_NoSuchStep => k_is)
    (case ac_NoSuchStep => k_is)
    (case mo_NoSuchStep => k_is)
    (case hd_NoSuchStep => k_is)
    (case ic_NoSuchStep => k_is)
    (case no_NoSuchStep => k_is)
    (case sv_NoSuchStep => k_is)
    (case mr_NoSuchStep => first | k_is | kernel_rfl)
    (case sm_NoSuchStep => first | ks_is | kernel_rfl)
    (case a_NoSuchStep_init => k_is)
    (case t_NoSuchStep_init => k_is)
    (case l_NoSuchStep_init => k_is)
    (case c_NoSuchStep_init => k_is)
    (case h_NoSuchStep_init => k_is)
    (case v_NoSuchStep_init => rfl)
    (case p_NoSuchStep_init => first | rfl | decide +kernel)
    (case e_NoSuchStep_init => k_is)
    (case aN_NoSuchRank => k_is)
    (case x_NoSuchRank => k_is)
    (case r_NoSuchRank => first | rfl | decide +kernel)
    (case sa_NoSuchRank => k_is)
    (case xb_NoSuchRank => k_is)
    (case tc_NoSuchRank => k_is)
    (case kc_NoSuchRank => k_is)
    (case ga_NoSuchRank => k_is)
    (case gg_NoSuchRank => k_is)
    (case ac_NoSuchRank => k_is)
    (case mo_NoSuchRank => k_is)
    (case hd_NoSuchRank => k_is)
    (case ic_NoSuchRank => k_is)
    (case no_NoSuchRank => k_is)
    (case sv_NoSuchRank => k_is)
    (case mr_NoSuchRank => first | k_is | kernel_rfl)
    (case sm_NoSuchRank => first | ks_is | kernel_rfl)
    (case a_NoSuchRank_init => k_is)
    (case t_NoSuchRank_init => k_is)
    (case l_NoSuchRank_init => k_is)
    (case c_NoSuchRank_init => k_is)
    (case h_NoSuchRank_init => k_is)
    (case v_NoSuchRank_init => rfl)
    (case p_NoSuchRank_init => first | rfl | decide +kernel)
    (case e_NoSuchRank_init => k_is)
    (case aN_NoSuchLevel => k_is)
    (case x_NoSuchLevel => k_is)
    (case r_NoSuchLevel => first | rfl | decide +kernel)
    (case sa_NoSuchLevel => k_is)
    (case xb_NoSuchLevel => k_is)
    (case tc_NoSuchLevel => k_is)
    (case kc_NoSuchLevel => k_is)
    (case ga_NoSuchLevel => k_is)
    (case gg_NoSuchLevel => k_is)
    (case ac_NoSuchLevel => k_is)
    (case mo_NoSuchLevel => k_is)
    (case hd_NoSuchLevel => k_is)
    (case ic_NoSuchLevel => k_is)
    (case no_NoSuchLevel => k_is)
    (case sv_NoSuchLevel => k_is)
    (case mr_NoSuchLevel => first | k_is | kernel_rfl)
    (case sm_NoSuchLevel => first | ks_is | kernel_rfl)
    (case a_NoSuchLevel_init => k_is)
    (case t_NoSuchLevel_init => k_is)
    (case l_NoSuchLevel_init => k_is)
    (case c_NoSuchLevel_init => k_is)
    (case h_NoSuchLevel_init => k_is)
    (case v_NoSuchLevel_init => rfl)
    (case p_NoSuchLevel_init => first | rfl | decide +kernel)
    (case e_NoSuchLevel_init => k_is)
    (case aN_OutOfRange => k_is)
    (case aN_LadderreachError => k_is)
    (case aN_NoSuchNode => k_is)
    (case aN_NoSuchState => k_is)
    (case aN_NoSuchLetter => k_is)
    (case aN_GameError => k_is)
    (case kit_NoSuchStep_OutOfRange => first | k_is | kernel_rfl)
    (case kit_NoSuchStep_LadderreachError => first | k_is | kernel_rfl)
    (case kit_NoSuchStep_ValueError => first | k_is | kernel_rfl)
    (case kit_NoSuchStep_NoSuchRank => first | k_is | kernel_rfl)
    (case kit_NoSuchStep_NoSuchLevel => first | k_is | kernel_rfl)
    (case kit_NoSuchStep_NoSuchNode => first | k_is | kernel_rfl)
    (case kit_NoSuchStep_NoSuchState => first | k_is | kernel_rfl)
    (case kit_NoSuchStep_NoSuchLetter => first | k_is | kernel_rfl)
    (case kit_NoSuchStep_GameError => first | k_is | kernel_rfl)
    (case kit_NoSuchRank_OutOfRange => first | k_is | kernel_rfl)
    (case kit_NoSuchRank_LadderreachError => first | k_is | kernel_rfl)
    (case kit_NoSuchRank_ValueError => first | k_is | kernel_rfl)
    (case kit_NoSuchRank_NoSuchStep => first | k_is | kernel_rfl)
    (case kit_NoSuchRank_NoSuchLevel => first | k_is | kernel_rfl)
    (case kit_NoSuchRank_NoSuchNode => first | k_is | kernel_rfl)
    (case kit_NoSuchRank_NoSuchState => first | k_is | kernel_rfl)
    (case kit_NoSuchRank_NoSuchLetter => first | k_is | kernel_rfl)
    (case kit_NoSuchRank_GameError => first | k_is | kernel_rfl)
    (case kit_NoSuchLevel_OutOfRange => first | k_is | kernel_rfl)
    (case kit_NoSuchLevel_LadderreachError => first | k_is | kernel_rfl)
    (case kit_NoSuchLevel_ValueError => first | k_is | kernel_rfl)
    (case kit_NoSuchLevel_NoSuchStep => first | k_is | kernel_rfl)
    (case kit_NoSuchLevel_NoSuchRank => first | k_is | kernel_rfl)
    (case kit_NoSuchLevel_NoSuchNode => first | k_is | kernel_rfl)
    (case kit_NoSuchLevel_NoSuchState => first | k_is | kernel_rfl)
    (case kit_NoSuchLevel_NoSuchLetter => first | k_is | kernel_rfl)
    (case kit_NoSuchLevel_GameError => first | k_is | kernel_rfl)
    (case exm_NoSuchStep_NoSuchStep => first | k_is | kernel_rfl)
    (case exm_NoSuchRank_NoSuchStep => first | k_is | kernel_rfl)
    (case exm_NoSuchRank_NoSuchRank => first | k_is | kernel_rfl)
    (case exm_NoSuchLevel_NoSuchStep => first | k_is | kernel_rfl)
    (case exm_NoSuchLevel_NoSuchRank => first | k_is | kernel_rfl)
    (case exm_NoSuchLevel_NoSuchLevel => first | k_is | kernel_rfl)

