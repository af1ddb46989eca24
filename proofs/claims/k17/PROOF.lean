import PyProof.Rows.All
import Wide.All
import OpenK.AllK
import Wide.FinOn
import HandS.ForMost
import HandS.IsInst
import HandS.Conv
import HandS.ClsMeth
import HandS.TupAny
import HandS.Walk
import HandS.RevRange
import PySem.Challenge.RW_ladderreach_k17_whole_walks_of_steps_com
set_option Elab.async false
set_option maxRecDepth 100000
set_option linter.all false
set_option maxHeartbeats 4000000
namespace LR
open PySem PySem.Spec PyProof.Rows L2
/-! ## defs, methods, classes that keep a promise -/
structure Cal (P : Program) (w : World) (K : PySem.W.Frag) (mg : Str → Option Value) (base : Heap) (k : Nat) (x : Str) (sp : Sp) : Prop where
  ex : ∃ (f : Addr) (fd : FuncData) (ps : List Str), FnOk P w K mg base CX0 k f fd ps sp ∧ mg x = some (.ref f) ∧ PySem.W.keepIn K (.ref f) = true ∧ Binds K fd ps []
structure Met (P : Program) (w : World) (K : PySem.W.Frag) (mg : Str → Option Value) (base : Heap) (k : Nat) (C : Addr) (m : Str) (sp : Sp) : Prop where
  ex : ∃ (f : Addr) (fd : FuncData) (ps : List Str), Cls K C ∧ Meth K C m f ∧ FnOk P w K mg base CX0 k f fd ps sp ∧ Binds K fd ps []
structure Mak (P : Program) (w : World) (K : PySem.W.Frag) (mg : Str → Option Value) (base : Heap) (k : Nat) (x : Str) (C : Addr) (sp : Sp) : Prop where
  ex : ∃ (f : Addr) (fd : FuncData) (ps : List Str), Mk K C f ∧ FnOk P w K mg base CX0 k f fd ps sp ∧ mg x = some (.ref C) ∧ Binds K fd ps []
section
variable {X : Cx} {k j : Nat} {C : Addr} {x m : Str} {sp : Sp} {p pos apos : Pos} {e o : Expr} {es : List Expr} {ta : TE} {t : TA}
theorem pe_c (c : Cal X.prog X.w X.K X.mg X.base k x sp) (hr : Room j X.A) (hk : k ≤ j) (hg : Gl X x) (ha : PA X (e :: es) t)
    (hdb : (x == ("__debug__" : Str)) = false := by decide) (he : starEach (e :: es) X.env = (false, eval e X.env) :: starEach es X.env := by rfl) (hpl : (backTo pos (starEach es X.env)).any (·.1) = false := by rfl) :
    PE X (.Call (.Name x p) (e :: es) [] pos) (tCall sp [] E0 t) := by
  obtain ⟨f, fd, ps, F, hm, kp, b⟩ := c.ex
  exact pe_call F (hr.mono hk) hg hm kp b .nil pass0 ha hdb he hpl
theorem pe_mk (c : Mak X.prog X.w X.K X.mg X.base k x C sp) (hr : Room j X.A) (hk : k + 1 ≤ j) (hg : Gl X x) (ha : PA X (e :: es) t)
    (hdb : (x == ("__debug__" : Str)) = false := by decide) (he : starEach (e :: es) X.env = (false, eval e X.env) :: starEach es X.env := by rfl) (hpl : (backTo pos (starEach es X.env)).any (·.1) = false := by rfl) :
    PE X (.Call (.Name x p) (e :: es) [] pos) (tMake C sp [] E0 t) := by
  obtain ⟨f, fd, ps, M, F, hm, b⟩ := c.ex
  exact pe_make M F (hr.mono hk) hg hm b .nil pass0 ha hdb he hpl
theorem pe_mt {pl : Sem Bool} (c : Met X.prog X.w X.K X.mg X.base k C m sp) (hr : Room j X.A) (hk : k ≤ j) (he : PE X o ta) (ha : PA X (e :: es) t)
    (hst : starEach (e :: es) X.env = (false, eval e X.env) :: starEach es X.env := by rfl) (hpl : (backTo pos (starEach es X.env)).any (·.1) = false := by rfl)
    (ht : eval (.Call (.Attribute o m apos) (e :: es) [] pos) X.env = (do
      let ov ← eval o X.env
      standAt apos.atName
      let (f, first) ← holding [ov] (getMethod ov m pl)
      callWith pos f first (backTo pos (starEach (e :: es) X.env)) (backToKw pos (keywordEach [] X.env))) := by rfl) :
    PE X (.Call (.Attribute o m apos) (e :: es) [] pos) (tMeth C m sp [] E0 ta t) := by
  obtain ⟨f, fd, ps, hc, hm, F, b⟩ := c.ex
  exact pe_meth (pl := pl) he hc hm F (hr.mono hk) b .nil pass0 ha hst hpl ht
theorem pe_mt0 {pl : Sem Bool} (c : Met X.prog X.w X.K X.mg X.base k C m sp) (hr : Room j X.A) (hk : k ≤ j) (he : PE X o ta)
    (ht : eval (.Call (.Attribute o m apos) [] [] pos) X.env = (do
      let ov ← eval o X.env
      standAt apos.atName
      let (f, first) ← holding [ov] (getMethod ov m pl)
      callWith pos f first (backTo pos (starEach [] X.env)) (backToKw pos (keywordEach [] X.env))) := by rfl) :
    PE X (.Call (.Attribute o m apos) [] [] pos) (tMeth C m sp [] E0 ta tNil) := by
  obtain ⟨f, fd, ps, hc, hm, F, b⟩ := c.ex
  exact pe_meth0 (pl := pl) he hc hm F (hr.mono hk) b .nil pass0 ht
end
structure DefIn (K : PySem.W.Frag) (mg : Str → Option Value) (x : Str) (st : Stmt) (ps : List Str) : Prop where
  ex : ∃ (f : Addr) (fd : FuncData), Fun K x x st f fd ∧ mg x = some (.ref f) ∧ Binds K fd ps []
structure MetIn (K : PySem.W.Frag) (C : Addr) (m qual : Str) (st : Stmt) (ps : List Str) : Prop where
  ex : ∃ (f : Addr) (fd : FuncData), Fun K m qual st f fd ∧ Meth K C m f ∧ Binds K fd ps []
structure MakIn (K : PySem.W.Frag) (mg : Str → Option Value) (x : Str) (C : Addr) (qual : Str) (st : Stmt) (ps : List Str) : Prop where
  ex : ∃ (f : Addr) (fd : FuncData), Fun K "__init__" qual st f fd ∧ Mk K C f ∧ mg x = some (.ref C) ∧ Binds K fd ps []
section
variable {P : Program} {w : World} {K : PySem.W.Frag} {mg : Str → Option Value} {base : Heap}
theorem DefIn.cal {x : Str} {st : Stmt} {N ps : List Str} {k : Nat} {sp : Sp} (D : DefIn K mg x st ps) (S : FnScope N ps (defScope st)) (len : ∀ vs H Q E, sp vs H Q E → vs.length = ps.length)
    (hbody : ∀ (f : Addr) (cdv : Value) (A : Around) (outer : List Env) (s : Shared) (H : Hp) (vs : List V) (Q : VK) (E : XK), Room k (A.deeper (envOfC x (defScope st) s.heap.objs.size f cdv)) → sp vs H Q E →
      ∃ t, PSs (cxOf CX0 P w K mg base N x (defScope st) f cdv A outer s H E).nox (defBody st) t ∧ t { nx := fun _ H' => Q .non H', rt := Q } (start N vs) H) : Cal P w K mg base (k + 1) x sp := by
  obtain ⟨f, fd, F, hm, b⟩ := D.ex
  exact ⟨f, fd, ps, F.ok S len (hbody f), hm, F.kp, b⟩
theorem MetIn.met {C : Addr} {m qual : Str} {st : Stmt} {N ps : List Str} {k : Nat} {sp : Sp} (c : Cls K C) (D : MetIn K C m qual st ps) (S : FnScope N ps (defScope st)) (len : ∀ vs H Q E, sp vs H Q E → vs.length = ps.length)
    (hbody : ∀ (f : Addr) (cdv : Value) (A : Around) (outer : List Env) (s : Shared) (H : Hp) (vs : List V) (Q : VK) (E : XK), Room k (A.deeper (envOfC qual (defScope st) s.heap.objs.size f cdv)) → sp vs H Q E →
      ∃ t, PSs (cxOf CX0 P w K mg base N qual (defScope st) f cdv A outer s H E).nox (defBody st) t ∧ t { nx := fun _ H' => Q .non H', rt := Q } (start N vs) H) : Met P w K mg base (k + 1) C m sp := by
  obtain ⟨f, fd, F, hm, b⟩ := D.ex
  exact ⟨f, fd, ps, c, hm, F.ok S len (hbody f), b⟩
theorem MakIn.mak {C : Addr} {x qual : Str} {st : Stmt} {N ps : List Str} {k : Nat} {sp : Sp} (D : MakIn K mg x C qual st ps) (S : FnScope N ps (defScope st)) (len : ∀ vs H Q E, sp vs H Q E → vs.length = ps.length)
    (hbody : ∀ (f : Addr) (cdv : Value) (A : Around) (outer : List Env) (s : Shared) (H : Hp) (vs : List V) (Q : VK) (E : XK), Room k (A.deeper (envOfC qual (defScope st) s.heap.objs.size f cdv)) → sp vs H Q E →
      ∃ t, PSs (cxOf CX0 P w K mg base N qual (defScope st) f cdv A outer s H E).nox (defBody st) t ∧ t { nx := fun _ H' => Q .non H', rt := Q } (start N vs) H) : Mak P w K mg base (k + 1) x C sp := by
  obtain ⟨f, fd, F, M, hm, b⟩ := D.ex
  exact ⟨f, fd, ps, M, F.ok S len (hbody f), hm, b⟩
end
theorem Cal.mono {P w K mg base j k x sp} (c : Cal P w K mg base j x sp) (h : j ≤ k) : Cal P w K mg base k x sp := by
  obtain ⟨f, fd, ps, F, r⟩ := c.ex
  exact ⟨f, fd, ps, F.mono h, r⟩
theorem Cal.imp {P w K mg base k x sp sp'} (c : Cal P w K mg base k x sp) (h : ∀ vs H Q E, sp' vs H Q E → sp vs H Q E) : Cal P w K mg base k x sp' := by
  obtain ⟨f, fd, ps, F, r⟩ := c.ex
  exact ⟨f, fd, ps, F.imp h, r⟩
/-! ## what the built-in names stand for -/
theorem b_len : bootBuiltins "len" = some (.builtin "len") := by decide +kernel
theorem b_abs : bootBuiltins "abs" = some (.builtin "abs") := by decide +kernel
theorem b_max : bootBuiltins "max" = some (.builtin "max") := by decide +kernel
theorem b_min : bootBuiltins "min" = some (.builtin "min") := by decide +kernel
theorem b_isinstance : bootBuiltins "isinstance" = some (.builtin "isinstance") := by decide +kernel
theorem b_int : bootBuiltins "int" = some (.type "int") := by decide +kernel
theorem b_bool : bootBuiltins "bool" = some (.type "bool") := by decide +kernel
theorem b_str : bootBuiltins "str" = some (.type "str") := by decide +kernel
theorem b_list : bootBuiltins "list" = some (.type "list") := by decide +kernel
theorem b_tuple : bootBuiltins "tuple" = some (.type "tuple") := by decide +kernel
/-! ## heaps -/
/-- all that was tracked stands, but for what is at p -/
def Keep (p : Addr) (H H' : Hp) : Prop := ∀ b, b ≠ p → ∀ o, H b = some o → H' b = some o
theorem Keep.refl {p H} : Keep p H H := fun _ _ _ h => h
theorem Keep.trans {p H H1 H2} (a : Keep p H H1) (b : Keep p H1 H2) : Keep p H H2 := fun c n o h => b c n o (a c n o h)
theorem Keep.upd {p H H' o} (a : Keep p H H') : Keep p H (upd H' p o) := fun c n u h => by rw [upd_ne n]; exact a c n u h
theorem Keep.new {p H H' q o} (a : Keep p H H') (h : H' q = none) : Keep p H (L2.upd H' q o) := fun c n u h1 => by
  rw [upd_ne (ne_of_none (a c n u h1) h)]; exact a c n u h1
theorem Keep.same {p H H' H2} (a : Keep p H H') (b : Same H' H2) : Keep p H H2 := fun c n o h => b c o (a c n o h)
theorem _root_.L2.Same.keep {p H H'} (a : Same H H') : Keep p H H' := fun c _ o h => a c o h
theorem same_new {H q o} (h : H q = none) : Same H (upd H q o) := fun c u h1 => by rw [upd_ne (ne_of_none h1 h)]; exact h1
theorem _root_.L2.Same.new {H H' q o} (a : Same H H') (h : H' q = none) : Same H (upd H' q o) := a.trans (same_new h)
theorem Keep.seq {p a : Addr} {K H H' xs} (k : Keep p H H') (h : SqL K H a xs) (n : a ≠ p) : SqL K H' a xs := by
  rcases h with (h | ⟨o, h⟩) | h
  · exact .inl (.inl (k _ n _ h))
  · exact .inl (.inr ⟨o, k _ n _ h⟩)
  · exact .inr h
theorem Keep.seqT {p a : Addr} {K H H' xs} (k : Keep p H H') (h : SqT K H a xs) (n : a ≠ p) : SqT K H' a xs := by
  rcases h with (h | ⟨o, h⟩) | h
  · exact .inl (.inl (k _ n _ h))
  · exact .inl (.inr ⟨o, k _ n _ h⟩)
  · exact .inr h
theorem _root_.L2.Same.seqT {K H H' a xs} (e : Same H H') (h : SqT K H a xs) : SqT K H' a xs := by
  rcases h with (h | ⟨o, h⟩) | h
  · exact .inl (.inl (e _ _ h))
  · exact .inl (.inr ⟨o, e _ _ h⟩)
  · exact .inr h
/-- a pool of the law: a list of four ints -/
def IsPool (H : Hp) (p : Addr) : Prop := ∃ a b c d : Int, H p = some (.lst [.int a, .int b, .int c, .int d])
theorem IsPool.ne {H p b o} (h : IsPool H p) (hb : H b = some o) (ho : ∀ l, o ≠ .lst l) : b ≠ p := by
  obtain ⟨_, _, _, _, h⟩ := h
  exact ne_of hb h (ho _)
theorem IsPool.same {H H' p} (s : Same H H') (h : IsPool H p) : IsPool H' p := by
  obtain ⟨a, b, c, d, h⟩ := h; exact ⟨a, b, c, d, s _ _ h⟩
theorem IsPool.upd {H p a b c d} : IsPool (upd H p (.lst [.int a, .int b, .int c, .int d])) p := ⟨a, b, c, d, upd_same⟩
theorem Keep.free {p q H H'} (k : Keep p H H') (n : q ≠ p) (h : H' q = none) : H q = none := by
  cases e : H q with
  | none => rfl
  | some o => rw [k q n o e] at h; cases h
theorem IsPool.some {H p} (h : IsPool H p) : ∃ l, H p = some (.lst l) := by
  obtain ⟨_, _, _, _, h⟩ := h; exact ⟨_, h⟩
theorem IsPool.free {H p q} (h : IsPool H p) (hq : H q = none) : q ≠ p := by
  obtain ⟨_, _, _, _, h⟩ := h
  exact (ne_of_none h hq).symm
def spLaw (K : PySem.W.Frag) : Sp := fun vs H Q _ => ∃ (a : Addr) (ns : List Int), vs = [.ref a] ∧ SqL K H a (ns.map V.int) ∧ ∀ H', Q (.bl true) H'
theorem seq_after {K : PySem.W.Frag} {H H' : Hp} {a p : Addr} {xs : List V} (h : SqL K H a xs) (hp : H p = none) (k : Keep p H H') : SqL K H' a xs := by
  rcases h with (h | ⟨o, h⟩) | h
  · exact .inl (.inl (k _ (ne_of_none h hp) _ h))
  · exact .inl (.inr ⟨o, k _ (ne_of_none h hp) _ h⟩)
  · exact .inr h
theorem map_get {ls : List Int} {i : Nat} {x : V} (h : (ls.map V.int)[i]? = some x) : ∃ l, ls[i]? = some l ∧ x = .int l := by
  rw [List.getElem?_map] at h
  obtain ⟨l, el, e⟩ := Option.map_eq_some_iff.mp h
  exact ⟨l, el, e.symm⟩
theorem get_map {ls : List Int} {i : Nat} {l : Int} (h : ls[i]? = some l) : (ls.map V.int)[i]? = some (.int l) := by
  rw [List.getElem?_map, h]; rfl
/-- a statement, then the rest, with a word between them -/
def tCut (t u : TS) : TS := fun D σ H => ∃ Mid : L2.St → Hp → Prop, t { D with nx := Mid } σ H ∧ ∀ σ' H', Mid σ' H' → u D σ' H'
theorem pss_cut {X : Cx} {st : Stmt} {rest : List Stmt} {t u : TS} (h1 : PS X st t) (h2 : PSs X rest u) : PSs X (st :: rest) (tCut t u) := by
  refine ⟨fun pins s σ H D I h => ?_⟩
  obtain ⟨Mid, hm, hu⟩ := h
  refine wpAny_execs_cons (thn (h1.run pins s σ H { D with nx := Mid } I hm) fun f s1 q => ?_)
  cases f with
  | next =>
    obtain ⟨σ', H', I', q⟩ := q
    exact h2.run pins s1 σ' H' D I' (hu σ' H' q)
  | ret v => exact q
  | brk => exact q
  | cont => exact q
theorem lc_yes {Q : Bool → Hp → Prop} {σ : L2.St} {H : Hp} (h : Q true H) : tYes σ H Q := h
theorem ite_b {c : Bool} {A B : Prop} (h1 : c = true → A) (h2 : c = false → B) : if c = true then A else B := by
  cases c with
  | true => exact h1 rfl
  | false => exact iteF (h2 rfl)
end LR

set_option Elab.async false
set_option maxRecDepth 100000
set_option linter.all false
set_option maxHeartbeats 4000000
namespace LR
open PySem PySem.Spec PyProof.Rows L2
/-! ## data of the law, as they lie in the heap -/
inductive Dt where
  | non | bl (b : Bool) | int (i : Int) | str (x : Str) | lst (l : List Dt) | tup (l : List Dt)
mutual
inductive At (H : Hp) : V → Dt → Prop
  | non : At H .non .non
  | bl (b : Bool) : At H (.bl b) (.bl b)
  | int (i : Int) : At H (.int i) (.int i)
  | str (x : Str) : At H (.str x) (.str x)
  | lst {p : Addr} {xs : List V} {ds : List Dt} (h : H p = some (.lst xs)) (a : Ats H xs ds) (z : xs.length ≤ 100000) : At H (.ref p) (.lst ds)
  | tup {p : Addr} {xs : List V} {ds : List Dt} (h : H p = some (.tup xs)) (a : Ats H xs ds) (z : xs.length ≤ 100000) : At H (.ref p) (.tup ds)
inductive Ats (H : Hp) : List V → List Dt → Prop
  | nil : Ats H [] []
  | cons {x : V} {d : Dt} {xs : List V} {ds : List Dt} (h : At H x d) (t : Ats H xs ds) : Ats H (x :: xs) (d :: ds)
end
mutual
def dep : Dt → Nat
  | .lst l => deps l + 1
  | .tup l => deps l + 1
  | _ => 0
def deps : List Dt → Nat
  | [] => 0
  | d :: r => max (dep d) (deps r)
end
theorem deps_mem {d : Dt} : ∀ {l : List Dt}, d ∈ l → dep d ≤ deps l
  | e :: r, h => by
    rw [deps]
    rcases List.mem_cons.mp h with rfl | h
    · exact Nat.le_max_left _ _
    · exact Nat.le_trans (deps_mem h) (Nat.le_max_right _ _)
theorem deps_ints : ∀ l : List Int, deps (l.map Dt.int) = 0
  | [] => rfl
  | i :: r => by rw [List.map_cons, deps, deps_ints r]; rfl
theorem Ats.length {H : Hp} {xs ds} (h : Ats H xs ds) : xs.length = ds.length := by
  revert ds; induction xs with
  | nil => intro ds h; cases h; rfl
  | cons x xs ih => intro ds h; cases h with | cons a t => rw [List.length_cons, List.length_cons, ih t]
theorem Ats.get {H : Hp} : ∀ {xs ds} (h : Ats H xs ds) {i : Nat} {x : V}, xs[i]? = some x → ∃ d, ds[i]? = some d ∧ At H x d := by
  intro xs; induction xs with
  | nil => intro ds h i x e; simp at e
  | cons y xs ih => 
    intro ds h i x e
    cases h with
    | cons a t =>
      cases i with
      | zero => exact ⟨_, rfl, by simp at e; subst e; exact a⟩
      | succ i => exact ih t (by simpa using e)
theorem Ats.getD {H : Hp} {xs ds} (h : Ats H xs ds) {i : Nat} {d : Dt} (e : ds[i]? = some d) : ∃ x, xs[i]? = some x ∧ At H x d := by
  have hl := h.length
  have hi : i < xs.length := by rw [hl]; exact (List.getElem?_eq_some_iff.mp e).1
  obtain ⟨d', e', a⟩ := h.get (List.getElem?_eq_getElem hi)
  rw [e] at e'; cases e'
  exact ⟨_, List.getElem?_eq_getElem hi, a⟩
theorem ats_ints (H : Hp) : ∀ l : List Int, Ats H (l.map V.int) (l.map Dt.int)
  | [] => .nil
  | i :: r => .cons (.int i) (ats_ints H r)
mutual
theorem At.same {H H' : Hp} (s : Same H H') : ∀ {x d}, At H x d → At H' x d
  | _, _, .non => .non
  | _, _, .bl b => .bl b
  | _, _, .int i => .int i
  | _, _, .str x => .str x
  | _, _, .lst h a z => .lst (s _ _ h) (a.same s) z
  | _, _, .tup h a z => .tup (s _ _ h) (a.same s) z
theorem Ats.same {H H' : Hp} (s : Same H H') : ∀ {xs ds}, Ats H xs ds → Ats H' xs ds
  | _, _, .nil => .nil
  | _, _, .cons h t => .cons (h.same s) (t.same s)
end
theorem ats_ints_eq {l m : List Int} (h : l.map Dt.int = m.map Dt.int) : l = m := by
  induction l generalizing m with
  | nil => cases m with
    | nil => rfl
    | cons => simp at h
  | cons x l ih => cases m with
    | nil => simp at h
    | cons y m => 
      simp only [List.map_cons, List.cons.injEq, Dt.int.injEq] at h
      rw [h.1, ih h.2]
def ty : Dt → String
  | .non => "NoneType" | .bl _ => "bool" | .int _ => "int" | .str _ => "str" | .lst _ => "list" | .tup _ => "tuple"
def isL : Dt → Bool | .lst _ => true | _ => false
def isU : Dt → Bool | .tup _ => true | _ => false
def isB : Dt → Bool | .bl _ => true | _ => false
def isI : Dt → Bool | .int _ => true | .bl _ => true | _ => false
def isN : Dt → Bool | .int _ => true | _ => false
def isS : Dt → Bool | .str _ => true | _ => false
theorem At.tyX {K H x d} (h : At H x d) : TyX K H x (.type (ty d)) := by
  cases h with
  | non => exact .base .non
  | bl b => exact .base (.bl b)
  | int i => exact .base (.int i)
  | str x => exact .base (.str x)
  | lst h _ _ => exact .base (.lst h)
  | tup h _ _ => exact .base (.tup h)
theorem kitL (d : Dt) : kitB (ty d) "list" = some (isL d) := by
  cases d with
  | non => exact (by decide +kernel : kitB "NoneType" "list" = some false)
  | bl b => exact (by decide +kernel : kitB "bool" "list" = some false)
  | int i => exact (by decide +kernel : kitB "int" "list" = some false)
  | str x => exact (by decide +kernel : kitB "str" "list" = some false)
  | lst l => exact (by decide +kernel : kitB "list" "list" = some true)
  | tup l => exact (by decide +kernel : kitB "tuple" "list" = some false)

theorem kitU (d : Dt) : kitB (ty d) "tuple" = some (isU d) := by
  cases d with
  | non => exact (by decide +kernel : kitB "NoneType" "tuple" = some false)
  | bl b => exact (by decide +kernel : kitB "bool" "tuple" = some false)
  | int i => exact (by decide +kernel : kitB "int" "tuple" = some false)
  | str x => exact (by decide +kernel : kitB "str" "tuple" = some false)
  | lst l => exact (by decide +kernel : kitB "list" "tuple" = some false)
  | tup l => exact (by decide +kernel : kitB "tuple" "tuple" = some true)

theorem kitBo (d : Dt) : kitB (ty d) "bool" = some (isB d) := by
  cases d with
  | non => exact (by decide +kernel : kitB "NoneType" "bool" = some false)
  | bl b => exact (by decide +kernel : kitB "bool" "bool" = some true)
  | int i => exact (by decide +kernel : kitB "int" "bool" = some false)
  | str x => exact (by decide +kernel : kitB "str" "bool" = some false)
  | lst l => exact (by decide +kernel : kitB "list" "bool" = some false)
  | tup l => exact (by decide +kernel : kitB "tuple" "bool" = some false)

theorem kitI (d : Dt) : kitB (ty d) "int" = some (isI d) := by
  cases d with
  | non => exact (by decide +kernel : kitB "NoneType" "int" = some false)
  | bl b => exact (by decide +kernel : kitB "bool" "int" = some true)
  | int i => exact (by decide +kernel : kitB "int" "int" = some true)
  | str x => exact (by decide +kernel : kitB "str" "int" = some false)
  | lst l => exact (by decide +kernel : kitB "list" "int" = some false)
  | tup l => exact (by decide +kernel : kitB "tuple" "int" = some false)

theorem kitS (d : Dt) : kitB (ty d) "str" = some (isS d) := by
  cases d with
  | non => exact (by decide +kernel : kitB "NoneType" "str" = some false)
  | bl b => exact (by decide +kernel : kitB "bool" "str" = some false)
  | int i => exact (by decide +kernel : kitB "int" "str" = some false)
  | str x => exact (by decide +kernel : kitB "str" "str" = some true)
  | lst l => exact (by decide +kernel : kitB "list" "str" = some false)
  | tup l => exact (by decide +kernel : kitB "tuple" "str" = some false)

theorem isi {K H x d T b} {Q : VK} (a : At H x d) (hb : kitB (ty d) T = some b) (q : Q (.bl b) H) : rIsi K [x, .ty T] H Q := ⟨x, .ty T, _, _, b, rfl, .ty T, a.tyX, kit_ty hb, q⟩
end LR

set_option Elab.async false
set_option maxRecDepth 100000
set_option linter.all false
set_option maxHeartbeats 4000000
namespace LR
open PySem PySem.Spec PyProof.Rows L2
/-! ## the mathematics of a ladder -/
def cnt (lv : Int) (l : List Int) : Int := ((l.filter (fun x => decide (lv ≤ x))).length : Int)
/-- levels of at least lv below step i -/
def cn (ls : List Int) (lv : Int) (i : Nat) : Int := cnt lv (ls.take i)
def cnL (ls : List Int) (lv : Int) (n : Nat) : List V := (List.range n).map fun i => V.int (cn ls lv i)
theorem cnL_get {ls lv n i} (h : i < n) : (cnL ls lv n)[i]? = some (V.int (cn ls lv i)) := by
  unfold cnL; rw [List.getElem?_map, List.getElem?_range h]; rfl
theorem cnL_length {ls lv n} : (cnL ls lv n).length = n := by unfold cnL; rw [List.length_map, List.length_range]
theorem cnL_succ {ls lv n} : cnL ls lv (n + 1) = cnL ls lv n ++ [V.int (cn ls lv n)] := by
  unfold cnL; rw [List.range_succ, List.map_append]; rfl
theorem cn_succ {ls : List Int} {lv : Int} {i : Nat} {z : Int} (h : ls[i]? = some z) : cn ls lv (i + 1) = cn ls lv i + (if lv ≤ z then 1 else 0) := by
  unfold cn cnt
  rw [List.take_succ, h, List.filter_append, List.length_append]
  simp only [Option.toList]
  by_cases c : lv ≤ z
  · simp [c]
  · simp [c]
def lfs (h : Int) (tl : Addr) (n : Int) (tc : Addr) : List (Str × V) := [("height", .int h), ("levels", .ref tl), ("top", .int n), ("_counts", .ref tc)]
/-- what lies in the heap of the tuple of counts -/
def Counts (H : Hp) (ls : List Int) (tc : Addr) (h : Int) : Prop := ∃ cs : List Addr, H tc = some (.tup (cs.map V.ref)) ∧ cs.length = (h + 1).toNat ∧ ∀ (j : Nat) (a : Addr), cs[j]? = some a → H a = some (.tup (cnL ls (j + 1) (ls.length + 1)))
/-- a ladder of height h and row ls stands at x -/
def LadderAt (C : Addr) (H : Hp) (x : Addr) (h : Int) (ls : List Int) : Prop := ∃ dx tl tc, H x = some (.ins C dx (lfs h tl ls.length tc)) ∧ H tl = some (.tup (ls.map V.int)) ∧ Counts H ls tc h
theorem LadderAt.same {C H H' x h ls} (s : Same H H') (a : LadderAt C H x h ls) : LadderAt C H' x h ls := by
  obtain ⟨dx, tl, tc, h1, h2, cs, h3, h4, h5⟩ := a
  exact ⟨dx, tl, tc, s _ _ h1, s _ _ h2, cs, s _ _ h3, h4, fun j a e => s _ _ (h5 j a e)⟩
theorem LadderAt.keep {C H H' x h ls p} (s : Keep p H H') (hp : ∃ l, H p = some (.lst l)) (a : LadderAt C H x h ls) : LadderAt C H' x h ls := by
  obtain ⟨l, hp⟩ := hp
  obtain ⟨dx, tl, tc, h1, h2, cs, h3, h4, h5⟩ := a
  have k : ∀ b o, H b = some o → (∀ l, o ≠ .lst l) → H' b = some o := fun b o e n => s _ (ne_of e hp (n _)) _ e
  exact ⟨dx, tl, tc, k _ _ h1 (fun l z => by cases z), k _ _ h2 (fun l z => by cases z), cs, k _ _ h3 (fun l z => by cases z), h4, fun j a e => k _ _ (h5 j a e) (fun l z => by cases z)⟩
/-- what the ladder answers: an edge of rank p from u to w -/
def alw (ls : List Int) (u p w : Int) : Bool := if p % 2 = 0 then decide (cn ls (p / 2 + 1) w.toNat ≤ cn ls (p / 2 + 1) u.toNat) else decide (cn ls (p / 2 + 1) w.toNat < cn ls (p / 2 + 1) u.toNat)
/-! ## the mathematics of allowed edges -/
theorem cn_le_succ (ls : List Int) (lv : Int) (i : Nat) : cn ls lv i ≤ cn ls lv (i + 1) := by
  cases h : ls[i]? with
  | none =>
    have hl : ls.length ≤ i := List.getElem?_eq_none_iff.mp h
    unfold cn
    rw [List.take_of_length_le hl, List.take_of_length_le (by omega)]
    exact Int.le_refl _
  | some z =>
    rw [cn_succ h]
    split <;> omega
theorem cn_mono (ls : List Int) (lv : Int) {i k : Nat} (h : i ≤ k) : cn ls lv i ≤ cn ls lv k := by
  induction h with
  | refl => exact Int.le_refl _
  | step _ ih => exact Int.le_trans ih (cn_le_succ _ _ _)
/-- equal counts: no level of at least lv between -/
theorem cn_eq (ls : List Int) (lv : Int) {i k : Nat} (h : i ≤ k) : cn ls lv k ≤ cn ls lv i ↔ ∀ (m : Nat) (z : Int), i ≤ m → m < k → ls[m]? = some z → z < lv := by
  induction h with
  | refl => exact ⟨fun _ m z a b => by omega, fun _ => Int.le_refl _⟩
  | @step k hk ih =>
    have m1 := cn_mono ls lv hk
    have m2 := cn_le_succ ls lv k
    show cn ls lv (k + 1) ≤ cn ls lv i ↔ ∀ (m : Nat) (z : Int), i ≤ m → m < k + 1 → ls[m]? = some z → z < lv
    constructor
    · intro c m z a b e
      by_cases q : m < k
      · exact ih.mp (by omega) m z a q e
      · have : m = k := by omega
        subst this
        have e2 := cn_succ (lv := lv) e
        by_cases q2 : lv ≤ z
        · rw [if_pos q2] at e2; omega
        · omega
    · intro c
      have c1 := ih.mpr fun m z a b e => c m z a (by omega) e
      cases e : ls[k]? with
      | none =>
        have hl : ls.length ≤ k := List.getElem?_eq_none_iff.mp e
        have : cn ls lv (k + 1) = cn ls lv k := by
          unfold cn
          rw [List.take_of_length_le hl, List.take_of_length_le (by omega)]
        omega
      | some z =>
        have e2 := cn_succ (lv := lv) e
        have := c k z hk (by omega) e
        rw [if_neg (by omega)] at e2
        omega
/-- what is allowed never leads above in a higher count -/
theorem alw_count {ls : List Int} {u p v lv : Int} (h : alw ls u p v = true) (hl : p / 2 + 1 ≤ lv) : cn ls lv v.toNat ≤ cn ls lv u.toNat := by
  by_cases c : v.toNat ≤ u.toNat
  · exact cn_mono _ _ c
  have c : u.toNat ≤ v.toNat := by omega
  unfold alw at h
  have hle : cn ls (p / 2 + 1) v.toNat ≤ cn ls (p / 2 + 1) u.toNat := by
    split at h
    · exact of_decide_eq_true h
    · have := of_decide_eq_true h; omega
  rw [cn_eq _ _ c] at hle ⊢
  intro m z a b e
  have := hle m z a b e
  omega
theorem alw_step {ls : List Int} {u p v : Int} : alw ls u p v = true ↔ (p % 2 = 0 → cn ls (p / 2 + 1) v.toNat ≤ cn ls (p / 2 + 1) u.toNat) ∧ (¬ p % 2 = 0 → cn ls (p / 2 + 1) v.toNat < cn ls (p / 2 + 1) u.toNat) := by
  unfold alw
  split
  · rename_i c; exact ⟨fun h => ⟨fun _ => of_decide_eq_true h, fun q => absurd c q⟩, fun h => decide_eq_true (h.1 c)⟩
  · rename_i c; exact ⟨fun h => ⟨fun q => absurd q c, fun _ => of_decide_eq_true h⟩, fun h => decide_eq_true (h.2 c)⟩
theorem alw_trans {ls : List Int} {u p v q w : Int} (h1 : alw ls u p v = true) (h2 : alw ls v q w = true) : alw ls u (max p q) w = true := by
  by_cases c : p ≤ q
  · rw [Int.max_eq_right c]
    have k := alw_count h1 (lv := q / 2 + 1) (by omega)
    rw [alw_step] at h2 ⊢
    exact ⟨fun e => Int.le_trans (h2.1 e) k, fun e => Int.lt_of_lt_of_le (h2.2 e) k⟩
  · rw [Int.max_eq_left (by omega)]
    have k := alw_count h2 (lv := p / 2 + 1) (by omega)
    rw [alw_step] at h1 ⊢
    exact ⟨fun e => Int.le_trans k (h1.1 e), fun e => Int.lt_of_le_of_lt k (h1.2 e)⟩
theorem alw_loop {ls : List Int} {u p : Int} (h : alw ls u p u = true) : p % 2 = 0 := by
  rw [alw_step] at h
  apply Classical.byContradiction
  intro c
  exact absurd (h.2 c) (Int.lt_irrefl _)
/-- g is the greatest level from place lo to hi, 0 if there is none -/
def IsGap (ls : List Int) (lo hi : Nat) (g : Int) : Prop := 0 ≤ g ∧ (∀ (m : Nat) (z : Int), lo ≤ m → m < hi → ls[m]? = some z → z ≤ g) ∧ (g = 0 ∨ ∃ m : Nat, lo ≤ m ∧ m < hi ∧ ls[m]? = some g)
theorem IsGap.le {ls : List Int} {lo hi : Nat} {g j : Int} (h : IsGap ls lo hi g) (hj : 0 ≤ j) : g ≤ j ↔ ∀ (m : Nat) (z : Int), lo ≤ m → m < hi → ls[m]? = some z → z < j + 1 := by
  constructor
  · intro c m z a b e
    have := h.2.1 m z a b e
    omega
  · intro c
    rcases h.2.2 with e | ⟨m, a, b, e⟩
    · omega
    · have := c m g a b e
      omega
/-- what the law says of an edge is what the ladder answers -/
theorem alw_gap {ls : List Int} {u p v g : Int} (hu : 0 ≤ u) (hv : 0 ≤ v) (hp : 0 ≤ p) (h : IsGap ls (min u.toNat v.toNat) (max u.toNat v.toNat) g) :
    alw ls u p v = if p % 2 = 0 then (decide (v ≤ u) || decide (2 * g ≤ p)) else (decide (v < u) && decide (p < 2 * g)) := by
  rw [Bool.eq_iff_iff, alw_step]
  by_cases c : v ≤ u
  · have e1 : min u.toNat v.toNat = v.toNat := by omega
    have e2 : max u.toNat v.toNat = u.toNat := by omega
    rw [e1, e2] at h
    have m1 := cn_mono ls (p / 2 + 1) (show v.toNat ≤ u.toNat by omega)
    have k := cn_eq ls (p / 2 + 1) (show v.toNat ≤ u.toNat by omega)
    rw [← h.le (by omega)] at k
    split
    · rename_i e
      simp only [decide_eq_true c, Bool.true_or]
      exact ⟨fun _ => trivial, fun _ => ⟨fun _ => m1, fun q => absurd e q⟩⟩
    · rename_i e
      rw [Bool.and_eq_true, decide_eq_true_eq, decide_eq_true_eq]
      constructor
      · intro q
        have q := q.2 e
        have hg : ¬ g ≤ p / 2 := fun z => by have := k.mpr z; omega
        refine ⟨?_, by omega⟩
        rcases Int.lt_or_eq_of_le c with z | z
        · exact z
        · subst z; omega
      · intro ⟨q1, q2⟩
        have hg : ¬ g ≤ p / 2 := by omega
        refine ⟨fun z => absurd z e, fun _ => ?_⟩
        have : ¬ cn ls (p / 2 + 1) u.toNat ≤ cn ls (p / 2 + 1) v.toNat := fun z => hg (k.mp z)
        omega
  · have e1 : min u.toNat v.toNat = u.toNat := by omega
    have e2 : max u.toNat v.toNat = v.toNat := by omega
    rw [e1, e2] at h
    have m1 := cn_mono ls (p / 2 + 1) (show u.toNat ≤ v.toNat by omega)
    have k := cn_eq ls (p / 2 + 1) (show u.toNat ≤ v.toNat by omega)
    rw [← h.le (by omega)] at k
    split
    · rename_i e
      simp only [decide_eq_false c, Bool.false_or, decide_eq_true_eq]
      exact ⟨fun q => by have := k.mp (q.1 e); omega, fun q => ⟨fun _ => k.mpr (by omega), fun z => absurd e z⟩⟩
    · rename_i e
      have c2 : ¬ v < u := by omega
      simp only [decide_eq_false c2, Bool.false_and]
      exact ⟨fun q => by have := q.2 e; omega, fun q => by cases q⟩
/-- places and ranks of a walk of allowed edges -/
def Path (ls : List Int) (h : Int) (pl rk : List Int) : Prop := pl.length = rk.length + 1 ∧ (∀ z ∈ pl, 0 ≤ z ∧ z ≤ ls.length) ∧ (∀ r ∈ rk, 0 ≤ r ∧ r ≤ 2 * h) ∧ ∀ (i : Nat) (u p v : Int), pl[i]? = some u → rk[i]? = some p → pl[i + 1]? = some v → alw ls u p v = true
theorem Path.add {ls : List Int} {h : Int} {pl rk : List Int} {u p v : Int} (a : Path ls h (pl ++ [u]) rk) (hp : 0 ≤ p ∧ p ≤ 2 * h) (hv : 0 ≤ v ∧ v ≤ ls.length) (e : alw ls u p v = true) : Path ls h (pl ++ [u] ++ [v]) (rk ++ [p]) := by
  obtain ⟨a1, a2, a3, a4⟩ := a
  have a1' : pl.length = rk.length := by simpa using a1
  refine ⟨by simp [a1'], fun z hz => ?_, fun r hr => ?_, fun i u' p' v' h1 h2 h3 => ?_⟩
  · rcases List.mem_append.mp hz with q | q
    · exact a2 z q
    · have : z = v := by simpa using q
      rw [this]; exact hv
  · rcases List.mem_append.mp hr with q | q
    · exact a3 r q
    · have : r = p := by simpa using q
      rw [this]; exact hp
  · have hi : i < rk.length + 1 := by
      have := (List.getElem?_eq_some_iff.mp h2).1
      simpa using this
    by_cases q : i < rk.length
    · rw [List.getElem?_append_left (by simp; omega)] at h1 h3
      rw [List.getElem?_append_left q] at h2
      exact a4 i u' p' v' h1 h2 h3
    · have : i = rk.length := by omega
      subst this
      rw [List.getElem?_append_left (by simp; omega), ← a1', List.getElem?_append_right (Nat.le_refl _)] at h1
      rw [List.getElem?_append_right (Nat.le_refl _)] at h2
      rw [List.getElem?_append_right (by simp; omega)] at h3
      simp [a1'] at h1 h2 h3
      rw [← h1, ← h2, ← h3]; exact e
end LR

set_option Elab.async false
set_option maxRecDepth 100000
set_option linter.all false
set_option maxHeartbeats 4000000
namespace LR
open PySem PySem.Spec PyProof.Rows L2
def topS (i : Nat) : Stmt := PySem.Challenge.pw_ladderreach_k17_whole_walks_of_steps_com.main.body.getD i (.Pass ⟨0, 0, 0, 0⟩)
abbrev s_check_height : Stmt := topS 11
abbrev N_check_height : List Str := ["height"]
theorem sc_check_height : FnScope N_check_height ["height"] (defScope s_check_height) := ⟨rfl, rfl, rfl, by decide +kernel, rfl, by decide +kernel, by decide +kernel⟩
abbrev s_check_row : Stmt := topS 15
abbrev N_check_row : List Str := ["height", "row", "most", "index", "level"]
theorem sc_check_row : FnScope N_check_row ["height", "row", "most"] (defScope s_check_row) := ⟨rfl, rfl, rfl, by decide +kernel, rfl, by decide +kernel, by decide +kernel⟩
abbrev s_check_step : Stmt := topS 13
abbrev N_check_step : List Str := ["top", "step"]
theorem sc_check_step : FnScope N_check_step ["top", "step"] (defScope s_check_step) := ⟨rfl, rfl, rfl, by decide +kernel, rfl, by decide +kernel, by decide +kernel⟩
abbrev s_check_rank : Stmt := topS 14
abbrev N_check_rank : List Str := ["height", "rank"]
theorem sc_check_rank : FnScope N_check_rank ["height", "rank"] (defScope s_check_rank) := ⟨rfl, rfl, rfl, by decide +kernel, rfl, by decide +kernel, by decide +kernel⟩
abbrev s__counts_from : Stmt := topS 22
abbrev N__counts_from : List Str := ["level", "levels", "counts", "other"]
theorem sc__counts_from : FnScope N__counts_from ["level", "levels"] (defScope s__counts_from) := ⟨rfl, rfl, rfl, by decide +kernel, rfl, by decide +kernel, by decide +kernel⟩
abbrev s_pool : Stmt := topS 24
abbrev N_pool : List Str := ["script", "k", "cell"]
theorem sc_pool : FnScope N_pool ["script", "k"] (defScope s_pool) := ⟨rfl, rfl, rfl, by decide +kernel, rfl, by decide +kernel, by decide +kernel⟩
abbrev s_draw : Stmt := topS 25
abbrev N_draw : List Str := ["pool", "many", "value", "mixed"]
theorem sc_draw : FnScope N_draw ["pool", "many"] (defScope s_draw) := ⟨rfl, rfl, rfl, by decide +kernel, rfl, by decide +kernel, by decide +kernel⟩
abbrev s_levels : Stmt := topS 26
abbrev N_levels : List Str := ["pool", "height", "limit", "size", "index"]
theorem sc_levels : FnScope N_levels ["pool", "height", "limit"] (defScope s_levels) := ⟨rfl, rfl, rfl, by decide +kernel, rfl, by decide +kernel, by decide +kernel⟩
abbrev s_number : Stmt := topS 27
abbrev N_number : List Str := ["value"]
theorem sc_number : FnScope N_number ["value"] (defScope s_number) := ⟨rfl, rfl, rfl, by decide +kernel, rfl, by decide +kernel, by decide +kernel⟩
abbrev s_same : Stmt := topS 28
abbrev N_same : List Str := ["answer", "due", "k"]
theorem sc_same : FnScope N_same ["answer", "due"] (defScope s_same) := ⟨rfl, rfl, rfl, by decide +kernel, rfl, by decide +kernel, by decide +kernel⟩
abbrev s_gap : Stmt := topS 29
abbrev N_gap : List Str := ["levels", "one", "other", "greatest", "k"]
theorem sc_gap : FnScope N_gap ["levels", "one", "other"] (defScope s_gap) := ⟨rfl, rfl, rfl, by decide +kernel, rfl, by decide +kernel, by decide +kernel⟩
abbrev s_allows : Stmt := topS 30
abbrev N_allows : List Str := ["levels", "source", "rank", "target", "gap"]
theorem sc_allows : FnScope N_allows ["levels", "source", "rank", "target"] (defScope s_allows) := ⟨rfl, rfl, rfl, by decide +kernel, rfl, by decide +kernel, by decide +kernel⟩
abbrev s_walk : Stmt := topS 31
abbrev N_walk : List Str := ["pool", "made", "levels", "height", "last", "places", "ranks", "turn", "here", "rank", "way", "goal", "tried", "due"]
theorem sc_walk : FnScope N_walk ["pool", "made", "levels", "height"] (defScope s_walk) := ⟨rfl, rfl, rfl, by decide +kernel, rfl, by decide +kernel, by decide +kernel⟩
abbrev s_stretches : Stmt := topS 32
abbrev N_stretches : List Str := ["made", "places", "ranks", "first", "greatest", "last", "one", "other"]
theorem sc_stretches : FnScope N_stretches ["made", "places", "ranks"] (defScope s_stretches) := ⟨rfl, rfl, rfl, by decide +kernel, rfl, by decide +kernel, by decide +kernel⟩
abbrev s_law : Stmt := topS 33
abbrev N_law : List Str := ["script", "pool", "height", "limit", "levels", "handed", "made", "walk"]
theorem sc_law : FnScope N_law ["script"] (defScope s_law) := ⟨rfl, rfl, rfl, by decide +kernel, rfl, by decide +kernel, by decide +kernel⟩
abbrev s_L_init : Stmt := inClass (topS 21) 1
abbrev N_L_init : List Str := ["self", "height", "levels", "level"]
theorem sc_L_init : FnScope N_L_init ["self", "height", "levels"] (defScope s_L_init) := ⟨rfl, rfl, rfl, by decide +kernel, rfl, by decide +kernel, by decide +kernel⟩
abbrev s_L_allows : Stmt := inClass (topS 21) 10
abbrev N_L_allows : List Str := ["self", "source", "rank", "target"]
theorem sc_L_allows : FnScope N_L_allows ["self", "source", "rank", "target"] (defScope s_L_allows) := ⟨rfl, rfl, rfl, by decide +kernel, rfl, by decide +kernel, by decide +kernel⟩
abbrev s_Llets : Stmt := inClass (topS 21) 15
abbrev N_Llets : List Str := ["self", "source", "rank", "target", "counts"]
theorem sc_Llets : FnScope N_Llets ["self", "source", "rank", "target"] (defScope s_Llets) := ⟨rfl, rfl, rfl, by decide +kernel, rfl, by decide +kernel, by decide +kernel⟩

structure Cs where
  Ladder : Addr
structure Txt (P : Program) (K : PySem.W.Frag) (mg : Str → Option Value) (ζ : Cs) : Prop where
  n_len : mg "len" = none
  n_abs : mg "abs" = none
  n_max : mg "max" = none
  n_min : mg "min" = none
  n_isinstance : mg "isinstance" = none
  n_int : mg "int" = none
  n_bool : mg "bool" = none
  n_str : mg "str" = none
  n_list : mg "list" = none
  n_tuple : mg "tuple" = none
  n_range : mg "range" = none
  n_enumerate : mg "enumerate" = none
  d_check_height : DefIn K mg "check_height" s_check_height ["height"]
  d_check_row : DefIn K mg "check_row" s_check_row ["height", "row", "most"]
  d_check_step : DefIn K mg "check_step" s_check_step ["top", "step"]
  d_check_rank : DefIn K mg "check_rank" s_check_rank ["height", "rank"]
  d__counts_from : DefIn K mg "_counts_from" s__counts_from ["level", "levels"]
  d_pool : DefIn K mg "_law_pool" s_pool ["script", "k"]
  d_draw : DefIn K mg "_law_draw" s_draw ["pool", "many"]
  d_levels : DefIn K mg "_law_levels" s_levels ["pool", "height", "limit"]
  d_number : DefIn K mg "_law_number" s_number ["value"]
  d_same : DefIn K mg "_law_same" s_same ["answer", "due"]
  d_gap : DefIn K mg "_law_gap" s_gap ["levels", "one", "other"]
  d_allows : DefIn K mg "_law_allows" s_allows ["levels", "source", "rank", "target"]
  d_walk : DefIn K mg "_law_walk" s_walk ["pool", "made", "levels", "height"]
  d_stretches : DefIn K mg "_law_stretches" s_stretches ["made", "places", "ranks"]
  d_law : DefIn K mg "law" s_law ["script"]
  cl_Ladder : Cls K ζ.Ladder
  mg_Ladder : mg "Ladder" = some (.ref ζ.Ladder)
  na_Ladder_height : NoAttr K ζ.Ladder "height"
  na_Ladder_levels : NoAttr K ζ.Ladder "levels"
  na_Ladder_top : NoAttr K ζ.Ladder "top"
  na_Ladder__counts : NoAttr K ζ.Ladder "_counts"
  mk_Ladder : MakIn K mg "Ladder" ζ.Ladder "Ladder.__init__" s_L_init ["self", "height", "levels"]
  mt_L_allows : MetIn K ζ.Ladder "allows" "Ladder.allows" s_L_allows ["self", "source", "rank", "target"]
  mt_Llets : MetIn K ζ.Ladder "_lets" "Ladder._lets" s_Llets ["self", "source", "rank", "target"]
  cv_Ladder_MOST_LEVELS : ∃ mc u, ClX.CRead K ζ.Ladder mc ∧ ClX.CVal K ζ.Ladder mc "MOST_LEVELS" (.int 24) u
end LR

set_option Elab.async false
set_option maxRecDepth 100000
set_option linter.all false
set_option maxHeartbeats 4000000
namespace LR
open PySem PySem.Spec PyProof.Rows L2
section
variable {P : Program} {w : World} {K : PySem.W.Frag} {mg : Str → Option Value} {base : Heap} {ζ : Cs}
def spPool (K : PySem.W.Frag) : Sp := fun vs H Q _ => ∃ (a : Addr) (ns : List Int) (k : Nat), vs = [.ref a, .int k] ∧ SqL K H a (ns.map V.int) ∧ ∀ p x y z t, H p = none → Q (.ref p) (upd H p (.lst [.int x, .int y, .int z, .int t]))
theorem ok_pool (T : Txt P K mg ζ) : Cal P w K mg base 1 "_law_pool" (spPool K) := by
  refine T.d_pool.cal sc_pool (fun vs H Q E h => ?_) (fun f cdv A outer s H vs Q E hr h => ⟨_, pss_cons (ps_set (i := 2) sc_pool.nd rfl (Or.inl rfl) (pe_int))
 (pss_cons (ps_if (pt_cmpR op_lt (pv 1) (pe_callB call_len_seq (by rfl) T.n_len b_len (pa_cons (pv 0) (pa_nil))) (nomark _))
 (pss_one (ps_set (i := 2) sc_pool.nd rfl (Or.inl rfl) (pe_callB call_abs (by rfl) T.n_abs b_abs (pa_cons (pe_callTy call_int1 (by rfl) T.n_int b_int (pa_cons (pe_ix ix_list (pv 0) (pv 1) (fun _ _ => rfl)) (pa_nil))) (pa_nil)))))
 (pss_nil))
 (pss_cons (ps_if (pt_cmpR op_ge (pv 2) (pe_op op_pow (pe_int) (pe_int)) (nomark _))
 (pss_one (ps_ret (pe_lst (pa_cons (pe_int) (pa_cons (pv 2) (pa_cons (pe_int) (pa_cons (pe_op op_add (pv 1) (pe_int)) (pa_nil))))))))
 (pss_nil))
 (pss_one (ps_ret (pe_lst (pa_cons (pe_int) (pa_cons (pv 2) (pa_cons (pe_int) (pa_cons (pe_op op_add (pv 1) (pe_int)) (pa_nil)))))))))), ?_⟩)
  · obtain ⟨a, ns, k, rfl, _⟩ := h; rfl
  obtain ⟨a, ns, k, rfl, hS, kk⟩ := h
  refine ⟨_, rfl, _, rfl, a, _, rfl, .inl hS, _, _, rfl, rfl, _, rfl, ?_⟩
  refine ite2 (fun c => ?_) (fun _ => ?_)
  have hlt : k < ns.length := by
    have := of_decide_eq_true c
    rw [List.length_map] at this
    omega
  refine ⟨_, rfl, _, rfl, a, _, _, _, rfl, rfl, hS, atI_nat (v := V.int (ns[k])) (by rw [List.getElem?_map, List.getElem?_eq_getElem hlt]; rfl), .inl ⟨_, rfl, _, rfl, ?_⟩⟩
  all_goals
    refine ⟨_, rfl, _, _, rfl, rfl, ⟨by decide, by decide, by decide⟩, _, _, rfl, rfl, _, rfl, ?_⟩
    refine ite2 (fun _ => ?_) (fun _ => ?_)
    · exact ⟨_, rfl, _, rfl, _, _, rfl, rfl, by show 4 ≤ sizeLine; decide, fun p hp => kk p _ _ _ _ hp⟩
    · exact ⟨_, rfl, _, rfl, _, _, rfl, rfl, by show 4 ≤ sizeLine; decide, fun p hp => kk p _ _ _ _ hp⟩
end
end LR

set_option Elab.async false
set_option maxRecDepth 100000
set_option linter.all false
set_option maxHeartbeats 4000000
namespace LR
open PySem PySem.Spec PyProof.Rows L2
section
variable {P : Program} {w : World} {K : PySem.W.Frag} {mg : Str → Option Value} {base : Heap} {ζ : Cs}
def spDraw : Sp := fun vs H Q _ => ∃ (p : Addr) (many : Int), vs = [.ref p, .int many] ∧ IsPool H p ∧ 0 < many ∧ many < 1073741824 ∧ ∀ (v : Int) H', 0 ≤ v → v < many → Keep p H H' → IsPool H' p → Q (.int v) H'
theorem ok_draw (T : Txt P K mg ζ) : Cal P w K mg base 1 "_law_draw" spDraw := by
  refine T.d_draw.cal sc_draw (fun vs H Q E h => ?_) (fun f cdv A outer s H vs Q E hr h => ⟨_, pss_cons (ps_if (pt_cmpR op_eq (pe_ix ix_list (pv 0) (pe_int) (fun _ _ => rfl)) (pe_int) (nomark _))
 (pss_cons (ps_set (i := 2) sc_draw.nd rfl (Or.inl rfl) (pe_op op_mod (pe_callTy call_int1 (by rfl) T.n_int b_int (pa_cons (pe_ix ix_list (pv 0) (pe_int) (fun _ _ => rfl)) (pa_nil))) (pv 1)))
 (pss_cons (ps_asg (pe_op op_fdiv (pe_callTy call_int1 (by rfl) T.n_int b_int (pa_cons (pe_ix ix_list (pv 0) (pe_int) (fun _ _ => rfl)) (pa_nil))) (pv 1)) (pg_sub (pv 0) (pe_int) set_list))
 (pss_cons (ps_if (pt_cmpR op_eq (pe_ix ix_list (pv 0) (pe_int) (fun _ _ => rfl)) (pe_int) (nomark _))
 (pss_cons (ps_asg (pe_int) (pg_sub (pv 0) (pe_int) set_list))
 (pss_one (ps_asg (pv 2) (pg_sub (pv 0) (pe_int) set_list))))
 (pss_nil))
 (pss_one (ps_ret (pv 2))))))
 (pss_nil))
 (pss_cons (ps_asg (pe_op op_add (pe_ix ix_list (pv 0) (pe_int) (fun _ _ => rfl)) (pe_int)) (pg_sub (pv 0) (pe_int) set_list))
 (pss_cons (ps_set (i := 3) sc_draw.nd rfl (Or.inl rfl) (pe_op op_mod (pe_callTy call_int1 (by rfl) T.n_int b_int (pa_cons (pe_op op_add (pe_op op_add (pe_op op_add (pe_op op_mul (pe_ix ix_list (pv 0) (pe_int) (fun _ _ => rfl)) (pe_int)) (pe_op op_mul (pe_ix ix_list (pv 0) (pe_int) (fun _ _ => rfl)) (pe_int))) (pe_op op_mul (pe_ix ix_list (pv 0) (pe_int) (fun _ _ => rfl)) (pe_int))) (pe_int)) (pa_nil))) (pe_int)))
 (pss_cons (ps_set (i := 3) sc_draw.nd rfl (Or.inl rfl) (pe_op op_mod (pe_callTy call_int1 (by rfl) T.n_int b_int (pa_cons (pe_op op_add (pe_op op_add (pe_op op_mul (pv 3) (pv 3)) (pe_op op_mul (pe_ix ix_list (pv 0) (pe_int) (fun _ _ => rfl)) (pe_int))) (pe_ix ix_list (pv 0) (pe_int) (fun _ _ => rfl))) (pa_nil))) (pe_int)))
 (pss_cons (ps_set (i := 3) sc_draw.nd rfl (Or.inl rfl) (pe_op op_mod (pe_callTy call_int1 (by rfl) T.n_int b_int (pa_cons (pe_op op_add (pe_op op_mul (pv 3) (pv 3)) (pe_int)) (pa_nil))) (pe_int)))
 (pss_one (ps_ret (pe_op op_mod (pe_callTy call_int1 (by rfl) T.n_int b_int (pa_cons (pe_op op_fdiv (pv 3) (pe_int)) (pa_nil))) (pv 1)))))))), ?_⟩)
  · obtain ⟨a, ns, rfl, _⟩ := h; rfl
  obtain ⟨p, many, rfl, ⟨a, b, c, d, hp⟩, hm0, hm1, kk⟩ := h
  refine ⟨_, rfl, p, _, _, _, rfl, rfl, SqL.of hp, rfl, rfl, _, rfl, ?_⟩
  refine ite2 (fun _ => ?_) (fun _ => ?_)
  · refine ⟨_, rfl, p, _, _, _, rfl, rfl, SqL.of hp, rfl, .inl ⟨_, rfl, _, rfl, _, _, rfl, rfl, hm0, ?_⟩⟩
    refine ⟨_, rfl, p, _, _, _, rfl, rfl, SqL.of hp, rfl, .inl ⟨_, rfl, _, rfl, _, _, rfl, rfl, ⟨hm0, hm1⟩, _, rfl, p, _, _, _, rfl, rfl, hp, rfl, ?_⟩⟩
    refine ⟨_, rfl, p, _, _, _, rfl, rfl, SqL.of upd_same, rfl, rfl, _, rfl, ?_⟩
    refine ite2 (fun _ => ?_) (fun _ => ?_)
    · refine ⟨_, rfl, p, _, _, _, rfl, rfl, upd_same, rfl, ?_⟩
      refine ⟨_, rfl, _, rfl, p, _, _, _, rfl, rfl, upd_same, rfl, ?_⟩
      exact ⟨_, rfl, kk _ _ (Int.emod_nonneg _ (by omega)) (Int.emod_lt_of_pos _ hm0) (by rw [upd_upd, upd_upd]; exact Keep.refl.upd) (by rw [upd_upd, upd_upd]; exact IsPool.upd)⟩
    · exact ⟨_, rfl, kk _ _ (Int.emod_nonneg _ (by omega)) (Int.emod_lt_of_pos _ hm0) Keep.refl.upd IsPool.upd⟩
  · refine ⟨_, rfl, _, _, _, _, rfl, rfl, SqL.of hp, rfl, _, _, rfl, rfl, _, rfl, p, _, _, _, rfl, rfl, hp, rfl, ?_⟩
    refine ⟨_, rfl, _, _, _, _, rfl, rfl, SqL.of upd_same, rfl, _, _, rfl, rfl, .inr ⟨by decide, by decide⟩, _, rfl, _, _, _, _, rfl, rfl, SqL.of upd_same, rfl, _, _, rfl, rfl, .inr ⟨by decide, by decide⟩, _, _, rfl, rfl, _, rfl, _, _, _, _, rfl, rfl, SqL.of upd_same, rfl, _, _, rfl, rfl, .inr ⟨by decide, by decide⟩, _, _, rfl, rfl, _, _, rfl, rfl, .inl ⟨_, rfl, _, _, rfl, rfl, (by show (0:Int) < _; decide), ?_⟩⟩
    refine ⟨_, rfl, _, rfl, _, _, rfl, rfl, .inl ⟨Int.lt_of_lt_of_le (by decide) (Int.emod_nonneg _ (by decide)), Int.lt_trans (Int.emod_lt_of_pos _ (by decide)) (by decide)⟩, _, rfl, _, _, _, _, rfl, rfl, SqL.of upd_same, rfl, _, _, rfl, rfl, .inr ⟨by decide, by decide⟩, _, _, rfl, rfl, _, rfl, _, _, _, _, rfl, rfl, SqL.of upd_same, rfl, _, _, rfl, rfl, .inl ⟨_, rfl, _, _, rfl, rfl, (by show (0:Int) < _; decide), ?_⟩⟩
    refine ⟨_, rfl, _, rfl, _, _, rfl, rfl, .inl ⟨Int.lt_of_lt_of_le (by decide) (Int.emod_nonneg _ (by decide)), Int.lt_trans (Int.emod_lt_of_pos _ (by decide)) (by decide)⟩, _, _, rfl, rfl, .inl ⟨_, rfl, _, _, rfl, rfl, (by show (0:Int) < _; decide), ?_⟩⟩
    exact ⟨_, rfl, _, _, rfl, rfl, ⟨by decide, by decide⟩, .inl ⟨_, rfl, _, rfl, _, _, rfl, rfl, hm0, kk _ _ (Int.emod_nonneg _ (by omega)) (Int.emod_lt_of_pos _ hm0) Keep.refl.upd IsPool.upd⟩⟩
end
end LR

set_option Elab.async false
set_option maxRecDepth 100000
set_option linter.all false
set_option maxHeartbeats 4000000
namespace LR
open PySem PySem.Spec PyProof.Rows L2
section
variable {P : Program} {w : World} {K : PySem.W.Frag} {mg : Str → Option Value} {base : Heap} {ζ : Cs}
def spNumber : Sp := fun vs H Q _ => ∃ (x : V) (d : Dt), vs = [x] ∧ At H x d ∧ Q (.bl (isN d)) H
theorem ok_number (T : Txt P K mg ζ) : Cal P w K mg base 1 "_law_number" spNumber := by
  refine T.d_number.cal sc_number (fun vs H Q E h => ?_) (fun f cdv A outer s H vs Q E hr h => ⟨_, pss_one (ps_ret (pe_and (pe_callB call_isi (by rfl) T.n_isinstance b_isinstance (pa_cons (pv 0) (pa_cons (pe_bltn (v := .ty "int") (by rfl) T.n_int b_int rfl) (pa_nil)))) (pe_one (pe_not (pe_callB call_isi (by rfl) T.n_isinstance b_isinstance (pa_cons (pv 0) (pa_cons (pe_bltn (v := .ty "bool") (by rfl) T.n_bool b_bool rfl) (pa_nil)))))))), ?_⟩)
  · obtain ⟨x, d, rfl, _⟩ := h; rfl
  obtain ⟨x, d, rfl, a, kk⟩ := h
  refine ⟨_, rfl, _, _, _, _, _, rfl, .ty _, At.tyX a, kit_ty (kitI d), _, rfl, ite_b (fun c => ?_) (fun c => ?_)⟩
  · refine ⟨_, rfl, _, _, _, _, _, rfl, .ty _, At.tyX a, kit_ty (kitBo d), _, rfl, ?_⟩
    have e : (!isB d) = isN d := by cases d <;> first | rfl | cases c
    rw [e]; exact kk
  · have e : isN d = false := by cases d <;> first | rfl | cases c
    rw [← e]; exact kk
end
end LR

set_option Elab.async false
set_option maxRecDepth 100000
set_option linter.all false
set_option maxHeartbeats 4000000
namespace LR
open PySem PySem.Spec PyProof.Rows L2
section
variable {P : Program} {w : World} {K : PySem.W.Frag} {mg : Str → Option Value} {base : Heap} {ζ : Cs}
/-- the answer is the due one, in kind and value -/
def spSame (n : Nat) : Sp := fun vs H Q _ => ∃ (x y : V) (a d : Dt), vs = [x, y] ∧ At H x a ∧ At H y d ∧ dep d < n ∧ ∀ b : Bool, (b = true ↔ a = d) → Q (.bl b) H
theorem at_seq {H : Hp} {p : Addr} {xs : List V} {K : PySem.W.Frag} {i : Nat} {v : V} {Q : VK} (h : SqL K H p xs ∨ SqT K H p xs) (e : xs[i]? = some v) (q : Q v H) : rIx K (.ref p) (.int i) H Q := by
  rcases h with h | h
  · exact .inl ⟨p, xs, i, v, rfl, rfl, h, atI_nat e, q⟩
  · exact .inr (.inl ⟨p, xs, i, v, rfl, rfl, h, atI_nat e, q⟩)
theorem ok_same (T : Txt P K mg ζ) (n : Nat) : Cal P w K mg base (n + 2) "_law_same" (spSame n) := by
  have c_number : Cal P w K mg base 1 "_law_number" spNumber := ok_number T
  induction n with
  | zero =>
    refine T.d_same.cal sc_same (fun vs H Q E h => ?_) (fun f cdv A outer s H vs Q E hr h => ?_)
    · obtain ⟨x, y, a, d, rfl, _⟩ := h; rfl
    · obtain ⟨x, y, a, d, rfl, _, _, hn, _⟩ := h
      exact absurd hn (Nat.not_lt_zero _)
  | succ n ih =>
  have c_same := ih
  refine T.d_same.cal sc_same (fun vs H Q E h => ?_) (fun f cdv A outer s H vs Q E hr h => ⟨_, pss_cons (ps_if (PW.pt (pw_or (pt_val (pe_callB call_isi (by rfl) T.n_isinstance b_isinstance (pa_cons (pv 1) (pa_cons (pe_bltn (v := .ty "list") (by rfl) T.n_list b_list rfl) (pa_nil))))) (pw_or1 (pt_val (pe_callB call_isi (by rfl) T.n_isinstance b_isinstance (pa_cons (pv 1) (pa_cons (pe_bltn (v := .ty "tuple") (by rfl) T.n_tuple b_tuple rfl) (pa_nil))))))))
 (pss_cons (ps_if (PW.pt (pw_and (pt_val (pe_callB call_isi (by rfl) T.n_isinstance b_isinstance (pa_cons (pv 1) (pa_cons (pe_bltn (v := .ty "list") (by rfl) T.n_list b_list rfl) (pa_nil))))) (pw_and1 (pt_not (pt_val (pe_callB call_isi (by rfl) T.n_isinstance b_isinstance (pa_cons (pv 0) (pa_cons (pe_bltn (v := .ty "list") (by rfl) T.n_list b_list rfl) (pa_nil)))))))))
 (pss_one (ps_ret (pe_bl)))
 (pss_nil))
 (pss_cons (ps_if (PW.pt (pw_and (pt_val (pe_callB call_isi (by rfl) T.n_isinstance b_isinstance (pa_cons (pv 1) (pa_cons (pe_bltn (v := .ty "tuple") (by rfl) T.n_tuple b_tuple rfl) (pa_nil))))) (pw_and1 (pt_not (pt_val (pe_callB call_isi (by rfl) T.n_isinstance b_isinstance (pa_cons (pv 0) (pa_cons (pe_bltn (v := .ty "tuple") (by rfl) T.n_tuple b_tuple rfl) (pa_nil)))))))))
 (pss_one (ps_ret (pe_bl)))
 (pss_nil))
 (pss_cons (ps_if (pt_cmpR op_ne (pe_callB call_len_seq (by rfl) T.n_len b_len (pa_cons (pv 0) (pa_nil))) (pe_callB call_len_seq (by rfl) T.n_len b_len (pa_cons (pv 1) (pa_nil))) (nomark _))
 (pss_one (ps_ret (pe_bl)))
 (pss_nil))
 (pss_cons (ps_for PassesOwn.never rfl (pi_range1 rfl T.n_range (pa_cons (pe_callB call_len_seq (by rfl) T.n_len b_len (pa_cons (pv 1) (pa_nil))) (pa_nil))) (pg_name (i := 2) sc_same.nd rfl (Or.inl rfl))
 (pss_one (ps_if (pt_not (pt_val (pe_c c_same hr (by first | decide | omega) (by rfl) (pa_cons (pe_ix ix_seq (pv 0) (pv 2) (fun _ _ => rfl)) (pa_cons (pe_ix ix_seq (pv 1) (pv 2) (fun _ _ => rfl)) (pa_nil))))))
 (pss_one (ps_ret (pe_bl)))
 (pss_nil))))
 (pss_one (ps_ret (pe_bl)))))))
 (pss_nil))
 (pss_cons (ps_if (pt_cmpR op_isN (pv 1) (pe_non) (nomark _))
 (pss_one (ps_ret (pe_cmpR op_isN (pv 0) (pe_non) (nomark _))))
 (pss_nil))
 (pss_cons (ps_if (pt_val (pe_callB call_isi (by rfl) T.n_isinstance b_isinstance (pa_cons (pv 1) (pa_cons (pe_bltn (v := .ty "bool") (by rfl) T.n_bool b_bool rfl) (pa_nil)))))
 (pss_one (ps_ret (pe_and (pe_callB call_isi (by rfl) T.n_isinstance b_isinstance (pa_cons (pv 0) (pa_cons (pe_bltn (v := .ty "bool") (by rfl) T.n_bool b_bool rfl) (pa_nil)))) (pe_one (pe_cmpR op_eq (pv 0) (pv 1) (nomark _))))))
 (pss_nil))
 (pss_cons (ps_if (pt_val (pe_callB call_isi (by rfl) T.n_isinstance b_isinstance (pa_cons (pv 1) (pa_cons (pe_bltn (v := .ty "int") (by rfl) T.n_int b_int rfl) (pa_nil)))))
 (pss_one (ps_ret (pe_and (pe_c c_number hr (by first | decide | omega) (by rfl) (pa_cons (pv 0) (pa_nil))) (pe_one (pe_cmpR op_eq (pv 0) (pv 1) (nomark _))))))
 (pss_nil))
 (pss_one (ps_ret (pe_and (pe_callB call_isi (by rfl) T.n_isinstance b_isinstance (pa_cons (pv 0) (pa_cons (pe_bltn (v := .ty "str") (by rfl) T.n_str b_str rfl) (pa_nil)))) (pe_one (pe_cmpR op_eq (pv 0) (pv 1) (nomark _))))))))), ?_⟩)
  · obtain ⟨x, y, a, d, rfl, _⟩ := h; rfl
  obtain ⟨x, y, a, d, rfl, ha, hd, hn, kk⟩ := h
  cases hd with
  | non =>
    refine ⟨_, rfl, _, _, _, _, _, rfl, .ty _, At.tyX .non, kit_ty (kitL _), _, rfl, iteF ⟨_, rfl, _, _, _, _, _, rfl, .ty _, At.tyX .non, kit_ty (kitU _), _, rfl, iteF ?_⟩⟩
    refine ⟨_, rfl, rfl, _, rfl, iteT ⟨_, rfl, rfl, kk _ ?_⟩⟩
    cases ha <;> simp
  | bl b =>
    refine ⟨_, rfl, _, _, _, _, _, rfl, .ty _, At.tyX (.bl _), kit_ty (kitL _), _, rfl, iteF ⟨_, rfl, _, _, _, _, _, rfl, .ty _, At.tyX (.bl _), kit_ty (kitU _), _, rfl, iteF ?_⟩⟩
    refine ⟨_, rfl, rfl, _, rfl, iteF ⟨_, rfl, _, _, _, _, _, rfl, .ty _, At.tyX (.bl _), kit_ty (kitBo _), _, rfl, iteT ?_⟩⟩
    refine ⟨_, rfl, _, _, _, _, _, rfl, .ty _, At.tyX ha, kit_ty (kitBo _), _, rfl, ite_b (fun c => ?_) (fun c => ?_)⟩
    · cases ha with
      | bl b' => exact ⟨_, rfl, _, rfl, rfl, kk _ (by simp)⟩
      | _ => cases c
    · refine kk _ ⟨fun z => (by cases z), fun z => ?_⟩
      subst z; cases c
  | int b =>
    refine ⟨_, rfl, _, _, _, _, _, rfl, .ty _, At.tyX (.int _), kit_ty (kitL _), _, rfl, iteF ⟨_, rfl, _, _, _, _, _, rfl, .ty _, At.tyX (.int _), kit_ty (kitU _), _, rfl, iteF ?_⟩⟩
    refine ⟨_, rfl, rfl, _, rfl, iteF ⟨_, rfl, _, _, _, _, _, rfl, .ty _, At.tyX (.int _), kit_ty (kitBo _), _, rfl, iteF ⟨_, rfl, _, _, _, _, _, rfl, .ty _, At.tyX (.int _), kit_ty (kitI _), _, rfl, iteT ?_⟩⟩⟩
    refine ⟨_, rfl, x, a, rfl, ha, _, rfl, ite_b (fun c => ?_) (fun c => ?_)⟩
    · cases ha with
      | int b' => exact ⟨_, rfl, _, rfl, rfl, kk _ (by simp)⟩
      | _ => cases c
    · refine kk _ ⟨fun z => (by cases z), fun z => ?_⟩
      subst z; cases c
  | str b =>
    refine ⟨_, rfl, _, _, _, _, _, rfl, .ty _, At.tyX (.str _), kit_ty (kitL _), _, rfl, iteF ⟨_, rfl, _, _, _, _, _, rfl, .ty _, At.tyX (.str _), kit_ty (kitU _), _, rfl, iteF ?_⟩⟩
    refine ⟨_, rfl, rfl, _, rfl, iteF ⟨_, rfl, _, _, _, _, _, rfl, .ty _, At.tyX (.str _), kit_ty (kitBo _), _, rfl, iteF ⟨_, rfl, _, _, _, _, _, rfl, .ty _, At.tyX (.str _), kit_ty (kitI _), _, rfl, iteF ?_⟩⟩⟩
    refine ⟨_, rfl, _, _, _, _, _, rfl, .ty _, At.tyX ha, kit_ty (kitS _), _, rfl, ite_b (fun c => ?_) (fun c => ?_)⟩
    · cases ha with
      | str b' => exact ⟨_, rfl, _, rfl, rfl, kk _ (by simp)⟩
      | _ => cases c
    · refine kk _ ⟨fun z => (by cases z), fun z => ?_⟩
      subst z; cases c
  | lst hq hs hz =>
    rename_i q ys ds
    have hdn : deps ds < n := by rw [dep] at hn; omega
    refine ⟨_, rfl, _, _, _, _, _, rfl, .ty _, At.tyX (At.lst hq hs hz), kit_ty (kitL _), _, rfl, iteT ?_⟩
    refine ⟨_, rfl, _, _, _, _, _, rfl, .ty _, At.tyX (At.lst hq hs hz), kit_ty (kitL _), _, rfl, iteT ?_⟩
    cases ha with
    | lst hp as az =>
      rename_i p xs as'
      refine ⟨_, rfl, _, _, _, _, _, rfl, .ty _, At.tyX (At.lst hp as az), kit_ty (kitL _), _, rfl, iteF ?_⟩
      refine ⟨_, rfl, _, _, _, _, _, rfl, .ty _, At.tyX (At.lst hq hs hz), kit_ty (kitU _), _, rfl, iteF (iteF ?_)⟩
      have hl1 := as.length; have hl2 := hs.length
      refine ⟨_, rfl, p, xs, rfl, .inl (SqL.of hp), _, rfl, q, ys, rfl, .inl (SqL.of hq), rfl, _, rfl, ?_⟩
      refine ite_b (fun c => ?_) (fun c => ?_)
      · refine kk _ ⟨fun z => (by cases z), fun z => ?_⟩
        cases z
        rw [hl1, hl2] at c; simp at c
      have hl : as'.length = ds.length := by
        rw [hl1, hl2] at c; simp at c; omega
      refine ⟨_, rfl, q, ys, rfl, .inl (SqL.of hq), _, rfl, by omega, by omega, ?_⟩
      refine for_range (lo := 0) (n := ys.length) (fun i σ H' => H' = H ∧ (∃ z, σ = [some (.ref p), some (.ref q), z]) ∧ as'.take i = ds.take i) ⟨rfl, ⟨_, rfl⟩, rfl⟩ ?_ ?_
      · rintro i σ H' hi ⟨rfl, ⟨z, rfl⟩, ht⟩
        have hi1 : i < as'.length := by omega
        have hi2 : i < ds.length := by omega
        obtain ⟨x, ex, ax⟩ := as.getD (List.getElem?_eq_getElem hi1)
        obtain ⟨y, ey, ay⟩ := hs.getD (List.getElem?_eq_getElem hi2)
        refine ⟨_, rfl, _, rfl, .inl ⟨ p, xs, _, _, rfl, rfl, SqL.of hp, (by rw [Int.zero_add]; exact atI_nat ex), _, rfl, _, rfl, .inl ⟨ q, ys, _, _, rfl, rfl, SqL.of hq, (by rw [Int.zero_add]; exact atI_nat ey), ?_⟩⟩⟩
        refine ⟨x, y, _, _, rfl, ax, ay, Nat.lt_of_le_of_lt (deps_mem (List.getElem_mem hi2)) hdn, fun b hb => ⟨_, rfl, ite_b (fun c => ?_) (fun c => ?_)⟩⟩
        · refine kk _ ⟨fun z => (by cases z), fun z => ?_⟩
          injection z with z
          have hbt := hb.mpr (List.getElem_of_eq z hi1)
          rw [hbt] at c; cases c
        · refine ⟨rfl, ⟨_, rfl⟩, ?_⟩
          have hbt : b = true := by cases b with
            | true => rfl
            | false => cases c
          rw [List.take_succ, List.take_succ, ht, List.getElem?_eq_getElem hi1, List.getElem?_eq_getElem hi2, hb.mp hbt]
      · rintro σ H' ⟨rfl, ⟨z, rfl⟩, ht⟩
        refine kk true ⟨fun _ => ?_, fun _ => rfl⟩
        rw [hl2, List.take_length, ← hl, List.take_length] at ht
        rw [ht]
    | non => exact ⟨_, rfl, _, _, _, _, _, rfl, .ty _, At.tyX .non, kit_ty (kitL _), _, rfl, iteT (kk _ ⟨fun z => (by cases z), fun z => (by cases z)⟩)⟩
    | bl _ => exact ⟨_, rfl, _, _, _, _, _, rfl, .ty _, At.tyX (.bl _), kit_ty (kitL _), _, rfl, iteT (kk _ ⟨fun z => (by cases z), fun z => (by cases z)⟩)⟩
    | int _ => exact ⟨_, rfl, _, _, _, _, _, rfl, .ty _, At.tyX (.int _), kit_ty (kitL _), _, rfl, iteT (kk _ ⟨fun z => (by cases z), fun z => (by cases z)⟩)⟩
    | str _ => exact ⟨_, rfl, _, _, _, _, _, rfl, .ty _, At.tyX (.str _), kit_ty (kitL _), _, rfl, iteT (kk _ ⟨fun z => (by cases z), fun z => (by cases z)⟩)⟩
    | tup h5 a5 z5 => exact ⟨_, rfl, _, _, _, _, _, rfl, .ty _, At.tyX (.tup h5 a5 z5), kit_ty (kitL _), _, rfl, iteT (kk _ ⟨fun z => (by cases z), fun z => (by cases z)⟩)⟩
  | tup hq hs hz =>
    rename_i q ys ds
    have hdn : deps ds < n := by rw [dep] at hn; omega
    refine ⟨_, rfl, _, _, _, _, _, rfl, .ty _, At.tyX (At.tup hq hs hz), kit_ty (kitL _), _, rfl, iteF ⟨_, rfl, _, _, _, _, _, rfl, .ty _, At.tyX (At.tup hq hs hz), kit_ty (kitU _), _, rfl, iteT ?_⟩⟩
    refine ⟨_, rfl, _, _, _, _, _, rfl, .ty _, At.tyX (At.tup hq hs hz), kit_ty (kitL _), _, rfl, iteF (iteF ⟨_, rfl, _, _, _, _, _, rfl, .ty _, At.tyX (At.tup hq hs hz), kit_ty (kitU _), _, rfl, iteT ?_⟩)⟩
    cases ha with
    | tup hp as az =>
      rename_i p xs as'
      refine ⟨_, rfl, _, _, _, _, _, rfl, .ty _, At.tyX (At.tup hp as az), kit_ty (kitU _), _, rfl, iteF ?_⟩
      have hl1 := as.length; have hl2 := hs.length
      refine ⟨_, rfl, p, xs, rfl, .inr (SqT.of hp), _, rfl, q, ys, rfl, .inr (SqT.of hq), rfl, _, rfl, ?_⟩
      refine ite_b (fun c => ?_) (fun c => ?_)
      · refine kk _ ⟨fun z => (by cases z), fun z => ?_⟩
        cases z
        rw [hl1, hl2] at c; simp at c
      have hl : as'.length = ds.length := by
        rw [hl1, hl2] at c; simp at c; omega
      refine ⟨_, rfl, q, ys, rfl, .inr (SqT.of hq), _, rfl, by omega, by omega, ?_⟩
      refine for_range (lo := 0) (n := ys.length) (fun i σ H' => H' = H ∧ (∃ z, σ = [some (.ref p), some (.ref q), z]) ∧ as'.take i = ds.take i) ⟨rfl, ⟨_, rfl⟩, rfl⟩ ?_ ?_
      · rintro i σ H' hi ⟨rfl, ⟨z, rfl⟩, ht⟩
        have hi1 : i < as'.length := by omega
        have hi2 : i < ds.length := by omega
        obtain ⟨x, ex, ax⟩ := as.getD (List.getElem?_eq_getElem hi1)
        obtain ⟨y, ey, ay⟩ := hs.getD (List.getElem?_eq_getElem hi2)
        refine ⟨_, rfl, _, rfl, .inr (.inl ⟨ p, xs, _, _, rfl, rfl, SqT.of hp, (by rw [Int.zero_add]; exact atI_nat ex), _, rfl, _, rfl, .inr (.inl ⟨ q, ys, _, _, rfl, rfl, SqT.of hq, (by rw [Int.zero_add]; exact atI_nat ey), ?_⟩)⟩)⟩
        refine ⟨x, y, _, _, rfl, ax, ay, Nat.lt_of_le_of_lt (deps_mem (List.getElem_mem hi2)) hdn, fun b hb => ⟨_, rfl, ite_b (fun c => ?_) (fun c => ?_)⟩⟩
        · refine kk _ ⟨fun z => (by cases z), fun z => ?_⟩
          injection z with z
          have hbt := hb.mpr (List.getElem_of_eq z hi1)
          rw [hbt] at c; cases c
        · refine ⟨rfl, ⟨_, rfl⟩, ?_⟩
          have hbt : b = true := by cases b with
            | true => rfl
            | false => cases c
          rw [List.take_succ, List.take_succ, ht, List.getElem?_eq_getElem hi1, List.getElem?_eq_getElem hi2, hb.mp hbt]
      · rintro σ H' ⟨rfl, ⟨z, rfl⟩, ht⟩
        refine kk true ⟨fun _ => ?_, fun _ => rfl⟩
        rw [hl2, List.take_length, ← hl, List.take_length] at ht
        rw [ht]
    | non => exact ⟨_, rfl, _, _, _, _, _, rfl, .ty _, At.tyX .non, kit_ty (kitU _), _, rfl, iteT (kk _ ⟨fun z => (by cases z), fun z => (by cases z)⟩)⟩
    | bl _ => exact ⟨_, rfl, _, _, _, _, _, rfl, .ty _, At.tyX (.bl _), kit_ty (kitU _), _, rfl, iteT (kk _ ⟨fun z => (by cases z), fun z => (by cases z)⟩)⟩
    | int _ => exact ⟨_, rfl, _, _, _, _, _, rfl, .ty _, At.tyX (.int _), kit_ty (kitU _), _, rfl, iteT (kk _ ⟨fun z => (by cases z), fun z => (by cases z)⟩)⟩
    | str _ => exact ⟨_, rfl, _, _, _, _, _, rfl, .ty _, At.tyX (.str _), kit_ty (kitU _), _, rfl, iteT (kk _ ⟨fun z => (by cases z), fun z => (by cases z)⟩)⟩
    | lst h5 a5 z5 => exact ⟨_, rfl, _, _, _, _, _, rfl, .ty _, At.tyX (.lst h5 a5 z5), kit_ty (kitU _), _, rfl, iteT (kk _ ⟨fun z => (by cases z), fun z => (by cases z)⟩)⟩
end
end LR

set_option Elab.async false
set_option maxRecDepth 100000
set_option linter.all false
set_option maxHeartbeats 4000000
namespace LR
open PySem PySem.Spec PyProof.Rows L2
section
variable {P : Program} {w : World} {K : PySem.W.Frag} {mg : Str → Option Value} {base : Heap} {ζ : Cs}
def spHeight : Sp := fun vs H Q _ => ∃ h : Int, vs = [.int h] ∧ (h = 1 ∨ h = 2 ∨ h = 3) ∧ ∀ H', Same H H' → Q .non H'
theorem ok_height (T : Txt P K mg ζ) : Cal P w K mg base 1 "check_height" spHeight := by
  refine T.d_check_height.cal sc_check_height (fun vs H Q E h => ?_) (fun f cdv A outer s H vs Q E hr h => ⟨_, pss_one (ps_if (pt_cmpR op_notIn_seq (pv 0) (pe_tup (pa_cons (pe_int) (pa_cons (pe_int) (pa_cons (pe_int) (pa_nil))))) rfl)
 (pss_never)
 (pss_nil)), ?_⟩)
  · obtain ⟨h, rfl, _⟩ := h; rfl
  obtain ⟨h, rfl, hh, kk⟩ := h
  refine ⟨_, rfl, (by show 3 ≤ sizeLine; decide), fun t ht => ?_⟩
  refine ⟨t, _, rfl, .inr (SqT.of upd_same), rfl, rfl, _, rfl, ?_⟩
  rcases hh with rfl | rfl | rfl <;> exact iteF (kk _ (same_new ht))
end
end LR

set_option Elab.async false
set_option maxRecDepth 100000
set_option linter.all false
set_option maxHeartbeats 4000000
namespace LR
open PySem PySem.Spec PyProof.Rows L2
section
variable {P : Program} {w : World} {K : PySem.W.Frag} {mg : Str → Option Value} {base : Heap} {ζ : Cs}
def spRow (K : PySem.W.Frag) : Sp := fun vs H Q _ => ∃ (h : Int) (a : Addr) (ls : List Int) (most : Int), vs = [.int h, .ref a, .int most] ∧ SqL K H a (ls.map V.int) ∧ (ls.length : Int) ≤ most ∧ (∀ l ∈ ls, 1 ≤ l ∧ l ≤ h) ∧ ∀ H', Same H H' → Q .non H'
theorem ok_row (T : Txt P K mg ζ) : Cal P w K mg base 1 "check_row" (spRow K) := by
  refine T.d_check_row.cal sc_check_row (fun vs H Q E h => ?_) (fun f cdv A outer s H vs Q E hr h => ⟨_, pss_cons (ps_if (pt_cmpR op_gt (pe_callB call_len_seq (by rfl) T.n_len b_len (pa_cons (pv 1) (pa_nil))) (pv 2) (nomark _))
 (pss_never)
 (pss_nil))
 (pss_one (ps_for PassesOwn.never rfl (pi_enum (by rfl) T.n_enumerate (pa_cons (pv 1) (pa_nil))) (pg_tup rfl (pgs_cons (pg_name (i := 3) sc_check_row.nd rfl (Or.inl rfl)) (pgs_cons (pg_name (i := 4) sc_check_row.nd rfl (Or.inl rfl)) (pgs_nil))))
 (pss_one (ps_if (pt_not (pt_chain op_le op_le (pe_int) (pv 4) (pv 0) ))
 (pss_never)
 (pss_nil))))), ?_⟩)
  · obtain ⟨h, a, ls, most, rfl, _⟩ := h; rfl
  obtain ⟨h, a, ls, most, rfl, hS, hl, hb, kk⟩ := h
  refine ⟨_, rfl, a, _, rfl, .inl hS, _, rfl, _, _, rfl, rfl, _, rfl, ?_⟩
  refine ite2 (fun c => absurd (of_decide_eq_true c) (by rw [List.length_map]; omega)) (fun _ => ?_)
  refine ⟨_, rfl, a, _, rfl, hS, for_it walk_enum (fun i σ H' => Same H H' ∧ ∃ y z, σ = [some (.int h), some (.ref a), some (.int most), y, z]) ⟨Same.refl _, _, _, rfl⟩ (fun i σ H' _ h => h.1.seq hS) ?_ (fun σ H' h => ?_)⟩
  · rintro i x σ H1 H2 hi ⟨s1, y, z, rfl⟩ ⟨t, x, y, rfl, ht, rfl, ex, ey⟩
    cases ex
    obtain ⟨l, el, rfl⟩ := map_get ey
    obtain ⟨b1, b2⟩ := hb l (List.mem_of_getElem? el)
    refine ⟨t, _, rfl, SqT.of upd_same, rfl, _, _, rfl, _, _, rfl, rfl, ?_⟩
    refine ⟨_, rfl, _, _, rfl, rfl, _, rfl, ?_⟩
    refine ite2 (fun c => ?_) (fun c => absurd (decide_eq_true b1) c)
    refine ⟨_, rfl, _, _, rfl, rfl, _, rfl, ?_⟩
    refine ite2 (fun c => ?_) (fun _ => ⟨s1.new ht, _, _, rfl⟩)
    rw [decide_eq_true b2] at c; cases c
  · exact kk _ h.1
end
end LR

set_option Elab.async false
set_option maxRecDepth 100000
set_option linter.all false
set_option maxHeartbeats 4000000
namespace LR
open PySem PySem.Spec PyProof.Rows L2
section
variable {P : Program} {w : World} {K : PySem.W.Frag} {mg : Str → Option Value} {base : Heap} {ζ : Cs}
def spCounts (K : PySem.W.Frag) : Sp := fun vs H Q _ => ∃ (lv : Int) (a : Addr) (ls : List Int), vs = [.int lv, .ref a] ∧ SqL K H a (ls.map V.int) ∧ ls.length ≤ 1000 ∧ ∀ H' p, Same H H' → H p = none → H' p = some (.tup (cnL ls lv (ls.length + 1))) → Q (.ref p) H'
theorem ok_counts (T : Txt P K mg ζ) : Cal P w K mg base 1 "_counts_from" (spCounts K) := by
  refine T.d__counts_from.cal sc__counts_from (fun vs H Q E h => ?_) (fun f cdv A outer s H vs Q E hr h => ⟨_, pss_cons (ps_set (i := 2) sc__counts_from.nd rfl (Or.inl rfl) (pe_lst (pa_cons (pe_int) (pa_nil))))
 (pss_cons (ps_for PassesOwn.never rfl (pi_list (pv 1)) (pg_name (i := 3) sc__counts_from.nd rfl (Or.inl rfl))
 (pss_one (ps_expr (pe_bm PySem.F.plainAttrs_list PySem.F.slot_list_append PySem.F.type_list_append mt_append (pv 2) (pa_cons (pe_op op_add (pe_ix ix_list (pv 2) (pe_un un_neg (pe_int)) (fun _ _ => rfl)) (pe_ifExp (pt_cmpR op_ge (pv 3) (pv 0) (nomark _)) (pe_int) (pe_int))) (pa_nil))))))
 (pss_one (ps_ret (pe_callTy call_tuple_of (by rfl) T.n_tuple b_tuple (pa_cons (pv 2) (pa_nil)))))), ?_⟩)
  · obtain ⟨lv, a, ls, rfl, _⟩ := h; rfl
  obtain ⟨lv, a, ls, rfl, hS, hl, kk⟩ := h
  refine ⟨(by show 1 ≤ sizeLine; decide), fun d hd => ?_⟩
  refine ⟨_, rfl, a, rfl, ⟨_, (same_new hd).seq hS⟩, for_list (K := K) (a := a) (xs := ls.map V.int) (fun i σ H' => Same H H' ∧ H' d = some (.lst (cnL ls lv (i + 1))) ∧ ∃ z, σ = [some (.int lv), some (.ref a), some (.ref d), z]) ⟨same_new hd, upd_same, _, rfl⟩ (fun i σ H' _ h => h.1.seq hS) ?_ ?_⟩
  · rintro i x σ H1 hx ⟨s1, h1, z, rfl⟩
    obtain ⟨l, el, rfl⟩ := map_get hx
    have hi : i < ls.length := (List.getElem?_eq_some_iff.mp el).1
    refine ⟨_, rfl, .inl ⟨rfl, _, SqL.of h1⟩, _, rfl, _, rfl, _, _, _, _, rfl, rfl, SqL.of h1, (by rw [cnL_succ]; exact atI_last _ _), ?_⟩
    refine ⟨_, rfl, _, rfl, _, _, rfl, rfl, _, rfl, ?_⟩
    have fin : ∀ z1 : Int, cn ls lv (i + 1) = cn ls lv i + z1 → Same H (upd H1 d (.lst (cnL ls lv (i + 1) ++ [V.int (cn ls lv i + z1)]))) ∧ (upd H1 d (.lst (cnL ls lv (i + 1) ++ [V.int (cn ls lv i + z1)]))) d = some (.lst (cnL ls lv (i + 1 + 1))) := fun z1 e => by
      refine ⟨fun b o e1 => ?_, ?_⟩
      · rw [upd_ne (ne_of_none e1 hd)]; exact s1 _ _ e1
      · rw [upd_same, cnL_succ (n := i + 1), e]
    have e0 := cn_succ (lv := lv) el
    refine ite2 (fun c => ?_) (fun c => ?_)
    · have c := of_decide_eq_true c
      rw [if_pos c] at e0
      obtain ⟨f1, f2⟩ := fin 1 e0
      exact ⟨_, _, rfl, rfl, d, _, _, rfl, rfl, h1, by rw [cnL_length, sizeLine_eq]; omega, f1, f2, _, rfl⟩
    · have c : ¬ lv ≤ l := fun q => c (decide_eq_true q)
      rw [if_neg c] at e0
      obtain ⟨f1, f2⟩ := fin 0 e0
      exact ⟨_, _, rfl, rfl, d, _, _, rfl, rfl, h1, by rw [cnL_length, sizeLine_eq]; omega, f1, f2, _, rfl⟩
  · rintro σ H1 ⟨s1, h1, z, rfl⟩
    rw [List.length_map] at h1
    refine ⟨_, rfl, d, _, rfl, .inl ⟨SqL.of h1, fun t ht => ?_⟩⟩
    exact kk _ t (s1.new ht) (s1.free ht) upd_same
end
end LR

set_option Elab.async false
set_option maxRecDepth 100000
set_option linter.all false
set_option maxHeartbeats 4000000
namespace LR
open PySem PySem.Spec PyProof.Rows L2
section
variable {P : Program} {w : World} {K : PySem.W.Frag} {mg : Str → Option Value} {base : Heap} {ζ : Cs}
def spStep : Sp := fun vs H Q _ => ∃ (m u : Int), vs = [.int m, .int u] ∧ 0 ≤ u ∧ u ≤ m ∧ Q .non H
theorem ok_step (T : Txt P K mg ζ) : Cal P w K mg base 1 "check_step" spStep := by
  refine T.d_check_step.cal sc_check_step (fun vs H Q E h => ?_) (fun f cdv A outer s H vs Q E hr h => ⟨_, pss_one (ps_if (pt_not (pt_chain op_le op_le (pe_int) (pv 1) (pv 0) ))
 (pss_never)
 (pss_nil)), ?_⟩)
  · obtain ⟨m, u, rfl, _⟩ := h; rfl
  obtain ⟨m, u, rfl, u0, u1, kk⟩ := h
  refine ⟨_, rfl, _, _, rfl, rfl, _, rfl, ?_⟩
  refine ite2 (fun c => ?_) (fun c => absurd (decide_eq_true u0) c)
  refine ⟨_, rfl, _, _, rfl, rfl, _, rfl, ?_⟩
  refine ite2 (fun c => ?_) (fun _ => kk)
  rw [decide_eq_true u1] at c; cases c
end
end LR

set_option Elab.async false
set_option maxRecDepth 100000
set_option linter.all false
set_option maxHeartbeats 4000000
namespace LR
open PySem PySem.Spec PyProof.Rows L2
section
variable {P : Program} {w : World} {K : PySem.W.Frag} {mg : Str → Option Value} {base : Heap} {ζ : Cs}
def spRank : Sp := fun vs H Q _ => ∃ (h p : Int), vs = [.int h, .int p] ∧ 0 ≤ p ∧ p ≤ 2 * h ∧ Q .non H
theorem ok_rank (T : Txt P K mg ζ) : Cal P w K mg base 1 "check_rank" spRank := by
  refine T.d_check_rank.cal sc_check_rank (fun vs H Q E h => ?_) (fun f cdv A outer s H vs Q E hr h => ⟨_, pss_one (ps_if (pt_not (pt_chain op_le op_le (pe_int) (pv 1) (pe_op op_mul (pe_int) (pv 0)) ))
 (pss_never)
 (pss_nil)), ?_⟩)
  · obtain ⟨h, u, rfl, _⟩ := h; rfl
  obtain ⟨h, u, rfl, u0, u1, kk⟩ := h
  refine ⟨_, rfl, _, _, rfl, rfl, _, rfl, ?_⟩
  refine ite2 (fun c => ?_) (fun c => absurd (decide_eq_true u0) c)
  refine ⟨_, rfl, _, _, rfl, rfl, .inl ⟨by decide, by decide⟩, _, _, rfl, rfl, _, rfl, ?_⟩
  refine ite2 (fun c => ?_) (fun _ => kk)
  rw [decide_eq_true u1] at c; cases c
end
end LR

set_option Elab.async false
set_option maxRecDepth 100000
set_option linter.all false
set_option maxHeartbeats 4000000
namespace LR
open PySem PySem.Spec PyProof.Rows L2
section
variable {P : Program} {w : World} {K : PySem.W.Frag} {mg : Str → Option Value} {base : Heap} {ζ : Cs}
def spLets (C : Addr) : Sp := fun vs H Q _ => ∃ (x : Addr) (h : Int) (ls : List Int) (u p v : Int), vs = [.ref x, .int u, .int p, .int v] ∧ LadderAt C H x h ls ∧ (0 ≤ u ∧ u ≤ ls.length) ∧ (0 ≤ p ∧ p ≤ 2 * h) ∧ (0 ≤ v ∧ v ≤ ls.length) ∧ Q (.bl (alw ls u p v)) H
theorem ok_lets (T : Txt P K mg ζ) : Met P w K mg base 1 ζ.Ladder "_lets" (spLets ζ.Ladder) := by
  refine T.mt_Llets.met T.cl_Ladder sc_Llets (fun vs H Q E h => ?_) (fun f cdv A outer s H vs Q E hr h => ⟨_, pss_cons (ps_set (i := 4) sc_Llets.nd rfl (Or.inl rfl) (pe_ix ix_tup (pe_fld (pv 0) rfl) (pe_op op_fdiv (pv 2) (pe_int)) (fun _ _ => rfl)))
 (pss_cons (ps_if (pt_cmpR op_eq (pe_op op_mod (pv 2) (pe_int)) (pe_int) (nomark _))
 (pss_one (ps_ret (pe_cmpR op_ge (pe_ix ix_tup (pv 4) (pv 1) (fun _ _ => rfl)) (pe_ix ix_tup (pv 4) (pv 3) (fun _ _ => rfl)) (nomark _))))
 (pss_nil))
 (pss_one (ps_ret (pe_cmpR op_gt (pe_ix ix_tup (pv 4) (pv 1) (fun _ _ => rfl)) (pe_ix ix_tup (pv 4) (pv 3) (fun _ _ => rfl)) (nomark _))))), ?_⟩)
  · obtain ⟨x, h, ls, u, p, v, rfl, _⟩ := h; rfl
  obtain ⟨x, h, ls, u, p, v, rfl, ⟨dx, tl, tc, h1, h2, cs, h3, h4, h5⟩, ⟨u0, u1⟩, ⟨p0, p1⟩, ⟨v0, v1⟩, kk⟩ := h
  have hj : (p / 2).toNat < cs.length := by rw [h4]; omega
  have ej : ((p / 2).toNat : Int) = p / 2 := Int.toNat_of_nonneg (by omega)
  have hc := h5 _ _ (List.getElem?_eq_getElem hj)
  rw [ej] at hc
  refine ⟨_, rfl, x, ζ.Ladder, dx, _, _, rfl, h1, T.cl_Ladder, T.na_Ladder__counts, rfl, _, rfl, _, _, rfl, rfl, ⟨by decide, by decide⟩, tc, _, _, _, rfl, rfl, SqT.of h3, (by rw [← ej]; exact atI_nat (v := V.ref (cs[(p / 2).toNat])) (by rw [List.getElem?_map, List.getElem?_eq_getElem hj]; rfl)), ?_⟩
  have gu : atI (cnL ls (p / 2 + 1) (ls.length + 1)) u = some (V.int (cn ls (p / 2 + 1) u.toNat)) := by
    have := atI_nat (cnL_get (ls := ls) (lv := p / 2 + 1) (n := ls.length + 1) (i := u.toNat) (by omega))
    rwa [Int.toNat_of_nonneg u0] at this
  have gv : atI (cnL ls (p / 2 + 1) (ls.length + 1)) v = some (V.int (cn ls (p / 2 + 1) v.toNat)) := by
    have := atI_nat (cnL_get (ls := ls) (lv := p / 2 + 1) (n := ls.length + 1) (i := v.toNat) (by omega))
    rwa [Int.toNat_of_nonneg v0] at this
  refine ⟨_, rfl, _, _, rfl, rfl, (by show (0:Int) < _; decide), rfl, _, rfl, ?_⟩
  have em : decide (V.int (p % 2) = V.int 0) = decide (p % 2 = 0) := by simp
  refine ite2 (fun c => ?_) (fun c => ?_)
  · rw [em] at c
    have c := of_decide_eq_true c
    refine ⟨_, rfl, _, rfl, _, _, _, _, rfl, rfl, SqT.of hc, gu, _, rfl, _, rfl, _, _, _, _, rfl, rfl, SqT.of hc, gv, _, _, rfl, rfl, ?_⟩
    unfold alw at kk; rw [if_pos c] at kk; exact kk
  · rw [em] at c
    have c : ¬ p % 2 = 0 := fun q => c (decide_eq_true q)
    refine ⟨_, rfl, _, rfl, _, _, _, _, rfl, rfl, SqT.of hc, gu, _, rfl, _, rfl, _, _, _, _, rfl, rfl, SqT.of hc, gv, _, _, rfl, rfl, ?_⟩
    unfold alw at kk; rw [if_neg c] at kk; exact kk
end
end LR

set_option Elab.async false
set_option maxRecDepth 100000
set_option linter.all false
set_option maxHeartbeats 4000000
namespace LR
open PySem PySem.Spec PyProof.Rows L2
section
variable {P : Program} {w : World} {K : PySem.W.Frag} {mg : Str → Option Value} {base : Heap} {ζ : Cs}
theorem ok_allows (T : Txt P K mg ζ) : Met P w K mg base 2 ζ.Ladder "allows" (spLets ζ.Ladder) := by
  have c_check_step : Cal P w K mg base 1 "check_step" spStep := ok_step T
  have c_check_rank : Cal P w K mg base 1 "check_rank" spRank := ok_rank T
  have c_Llets : Met P w K mg base 1 ζ.Ladder "_lets" (spLets ζ.Ladder) := ok_lets T
  refine T.mt_L_allows.met T.cl_Ladder sc_L_allows (fun vs H Q E h => ?_) (fun f cdv A outer s H vs Q E hr h => ⟨_, pss_cons (ps_expr (pe_c c_check_step hr (by first | decide | omega) (by rfl) (pa_cons (pe_fld (pv 0) rfl) (pa_cons (pv 1) (pa_nil)))))
 (pss_cons (ps_expr (pe_c c_check_rank hr (by first | decide | omega) (by rfl) (pa_cons (pe_fld (pv 0) rfl) (pa_cons (pv 2) (pa_nil)))))
 (pss_cons (ps_expr (pe_c c_check_step hr (by first | decide | omega) (by rfl) (pa_cons (pe_fld (pv 0) rfl) (pa_cons (pv 3) (pa_nil)))))
 (pss_one (ps_ret (pe_mt c_Llets hr (by first | decide | omega) (pv 0) (pa_cons (pv 1) (pa_cons (pv 2) (pa_cons (pv 3) (pa_nil))))))))), ?_⟩)
  · obtain ⟨x, h, ls, u, p, v, rfl, _⟩ := h; rfl
  obtain ⟨x, h, ls, u, p, v, rfl, LA, ⟨u0, u1⟩, ⟨p0, p1⟩, ⟨v0, v1⟩, kk⟩ := h
  obtain ⟨dx, tl, tc, h1, _⟩ := id LA
  refine ⟨_, rfl, x, ζ.Ladder, dx, _, _, rfl, h1, T.cl_Ladder, T.na_Ladder_top, rfl, _, rfl, _, u, rfl, u0, u1, ?_⟩
  refine ⟨_, rfl, x, ζ.Ladder, dx, _, _, rfl, h1, T.cl_Ladder, T.na_Ladder_height, rfl, _, rfl, _, p, rfl, p0, p1, ?_⟩
  refine ⟨_, rfl, x, ζ.Ladder, dx, _, _, rfl, h1, T.cl_Ladder, T.na_Ladder_top, rfl, _, rfl, _, v, rfl, v0, v1, ?_⟩
  exact ⟨_, rfl, x, dx, _, rfl, h1, rfl, _, rfl, _, rfl, _, rfl, x, h, ls, u, p, v, rfl, LA, ⟨u0, u1⟩, ⟨p0, p1⟩, ⟨v0, v1⟩, kk⟩
end
end LR

set_option Elab.async false
set_option maxRecDepth 100000
set_option linter.all false
set_option maxHeartbeats 4000000
namespace LR
open PySem PySem.Spec PyProof.Rows L2
section
variable {P : Program} {w : World} {K : PySem.W.Frag} {mg : Str → Option Value} {base : Heap} {ζ : Cs}
def spInit (C : Addr) : Sp := fun vs H Q _ => ∃ (x a dx : Addr) (h : Int) (ls : List Int), vs = [.ref x, .int h, .ref a] ∧ H x = some (.ins C dx []) ∧ H a = some (.lst (ls.map V.int)) ∧ (h = 1 ∨ h = 2 ∨ h = 3) ∧ ls.length ≤ 24 ∧ (∀ l ∈ ls, 1 ≤ l ∧ l ≤ h) ∧ ∀ H', Keep x H H' → LadderAt C H' x h ls → Q .non H'
theorem ok_init (T : Txt P K mg ζ) : Mak P w K mg base 2 "Ladder" ζ.Ladder (spInit ζ.Ladder) := by
  have c_check_height : Cal P w K mg base 1 "check_height" spHeight := ok_height T
  have c_check_row : Cal P w K mg base 1 "check_row" (spRow K) := ok_row T
  have c__counts_from : Cal P w K mg base 1 "_counts_from" (spCounts K) := ok_counts T
  refine T.mk_Ladder.mak sc_L_init (fun vs H Q E h => ?_) (fun f cdv A outer s H vs Q E hr h => ⟨_, pss_cons (ps_expr (pe_c c_check_height hr (by first | decide | omega) (by rfl) (pa_cons (pv 1) (pa_nil))))
 (pss_cons (ps_expr (pe_c c_check_row hr (by first | decide | omega) (by rfl) (pa_cons (pv 1) (pa_cons (pv 2) (pa_cons (ClX.pe_cval (pe_glob (v := .ref ζ.Ladder) (by rfl) T.mg_Ladder rfl)) (pa_nil))))))
 (pss_cons (ps_fld (pv 0) (pv 1) rfl)
 (pss_cons (ps_fld (pv 0) (pe_callTy call_tuple_of (by rfl) T.n_tuple b_tuple (pa_cons (pv 2) (pa_nil))) rfl)
 (pss_cons (ps_fld (pv 0) (pe_callB call_len_seq (by rfl) T.n_len b_len (pa_cons (pv 2) (pa_nil))) rfl)
 (pss_one (ps_fld (pv 0) (pe_callTy call_tuple_of (by rfl) T.n_tuple b_tuple (pa_cons (pe_lc (own := [("level", 3)]) (g := gName 3) (tt := tYes)  rfl sc_L_init.nd (pi_range2 rfl T.n_range (pa_cons (pe_int) (pa_cons (pe_op op_add (pv 1) (pe_int)) (pa_nil)))) (blkOk_by (N := N_L_init) (sc := defScope s_L_init) (by decide +kernel)) (fun _ _ _ _ _ => pg_name (i := 3) sc_L_init.nd rfl (Or.inl rfl)) (fun _ _ _ _ _ => pts_nil) (fun _ _ _ _ _ => pe_c c__counts_from hr (by first | decide | omega) (by rfl) (pa_cons (pv 3) (pa_cons (pv 2) (pa_nil))))) (pa_nil))) rfl)))))), ?_⟩)
  · obtain ⟨x, a, dx, h, ls, rfl, _⟩ := h; rfl
  obtain ⟨x, a, dx, h, ls, rfl, hx, ha, hh, hl, hb, kk⟩ := h
  have nax : a ≠ x := ne_of ha hx (by intro z; cases z)
  obtain ⟨mc, u, cr, cv⟩ := T.cv_Ladder_MOST_LEVELS
  refine ⟨_, rfl, h, rfl, hh, fun H1 s1 => ?_⟩
  refine ⟨_, rfl, _, rfl, ζ.Ladder, mc, _, u, rfl, cr, cv, h, a, ls, 24, rfl, SqL.of (s1 _ _ ha), by omega, hb, fun H2 s2 => ?_⟩
  have k2 : Keep x H H2 := (s1.trans s2).keep
  refine ⟨_, rfl, _, rfl, x, ζ.Ladder, dx, _, rfl, s2 _ _ (s1 _ _ hx), T.cl_Ladder, T.na_Ladder_height, (by show 0 < 1000; decide), ?_⟩
  have k3 : Keep x H (upd H2 x (.ins ζ.Ladder dx (putF "height" (V.int h) []))) := k2.upd
  refine ⟨_, rfl, a, _, rfl, .inl ⟨SqL.of (k3 _ nax _ ha), fun tl htl => ?_⟩⟩
  have nxt : x ≠ tl := fun q => by rw [← q, upd_same] at htl; cases htl
  refine ⟨_, rfl, x, ζ.Ladder, dx, _, rfl, (upd_ne nxt).trans upd_same, T.cl_Ladder, T.na_Ladder_levels, (by show 1 < 1000; decide), ?_⟩
  have k4 := (k3.new htl (o := .tup (ls.map V.int))).upd (o := .ins ζ.Ladder dx (putF "levels" (V.ref tl) (putF "height" (V.int h) [])))
  refine ⟨_, rfl, a, _, rfl, .inl (SqL.of (k4 _ nax _ ha)), _, rfl, x, ζ.Ladder, dx, _, rfl, upd_same, T.cl_Ladder, T.na_Ladder_top, (by show 2 < 1000; decide), ?_⟩
  rw [upd_upd]
  have k5 := (k3.new htl (o := .tup (ls.map V.int))).upd (o := .ins ζ.Ladder dx (putF "top" (V.int ((ls.map V.int).length : Int)) (putF "levels" (V.ref tl) (putF "height" (V.int h) []))))
  generalize hH5 : upd (upd (upd H2 x (.ins ζ.Ladder dx (putF "height" (V.int h) []))) tl (.tup (ls.map V.int))) x (.ins ζ.Ladder dx (putF "top" (V.int ((ls.map V.int).length : Int)) (putF "levels" (V.ref tl) (putF "height" (V.int h) [])))) = H5 at k5 ⊢
  have hx5 : H5 x = some (.ins ζ.Ladder dx (putF "top" (V.int ((ls.map V.int).length : Int)) (putF "levels" (V.ref tl) (putF "height" (V.int h) [])))) := by rw [← hH5, upd_same]
  have ht5 : H5 tl = some (.tup (ls.map V.int)) := by rw [← hH5, upd_ne nxt.symm, upd_same]
  refine ⟨_, rfl, _, _, rfl, rfl, 1, _, rfl, ⟨by decide, by decide, by omega, by omega⟩, fun D hD => ?_⟩
  have nDx : D ≠ x := fun q => by rw [q, hx5] at hD; cases hD
  refine lc_range (lo := 1) (n := (h + 2 - 1).toNat) (fun i H' => Keep x H H' ∧ H' x = H5 x ∧ H' tl = H5 tl ∧ ∃ cs : List Addr, H' D = some (.lst (cs.map V.ref)) ∧ cs.length = i ∧ ∀ (j : Nat) (b : Addr), cs[j]? = some b → H' b = some (.tup (cnL ls (j + 1) (ls.length + 1)))) ?_ ?_ ?_
  · exact ⟨k5.new hD, upd_ne nDx.symm, upd_ne (ne_of_none ht5 hD), [], upd_same, rfl, fun j b e => by simp at e⟩
  · rintro i H6 hi ⟨k6, e1, e2, cs, h6, hc, hj⟩
    refine ⟨rfl, lc_yes (iteT ?_)⟩
    refine ⟨_, rfl, _, rfl, _, a, ls, rfl, SqL.of (k6 _ nax _ ha), by omega, fun H7 p s7 hp h7 => ?_⟩
    have nD : D ≠ p := ne_of_none h6 hp
    refine ⟨_, s7 _ _ h6, (by rw [List.length_map, hc, sizeLine_eq]; omega), ?_, ?_, ?_, cs ++ [p], ?_, by simp [hc], ?_⟩
    · intro b nb o e
      have := s7 _ _ (k6 b nb o e)
      rw [upd_ne (fun q => ?_)]
      · exact this
      · have hn : H D = none := by
          cases q2 : H D with
          | none => rfl
          | some o2 =>
            have := k5 D nDx o2 q2
            rw [hD] at this; cases this
        rw [q, hn] at e; cases e
    · rw [upd_ne nDx.symm, s7 x _ (e1.trans hx5), hx5]
    · rw [upd_ne (ne_of_none ht5 hD), s7 tl _ (e2.trans ht5), ht5]
    · rw [upd_same, List.map_append]; rfl
    · intro j b e
      rw [List.getElem?_append] at e
      split at e
      · rename_i hj2
        have h8 := s7 _ _ (hj j b e)
        rw [upd_ne (fun q => ?_)]
        · exact h8
        · rw [q, s7 _ _ h6] at h8; cases h8
      · rename_i hj2
        have ej : j = i := by
          have := (List.getElem?_eq_some_iff.mp e).1
          simp at this; omega
        subst ej
        rw [hc, Nat.sub_self] at e
        simp at e
        subst e
        rw [upd_ne nD.symm, h7, Int.add_comm]
  · rintro H6 ⟨k6, e1, e2, cs, h6, hc, hj⟩
    refine ⟨D, _, rfl, .inl ⟨SqL.of h6, fun tc htc => ?_⟩⟩
    have hx6 := e1.trans hx5
    have ht6 := e2.trans ht5
    have nx : x ≠ tc := ne_of_none hx6 htc
    refine ⟨_, rfl, x, ζ.Ladder, dx, _, rfl, (upd_ne nx).trans hx6, T.cl_Ladder, T.na_Ladder__counts, (by show 3 < 1000; decide), ?_⟩
    refine kk _ ((k6.new htc).upd) ⟨dx, tl, tc, ?_, ?_, cs, ?_, by rw [hc]; omega, fun j b e => ?_⟩
    · rw [upd_same, List.length_map]; rfl
    · rw [upd_ne nxt.symm, upd_ne (ne_of_none ht6 htc), ht6]
    · rw [upd_ne nx.symm, upd_same]
    · have h9 := hj j b e
      rw [upd_ne (ne_of h9 hx6 (by intro z; cases z)), upd_ne (ne_of_none h9 htc), h9]
end
end LR

set_option Elab.async false
set_option maxRecDepth 100000
set_option linter.all false
set_option maxHeartbeats 4000000
namespace LR
open PySem PySem.Spec PyProof.Rows L2
section
variable {P : Program} {w : World} {K : PySem.W.Frag} {mg : Str → Option Value} {base : Heap} {ζ : Cs}
def spLevels : Sp := fun vs H Q _ => ∃ (p : Addr) (h lim : Int), vs = [.ref p, .int h, .int lim] ∧ IsPool H p ∧ (1 ≤ h ∧ h ≤ 1000) ∧ (0 ≤ lim ∧ lim ≤ 1000) ∧
  ∀ (H' : Hp) (D : Addr) (ls : List Int), Keep p H H' → IsPool H' p → H D = none → H' D = some (.lst (ls.map V.int)) → (ls.length : Int) ≤ lim → (∀ l ∈ ls, 1 ≤ l ∧ l ≤ h) → Q (.ref D) H'
theorem ok_levels (T : Txt P K mg ζ) : Cal P w K mg base 2 "_law_levels" spLevels := by
  have c_draw : Cal P w K mg base 1 "_law_draw" spDraw := ok_draw T
  refine T.d_levels.cal sc_levels (fun vs H Q E h => ?_) (fun f cdv A outer s H vs Q E hr h => ⟨_, pss_cons (ps_set (i := 3) sc_levels.nd rfl (Or.inl rfl) (pe_c c_draw hr (by first | decide | omega) (by rfl) (pa_cons (pv 0) (pa_cons (pe_op op_add (pv 2) (pe_int)) (pa_nil)))))
 (pss_one (ps_ret (pe_lc (own := [("index", 4)]) (g := gName 4) (tt := tYes)  rfl sc_levels.nd (pi_range1 rfl T.n_range (pa_cons (pv 3) (pa_nil))) (blkOk_by (N := N_levels) (sc := defScope s_levels) (by decide +kernel)) (fun _ _ _ _ _ => pg_name (i := 4) sc_levels.nd rfl (Or.inl rfl)) (fun _ _ _ _ _ => pts_nil) (fun _ _ _ _ _ => pe_op op_add (pe_int) (pe_c c_draw hr (by first | decide | omega) (by rfl) (pa_cons (pv 0) (pa_cons (pv 1) (pa_nil)))))))), ?_⟩)
  · obtain ⟨p, h, lim, rfl, _⟩ := h; rfl
  obtain ⟨p, h, lim, rfl, hp, ⟨h0, h1⟩, ⟨l0, l1⟩, kk⟩ := h
  refine ⟨_, rfl, _, rfl, _, _, rfl, rfl, p, _, rfl, hp, by omega, by omega, fun n H1 n0 n1 k1 p1 => ?_⟩
  refine ⟨_, rfl, _, rfl, by omega, by omega, fun D hD => ?_⟩
  have nD := p1.free hD
  have hD0 := k1.free nD hD
  refine lc_range (lo := 0) (n := n.toNat) (fun i H' => Keep p H H' ∧ IsPool H' p ∧ ∃ ls : List Int, H' D = some (.lst (ls.map V.int)) ∧ ls.length = i ∧ ∀ l ∈ ls, 1 ≤ l ∧ l ≤ h) ?_ ?_ ?_
  · exact ⟨k1.new hD, p1.same (same_new hD), [], upd_same, rfl, fun l z => by cases z⟩
  · rintro i H2 hi ⟨k2, p2, ls, h2, hl, hb⟩
    refine ⟨rfl, lc_yes (iteT ?_)⟩
    refine ⟨_, rfl, _, rfl, p, h, rfl, p2, by omega, by omega, fun v H3 v0 v1 k3 p3 => ?_⟩
    have h3 := k3 _ nD _ h2
    refine ⟨_, _, rfl, rfl, _, h3, (by rw [List.length_map, hl, sizeLine_eq]; omega), ?_, ?_, ls ++ [1 + v], ?_, by simp [hl], ?_⟩
    · intro b nb o e
      rw [upd_ne (ne_of_none e hD0)]
      exact k3 b nb o (k2 b nb o e)
    · obtain ⟨x, y, z, t, p3⟩ := p3
      exact ⟨x, y, z, t, by rw [upd_ne nD.symm, p3]⟩
    · rw [upd_same, List.map_append]; rfl
    · intro l hl
      rcases List.mem_append.mp hl with q | q
      · exact hb l q
      · have : l = 1 + v := by simpa using q
        omega
  · rintro H2 ⟨k2, p2, ls, h2, hl, hb⟩
    exact kk H2 D ls k2 p2 hD0 h2 (by omega) hb
end
end LR

set_option Elab.async false
set_option maxRecDepth 100000
set_option linter.all false
set_option maxHeartbeats 4000000
namespace LR
open PySem PySem.Spec PyProof.Rows L2
section
variable {P : Program} {w : World} {K : PySem.W.Frag} {mg : Str → Option Value} {base : Heap} {ζ : Cs}
def spGap (K : PySem.W.Frag) : Sp := fun vs H Q _ => ∃ (a : Addr) (ls : List Int) (u v : Int), vs = [.ref a, .int u, .int v] ∧ SqL K H a (ls.map V.int) ∧ (0 ≤ u ∧ u ≤ ls.length) ∧ (0 ≤ v ∧ v ≤ ls.length) ∧ ls.length ≤ 1000 ∧ ∀ g, IsGap ls (min u.toNat v.toNat) (max u.toNat v.toNat) g → Q (.int g) H
theorem ok_gap (T : Txt P K mg ζ) : Cal P w K mg base 1 "_law_gap" (spGap K) := by
  refine T.d_gap.cal sc_gap (fun vs H Q E h => ?_) (fun f cdv A outer s H vs Q E hr h => ⟨_, pss_cons (ps_set (i := 3) sc_gap.nd rfl (Or.inl rfl) (pe_int))
 (pss_cons (ps_for PassesOwn.never rfl (pi_range2 rfl T.n_range (pa_cons (pe_callB (call_min2 rfl) (by rfl) T.n_min b_min (pa_cons (pv 1) (pa_cons (pv 2) (pa_nil)))) (pa_cons (pe_callB (call_max2 rfl) (by rfl) T.n_max b_max (pa_cons (pv 1) (pa_cons (pv 2) (pa_nil)))) (pa_nil)))) (pg_name (i := 4) sc_gap.nd rfl (Or.inl rfl))
 (pss_one (ps_set (i := 3) sc_gap.nd rfl (Or.inl rfl) (pe_callB (call_max2 rfl) (by rfl) T.n_max b_max (pa_cons (pv 3) (pa_cons (pe_ix ix_list (pv 0) (pv 4) (fun _ _ => rfl)) (pa_nil)))))))
 (pss_one (ps_ret (pv 3)))), ?_⟩)
  · obtain ⟨a, ls, u, v, rfl, _⟩ := h; rfl
  obtain ⟨a, ls, u, v, rfl, hS, ⟨u0, u1⟩, ⟨v0, v1⟩, hl, kk⟩ := h
  have em : (if v < u then v else u) = ((min u.toNat v.toNat : Nat) : Int) := by split <;> omega
  have eM : (if v > u then v else u) = ((max u.toNat v.toNat : Nat) : Int) := by split <;> omega
  refine ⟨_, rfl, _, rfl, _, _, rfl, _, rfl, _, rfl, _, _, rfl, _, _, rfl, ⟨by rw [em]; omega, by rw [em]; omega, by rw [eM]; omega, by rw [eM]; omega⟩, ?_⟩
  rw [em, eM]
  generalize hlo : min u.toNat v.toNat = lo at kk ⊢
  generalize hhi : max u.toNat v.toNat = hi at kk ⊢
  have en : ((hi : Int) - (lo : Int)).toNat = hi - lo := by omega
  rw [en]
  refine for_range (lo := (lo : Int)) (n := hi - lo) (fun i σ H' => H' = H ∧ ∃ g z, σ = [some (.ref a), some (.int u), some (.int v), some (.int g), z] ∧ IsGap ls lo (lo + i) g) ⟨rfl, 0, _, rfl, Int.le_refl _, fun m z a b => by omega, .inl rfl⟩ ?_ ?_
  · rintro i σ H' hi2 ⟨rfl, g, z, rfl, g0, g1, g2⟩
    have hlt : lo + i < ls.length := by omega
    have hget := List.getElem?_eq_getElem hlt
    refine ⟨_, rfl, _, rfl, _, rfl, a, _, _, _, rfl, rfl, hS, atI_nat (j := lo + i) (get_map hget), _, _, rfl, rfl, _, _, rfl, ?_⟩
    refine ⟨?_, ?_, ?_⟩
    · split <;> omega
    · intro m z a b e
      by_cases q : m < lo + i
      · have := g1 m z a q e
        split <;> omega
      · have : m = lo + i := by omega
        subst this
        rw [hget] at e; cases e
        split <;> omega
    · by_cases q : ls[lo + i] > g
      · rw [if_pos q]
        exact .inr ⟨lo + i, by omega, by omega, hget⟩
      · rw [if_neg q]
        rcases g2 with e | ⟨m, a, b, e⟩
        · exact .inl e
        · exact .inr ⟨m, a, by omega, e⟩
  · rintro σ H' ⟨rfl, g, z, rfl, hg⟩
    have : lo + (hi - lo) = hi := by omega
    rw [this] at hg
    exact ⟨_, rfl, kk g hg⟩
end
end LR

set_option Elab.async false
set_option maxRecDepth 100000
set_option linter.all false
set_option maxHeartbeats 4000000
namespace LR
open PySem PySem.Spec PyProof.Rows L2
section
variable {P : Program} {w : World} {K : PySem.W.Frag} {mg : Str → Option Value} {base : Heap} {ζ : Cs}
def spLAllows (K : PySem.W.Frag) : Sp := fun vs H Q _ => ∃ (a : Addr) (ls : List Int) (u p v : Int), vs = [.ref a, .int u, .int p, .int v] ∧ SqL K H a (ls.map V.int) ∧ (0 ≤ u ∧ u ≤ ls.length) ∧ 0 ≤ p ∧ (0 ≤ v ∧ v ≤ ls.length) ∧ ls.length ≤ 1000 ∧ Q (.bl (alw ls u p v)) H
theorem ok_lallows (T : Txt P K mg ζ) : Cal P w K mg base 2 "_law_allows" (spLAllows K) := by
  have c_gap : Cal P w K mg base 1 "_law_gap" (spGap K) := ok_gap T
  refine T.d_allows.cal sc_allows (fun vs H Q E h => ?_) (fun f cdv A outer s H vs Q E hr h => ⟨_, pss_cons (ps_set (i := 4) sc_allows.nd rfl (Or.inl rfl) (pe_c c_gap hr (by first | decide | omega) (by rfl) (pa_cons (pv 0) (pa_cons (pv 1) (pa_cons (pv 3) (pa_nil))))))
 (pss_cons (ps_if (pt_cmpR op_eq (pe_op op_mod (pe_callTy call_int1 (by rfl) T.n_int b_int (pa_cons (pv 2) (pa_nil))) (pe_int)) (pe_int) (nomark _))
 (pss_one (ps_ret (pe_or (pe_cmpR op_ge (pv 1) (pv 3) (nomark _)) (pe_one (pe_cmpR op_le (pe_op op_mul (pe_int) (pv 4)) (pv 2) (nomark _))))))
 (pss_nil))
 (pss_one (ps_ret (pe_and (pe_cmpR op_gt (pv 1) (pv 3) (nomark _)) (pe_one (pe_cmpR op_gt (pe_op op_mul (pe_int) (pv 4)) (pv 2) (nomark _))))))), ?_⟩)
  · obtain ⟨a, ls, u, p, v, rfl, _⟩ := h; rfl
  obtain ⟨a, ls, u, p, v, rfl, hS, hu, p0, hv, hl, kk⟩ := h
  refine ⟨_, rfl, _, rfl, _, rfl, a, ls, u, v, rfl, hS, hu, hv, hl, fun g hg => ?_⟩
  rw [alw_gap hu.1 hv.1 p0 hg] at kk
  refine ⟨_, rfl, .inl ⟨p, rfl, _, _, rfl, rfl, (by show (0:Int) < _; decide), rfl, _, rfl, ?_⟩⟩
  have em : decide (V.int (p % 2) = V.int 0) = decide (p % 2 = 0) := by simp
  rw [em]
  refine ite2 (fun c => ?_) (fun c => ?_)
  · rw [if_pos (of_decide_eq_true c)] at kk
    refine ⟨_, rfl, _, rfl, _, _, rfl, rfl, _, rfl, ite_b (fun c2 => ?_) (fun c2 => ?_)⟩
    · rw [c2] at kk; exact kk
    · rw [c2] at kk
      exact ⟨_, rfl, _, _, rfl, rfl, .inl ⟨by decide, by decide⟩, _, rfl, _, _, rfl, rfl, kk⟩
  · rw [if_neg (fun q => c (decide_eq_true q))] at kk
    refine ⟨_, rfl, _, rfl, _, _, rfl, rfl, _, rfl, ite_b (fun c2 => ?_) (fun c2 => ?_)⟩
    · rw [c2] at kk
      exact ⟨_, rfl, _, _, rfl, rfl, .inl ⟨by decide, by decide⟩, _, rfl, _, _, rfl, rfl, kk⟩
    · rw [c2] at kk; exact kk
end
end LR

set_option Elab.async false
set_option maxRecDepth 100000
set_option linter.all false
set_option maxHeartbeats 4000000
namespace LR
open PySem PySem.Spec PyProof.Rows L2
section
variable {P : Program} {w : World} {K : PySem.W.Frag} {mg : Str → Option Value} {base : Heap} {ζ : Cs}
theorem at_last {pl : List Int} {u : Int} : atI ((pl ++ [u]).map V.int) (((((pl ++ [u]).map V.int).length : Nat) : Int) - 1) = some (.int u) := by
  have e : (((((pl ++ [u]).map V.int).length : Nat) : Int) - 1) = ((pl.length : Nat) : Int) := by simp
  rw [e]
  exact atI_nat (get_map (by rw [List.getElem?_append_right (Nat.le_refl _)]; simp))
def spWalk (C : Addr) : Sp := fun vs H Q _ => ∃ (p x a : Addr) (h : Int) (ls : List Int), vs = [.ref p, .ref x, .ref a, .int h] ∧ IsPool H p ∧ LadderAt C H x h ls ∧ H a = some (.lst (ls.map V.int)) ∧ a ≠ p ∧ (1 ≤ h ∧ h ≤ 3) ∧ ls.length ≤ 24 ∧
  ∀ (H' : Hp) (W pa ra : Addr) (pl rk : List Int), Keep p H H' → H' W = some (.lst [.ref pa, .ref ra]) → H' pa = some (.lst (pl.map V.int)) → H' ra = some (.lst (rk.map V.int)) → rk.length ≤ 14 → Path ls h pl rk → Q (.ref W) H'
theorem ok_walk (T : Txt P K mg ζ) : Cal P w K mg base 4 "_law_walk" (spWalk ζ.Ladder) := by
  have c_draw : Cal P w K mg base 1 "_law_draw" spDraw := ok_draw T
  have c_allows : Cal P w K mg base 2 "_law_allows" (spLAllows K) := ok_lallows T
  have c_same : Cal P w K mg base 3 "_law_same" (spSame 1) := ok_same T 1
  have c_L_allows : Met P w K mg base 2 ζ.Ladder "allows" (spLets ζ.Ladder) := ok_allows T
  refine T.d_walk.cal sc_walk (fun vs H Q E h => ?_) (fun f cdv A outer s H vs Q E hr h => ⟨_, pss_cons (ps_set (i := 4) sc_walk.nd rfl (Or.inl rfl) (pe_callB call_len_seq (by rfl) T.n_len b_len (pa_cons (pv 2) (pa_nil))))
 (pss_cons (ps_set (i := 5) sc_walk.nd rfl (Or.inl rfl) (pe_lst (pa_cons (pe_c c_draw hr (by first | decide | omega) (by rfl) (pa_cons (pv 0) (pa_cons (pe_op op_add (pv 4) (pe_int)) (pa_nil)))) (pa_nil))))
 (pss_cons (ps_set (i := 6) sc_walk.nd rfl (Or.inl rfl) (pe_lst (pa_nil)))
 (pss_cons (ps_for PassesOwn.never rfl (pi_range1 rfl T.n_range (pa_cons (pe_c c_draw hr (by first | decide | omega) (by rfl) (pa_cons (pv 0) (pa_cons (pe_int) (pa_nil)))) (pa_nil))) (pg_name (i := 7) sc_walk.nd rfl (Or.inl rfl))
 (pss_cons (ps_set (i := 8) sc_walk.nd rfl (Or.inl rfl) (pe_ix ix_list (pv 5) (pe_op op_sub (pe_callB call_len_seq (by rfl) T.n_len b_len (pa_cons (pv 5) (pa_nil))) (pe_int)) (fun _ _ => rfl)))
 (pss_cons (ps_set (i := 9) sc_walk.nd rfl (Or.inl rfl) (pe_c c_draw hr (by first | decide | omega) (by rfl) (pa_cons (pv 0) (pa_cons (pe_op op_add (pe_op op_mul (pe_int) (pv 3)) (pe_int)) (pa_nil)))))
 (pss_cons (ps_set (i := 10) sc_walk.nd rfl (Or.inl rfl) (pe_c c_draw hr (by first | decide | omega) (by rfl) (pa_cons (pv 0) (pa_cons (pe_int) (pa_nil)))))
 (pss_cons (ps_set (i := 11) sc_walk.nd rfl (Or.inl rfl) (pe_c c_draw hr (by first | decide | omega) (by rfl) (pa_cons (pv 0) (pa_cons (pe_op op_add (pv 4) (pe_int)) (pa_nil)))))
 (pss_cut (ps_if (pt_cmpR op_eq (pv 10) (pe_int) (nomark _))
 (pss_one (ps_set (i := 11) sc_walk.nd rfl (Or.inl rfl) (pe_callB (call_max2 rfl) (by rfl) T.n_max b_max (pa_cons (pe_int) (pa_cons (pe_op op_sub (pe_op op_sub (pv 8) (pe_int)) (pe_op op_mod (pe_callTy call_int1 (by rfl) T.n_int b_int (pa_cons (pv 11) (pa_nil))) (pe_int))) (pa_nil))))))
 (pss_nil))
 (pss_cut (ps_if (pt_cmpR op_eq (pv 10) (pe_int) (nomark _))
 (pss_one (ps_set (i := 11) sc_walk.nd rfl (Or.inl rfl) (pe_callB (call_min2 rfl) (by rfl) T.n_min b_min (pa_cons (pv 4) (pa_cons (pe_op op_add (pv 8) (pe_int)) (pa_nil))))))
 (pss_nil))
 (pss_one (ps_for PassesOwn.never rfl (pi_range2 rfl T.n_range (pa_cons (pv 9) (pa_cons (pe_op op_add (pe_op op_mul (pe_int) (pv 3)) (pe_int)) (pa_nil)))) (pg_name (i := 12) sc_walk.nd rfl (Or.inl rfl))
 (pss_cons (ps_set (i := 13) sc_walk.nd rfl (Or.inl rfl) (pe_c c_allows hr (by first | decide | omega) (by rfl) (pa_cons (pv 2) (pa_cons (pv 8) (pa_cons (pv 12) (pa_cons (pv 11) (pa_nil)))))))
 (pss_cons (ps_if (pt_not (pt_val (pe_c c_same hr (by first | decide | omega) (by rfl) (pa_cons (pe_mt c_L_allows hr (by first | decide | omega) (pv 1) (pa_cons (pv 8) (pa_cons (pv 12) (pa_cons (pv 11) (pa_nil))))) (pa_cons (pv 13) (pa_nil))))))
 (pss_one (ps_ret (pe_non)))
 (pss_nil))
 (pss_one (ps_if (pt_val (pv 13))
 (pss_cons (ps_expr (pe_bm PySem.F.plainAttrs_list PySem.F.slot_list_append PySem.F.type_list_append mt_append (pv 5) (pa_cons (pv 11) (pa_nil))))
 (pss_cons (ps_expr (pe_bm PySem.F.plainAttrs_list PySem.F.slot_list_append PySem.F.type_list_append mt_append (pv 6) (pa_cons (pv 12) (pa_nil))))
 (pss_one (ps_break))))
 (pss_nil))))))))))))))
 (pss_one (ps_ret (pe_lst (pa_cons (pv 5) (pa_cons (pv 6) (pa_nil))))))))), ?_⟩)
  · obtain ⟨p, x, a, h, ls, rfl, _⟩ := h; rfl
  obtain ⟨p, x, a, h, ls, rfl, hp, LA, ha, nap, ⟨h0, h1⟩, hl, kk⟩ := h
  refine ⟨_, rfl, a, _, rfl, .inl (SqL.of ha), _, rfl, _, rfl, _, _, rfl, rfl, p, _, rfl, hp, by rw [List.length_map]; omega, by rw [List.length_map]; omega, fun z0 H1 z00 z01 k1 p1 => ⟨(by show 1 ≤ sizeLine; decide), fun pa hpa => ⟨(by show 0 ≤ sizeLine; decide), fun ra hra => ?_⟩⟩⟩
  rw [List.length_map] at z01
  have npa := p1.free hpa
  have nar : pa ≠ ra := fun q => by rw [q, upd_same] at hra; cases hra
  have hra1 : H1 ra = none := by rw [upd_ne nar.symm] at hra; exact hra
  have nra := p1.free hra1
  have hpa0 := k1.free npa hpa
  have hra0 := k1.free nra hra1
  have k3 : Keep p H (upd (upd H1 pa (.lst [.int z0])) ra (.lst [])) := (k1.new hpa).new hra
  have p3 : IsPool (upd (upd H1 pa (.lst [.int z0])) ra (.lst [])) p := p1.same ((same_new hpa).trans (same_new hra))
  refine ⟨_, rfl, p, 15, rfl, p3, by decide, by decide, fun nt H4 nt0 nt1 k4 p4 => ⟨_, rfl, by omega, by omega, ?_⟩⟩
  refine for_range (lo := 0) (n := nt.toNat) (fun i σ H' => ∃ (pl : List Int) (u : Int) (rk : List Int) (z7 z8 z9 z10 z11 z12 z13 : Option V),
    σ = [some (.ref p), some (.ref x), some (.ref a), some (.int h), some (.int ((ls.map V.int).length : Int)), some (.ref pa), some (.ref ra), z7, z8, z9, z10, z11, z12, z13] ∧ Keep p H H' ∧ IsPool H' p ∧
      H' pa = some (.lst ((pl ++ [u]).map V.int)) ∧ H' ra = some (.lst (rk.map V.int)) ∧ rk.length ≤ i ∧ Path ls h (pl ++ [u]) rk) ?_ ?_ ?_
  · refine ⟨[], z0, [], _, _, _, _, _, _, _, rfl, k3.trans k4, p4, ?_, ?_, Nat.le_refl _, rfl, fun z hz => ?_, fun r hr => (by cases hr), fun i u p v _ h2 => (by cases h2)⟩
    · exact k4 _ npa _ (by rw [upd_ne nar, upd_same]; rfl)
    · exact k4 _ nra _ upd_same
    · have : z = z0 := by simpa using hz
      omega
  · rintro i σ H5 hi ⟨pl, u, rk, z7, z8, z9, z10, z11, z12, z13, rfl, k5, p5, e5, f5, hrk, hP⟩
    have hu : 0 ≤ u ∧ u ≤ ls.length := hP.2.1 u (List.mem_append_right _ (List.mem_singleton.mpr rfl))
    refine ⟨_, rfl, _, rfl, pa, _, rfl, .inl (SqL.of e5), _, _, rfl, rfl, pa, _, _, _, rfl, rfl, SqL.of e5, at_last, ?_⟩
    refine ⟨_, rfl, _, rfl, _, _, rfl, rfl, .inl ⟨by decide, by decide⟩, _, _, rfl, rfl, p, _, rfl, p5, by omega, by omega, fun r H6 r0 r1 k6 p6 => ?_⟩
    refine ⟨_, rfl, p, 3, rfl, p6, by decide, by decide, fun way H7 w0 w1 k7 p7 => ?_⟩
    refine ⟨_, rfl, _, rfl, _, _, rfl, rfl, p, _, rfl, p7, by rw [List.length_map]; omega, by rw [List.length_map]; omega, fun g0 H8 g00 g01 k8 p8 => ?_⟩
    rw [List.length_map] at g01
    have k8' : Keep p H H8 := ((k5.trans k6).trans k7).trans k8
    have e8 := k8 _ npa _ (k7 _ npa _ (k6 _ npa _ e5))
    have f8 := k8 _ nra _ (k7 _ nra _ (k6 _ nra _ f5))
    have a8 := k8' _ nap _ ha
    have LA8 := LA.keep k8' hp.some
    obtain ⟨dx, tl, tc, hx8, _⟩ := id LA8
    refine ⟨fun σ' H' => H8 = H' ∧ ∃ g : Int, (0 ≤ g ∧ g ≤ ls.length) ∧ σ' = [some (.ref p), some (.ref x), some (.ref a), some (.int h), some (.int ((ls.map V.int).length : Int)), some (.ref pa), some (.ref ra), some (.int (0 + (i : Int))), some (.int u), some (.int r), some (.int way), some (.int g), z12, z13], ?_, ?_⟩
    · refine ⟨_, rfl, rfl, _, rfl, ite2 (fun _ => ?_) (fun _ => ⟨rfl, g0, ⟨g00, by omega⟩, rfl⟩)⟩
      refine ⟨_, rfl, _, _, rfl, rfl, _, rfl, .inl ⟨_, rfl, _, _, rfl, rfl, (by show (0:Int) < _; decide), _, _, rfl, rfl, _, _, rfl, rfl, _, ⟨?_, ?_⟩, rfl⟩⟩
      · split <;> omega
      · split <;> omega
    rintro σ' H' ⟨rfl, g, hg, rfl⟩
    refine ⟨fun σ' H' => H8 = H' ∧ ∃ g : Int, (0 ≤ g ∧ g ≤ ls.length) ∧ σ' = [some (.ref p), some (.ref x), some (.ref a), some (.int h), some (.int ((ls.map V.int).length : Int)), some (.ref pa), some (.ref ra), some (.int (0 + (i : Int))), some (.int u), some (.int r), some (.int way), some (.int g), z12, z13], ?_, ?_⟩
    · refine ⟨_, rfl, rfl, _, rfl, ite2 (fun _ => ?_) (fun _ => ⟨rfl, g, hg, rfl⟩)⟩
      refine ⟨_, rfl, _, rfl, _, _, rfl, rfl, _, _, rfl, rfl, _, ⟨?_, ?_⟩, rfl⟩
      · rw [List.length_map]; split <;> omega
      · rw [List.length_map]; split <;> omega
    rintro σ' H' ⟨rfl, g, hg, rfl⟩
    refine ⟨_, rfl, _, rfl, _, _, rfl, rfl, .inl ⟨by decide, by decide⟩, _, _, rfl, rfl, r, 2 * h + 1, rfl, ⟨by omega, by omega, by omega, by omega⟩, ?_⟩
    refine for_range (lo := r) (n := (2 * h + 1 - r).toNat) (fun j σ H' => H8 = H' ∧ ∃ z12 z13, σ = [some (.ref p), some (.ref x), some (.ref a), some (.int h), some (.int ((ls.map V.int).length : Int)), some (.ref pa), some (.ref ra), some (.int (0 + (i : Int))), some (.int u), some (.int r), some (.int way), some (.int g), z12, z13]) ⟨rfl, _, _, rfl⟩ ?_ ?_
    · rintro j σ H' hj ⟨rfl, y12, y13, rfl⟩
      have ht : 0 ≤ r + (j : Int) ∧ r + (j : Int) ≤ 2 * h := by omega
      refine ⟨_, rfl, _, rfl, _, rfl, _, rfl, a, ls, u, _, g, rfl, SqL.of a8, hu, ht.1, hg, by omega, ?_⟩
      refine ⟨_, rfl, x, dx, _, rfl, hx8, rfl, _, rfl, _, rfl, _, rfl, x, h, ls, u, _, g, rfl, LA8, hu, ht, hg, _, rfl, _, _, _, _, rfl, .bl _, .bl _, (by show 0 < 1; decide), fun b hb => ⟨_, rfl, ?_⟩⟩
      rw [hb.mpr rfl]
      refine iteF ⟨_, rfl, _, rfl, ite_b (fun c => ?_) (fun c => ⟨rfl, _, _, rfl⟩)⟩
      refine ⟨_, rfl, .inl ⟨rfl, _, SqL.of e8⟩, _, rfl, pa, _, _, rfl, rfl, e8, ?_, ?_⟩
      · rw [List.length_map, hP.1, sizeLine_eq]; omega
      refine ⟨_, rfl, .inl ⟨rfl, _, SqL.of ((upd_ne nar.symm).trans f8)⟩, _, rfl, ra, _, _, rfl, rfl, (upd_ne nar.symm).trans f8, ?_, ?_⟩
      · rw [List.length_map, sizeLine_eq]; omega
      refine ⟨pl ++ [u], g, rk ++ [r + (j : Int)], _, _, _, _, _, _, _, rfl, ?_, ?_, ?_, ?_, by simp; omega, hP.add ht hg c⟩
      · intro b nb o e
        rw [upd_ne (ne_of_none e hra0), upd_ne (ne_of_none e hpa0)]
        exact k8' b nb o e
      · obtain ⟨y1, y2, y3, y4, q⟩ := p8
        exact ⟨y1, y2, y3, y4, by rw [upd_ne nra.symm, upd_ne npa.symm]; exact q⟩
      · rw [upd_ne nar, upd_same, List.map_append (l₁ := pl ++ [u])]; rfl
      · rw [upd_same, List.map_append]; rfl
    · rintro σ H' ⟨rfl, y12, y13, rfl⟩
      exact ⟨pl, u, rk, _, _, _, _, _, _, _, rfl, k8', p8, e8, f8, by omega, hP⟩
  · rintro σ H5 ⟨pl, u, rk, z7, z8, z9, z10, z11, z12, z13, rfl, k5, p5, e5, f5, hrk, hP⟩
    refine ⟨_, rfl, _, rfl, (by show 2 ≤ sizeLine; decide), fun W hW => ?_⟩
    exact kk _ W pa ra (pl ++ [u]) rk (k5.new hW) upd_same (by rw [upd_ne (ne_of_none e5 hW)]; exact e5) (by rw [upd_ne (ne_of_none f5 hW)]; exact f5) (by omega) hP
end
end LR

set_option Elab.async false
set_option maxRecDepth 100000
set_option linter.all false
set_option maxHeartbeats 4000000
namespace LR
open PySem PySem.Spec PyProof.Rows L2
section
variable {P : Program} {w : World} {K : PySem.W.Frag} {mg : Str → Option Value} {base : Heap} {ζ : Cs}
def spStretch (C : Addr) : Sp := fun vs H Q _ => ∃ (x pa ra : Addr) (h : Int) (ls pl rk : List Int), vs = [.ref x, .ref pa, .ref ra] ∧ LadderAt C H x h ls ∧ H pa = some (.lst (pl.map V.int)) ∧ H ra = some (.lst (rk.map V.int)) ∧ rk.length ≤ 1000 ∧ Path ls h pl rk ∧ 0 ≤ h ∧ Q (.bl true) H
theorem ok_stretch (T : Txt P K mg ζ) : Cal P w K mg base 4 "_law_stretches" (spStretch ζ.Ladder) := by
  have c_same : Cal P w K mg base 3 "_law_same" (spSame 1) := ok_same T 1
  have c_L_allows : Met P w K mg base 2 ζ.Ladder "allows" (spLets ζ.Ladder) := ok_allows T
  refine T.d_stretches.cal sc_stretches (fun vs H Q E h => ?_) (fun f cdv A outer s H vs Q E hr h => ⟨_, pss_cons (ps_for PassesOwn.never rfl (pi_range1 rfl T.n_range (pa_cons (pe_callB call_len_seq (by rfl) T.n_len b_len (pa_cons (pv 2) (pa_nil))) (pa_nil))) (pg_name (i := 3) sc_stretches.nd rfl (Or.inl rfl))
 (pss_cons (ps_set (i := 4) sc_stretches.nd rfl (Or.inl rfl) (pe_int))
 (pss_one (ps_for PassesOwn.never rfl (pi_range2 rfl T.n_range (pa_cons (pv 3) (pa_cons (pe_callB call_len_seq (by rfl) T.n_len b_len (pa_cons (pv 2) (pa_nil))) (pa_nil)))) (pg_name (i := 5) sc_stretches.nd rfl (Or.inl rfl))
 (pss_cons (ps_set (i := 4) sc_stretches.nd rfl (Or.inl rfl) (pe_callB (call_max2 rfl) (by rfl) T.n_max b_max (pa_cons (pv 4) (pa_cons (pe_ix ix_list (pv 2) (pv 5) (fun _ _ => rfl)) (pa_nil)))))
 (pss_cons (ps_set (i := 6) sc_stretches.nd rfl (Or.inl rfl) (pe_ix ix_list (pv 1) (pv 3) (fun _ _ => rfl)))
 (pss_cons (ps_set (i := 7) sc_stretches.nd rfl (Or.inl rfl) (pe_ix ix_list (pv 1) (pe_op op_add (pv 5) (pe_int)) (fun _ _ => rfl)))
 (pss_cons (ps_if (pt_not (pt_val (pe_c c_same hr (by first | decide | omega) (by rfl) (pa_cons (pe_mt c_L_allows hr (by first | decide | omega) (pv 0) (pa_cons (pv 6) (pa_cons (pv 4) (pa_cons (pv 7) (pa_nil))))) (pa_cons (pe_bl) (pa_nil))))))
 (pss_one (ps_ret (pe_bl)))
 (pss_nil))
 (pss_one (ps_if (PW.pt (pw_and (pt_cmpR op_eq (pv 6) (pv 7) (nomark _)) (pw_and1 (pt_cmpR op_eq (pe_op op_mod (pe_callTy call_int1 (by rfl) T.n_int b_int (pa_cons (pv 4) (pa_nil))) (pe_int)) (pe_int) (nomark _)))))
 (pss_one (ps_ret (pe_bl)))
 (pss_nil)))))))))))
 (pss_one (ps_ret (pe_bl))), ?_⟩)
  · obtain ⟨x, pa, ra, h, ls, pl, rk, rfl, _⟩ := h; rfl
  obtain ⟨x, pa, ra, h, ls, pl, rk, rfl, LA, hpa, hra, hlen, hP, h0, kk⟩ := h
  obtain ⟨dx, tl, tc, hx, _⟩ := id LA
  refine ⟨_, rfl, ra, _, rfl, .inl (SqL.of hra), _, rfl, by rw [List.length_map]; omega, by rw [List.length_map]; omega, ?_⟩
  rw [List.length_map]
  refine for_range (lo := 0) (n := rk.length) (fun i σ H' => H = H' ∧ ∃ z3 z4 z5 z6 z7 : Option V, σ = [some (.ref x), some (.ref pa), some (.ref ra), z3, z4, z5, z6, z7]) ⟨rfl, _, _, _, _, _, rfl⟩ ?_ ?_
  · rintro i σ H' hi ⟨rfl, z3, z4, z5, z6, z7, rfl⟩
    have hil : i < pl.length := by rw [hP.1]; omega
    refine ⟨_, rfl, _, rfl, ra, _, rfl, .inl (SqL.of hra), 0 + (i : Int), _, rfl, ⟨by omega, by omega, by rw [List.length_map]; omega, by rw [List.length_map]; omega⟩, ?_⟩
    have en : ((((rk.map V.int).length : Nat) : Int) - (0 + (i : Int))).toNat = rk.length - i := by rw [List.length_map]; omega
    rw [en]
    refine for_range (lo := 0 + (i : Int)) (n := rk.length - i) (fun j σ H' => H = H' ∧ ∃ (g : Int) (z5 z6 z7 : Option V), σ = [some (.ref x), some (.ref pa), some (.ref ra), some (.int (0 + (i : Int))), some (.int g), z5, z6, z7] ∧ (0 ≤ g ∧ g ≤ 2 * h) ∧
      ∀ u w : Int, pl[i]? = some u → pl[i + j]? = some w → alw ls u g w = true) ⟨rfl, 0, _, _, _, rfl, ⟨Int.le_refl _, by omega⟩, fun u w a b => ?_⟩ ?_ ?_
    · rw [Nat.add_zero, a] at b; cases b
      rw [alw_step]; exact ⟨fun _ => Int.le_refl _, fun q => absurd rfl q⟩
    · rintro j σ H' hj ⟨rfl, g, z5, z6, z7, rfl, ⟨g0, g1⟩, hg⟩
      have hij : i + j < rk.length := by omega
      obtain ⟨r, er⟩ : ∃ r, rk[i + j]? = some r := ⟨_, List.getElem?_eq_getElem hij⟩
      obtain ⟨u, ep⟩ : ∃ r, pl[i]? = some r := ⟨_, List.getElem?_eq_getElem hil⟩
      obtain ⟨v, eq⟩ : ∃ r, pl[i + j]? = some r := ⟨_, List.getElem?_eq_getElem (by rw [hP.1]; omega)⟩
      obtain ⟨w', eq1⟩ : ∃ r, pl[i + j + 1]? = some r := ⟨_, List.getElem?_eq_getElem (by rw [hP.1]; omega)⟩
      have hr2 := hP.2.2.1 _ (List.mem_of_getElem? er)
      have b1 := hP.2.1 _ (List.mem_of_getElem? ep)
      have b2 := hP.2.1 _ (List.mem_of_getElem? eq1)
      have a1 := hg u v ep eq
      have a2 := hP.2.2.2 (i + j) v r w' eq er eq1
      have a3 := alw_trans a1 a2
      have em : (if r > g then r else g) = max g r := by split <;> omega
      have c1 : (0 : Int) + (i : Int) + (j : Int) = ((i + j : Nat) : Int) := by omega
      have c2 : (0 : Int) + (i : Int) + (j : Int) + 1 = ((i + j + 1 : Nat) : Int) := by omega
      have c3 : (0 : Int) + (i : Int) = (i : Int) := by omega
      refine ⟨_, rfl, _, rfl, _, rfl, ra, _, _, _, rfl, rfl, SqL.of hra, (by rw [c1]; exact atI_nat (get_map er)), _, _, rfl, ?_⟩
      rw [em]
      have bm : 0 ≤ max g r ∧ max g r ≤ 2 * h := by omega
      generalize max g r = g' at a3 bm ⊢
      refine ⟨_, rfl, _, rfl, pa, _, _, _, rfl, rfl, SqL.of hpa, (by rw [c3]; exact atI_nat (get_map ep)), ?_⟩
      refine ⟨_, rfl, _, rfl, _, _, rfl, rfl, pa, _, _, _, rfl, rfl, SqL.of hpa, (by rw [c2]; exact atI_nat (get_map eq1)), ?_⟩
      refine ⟨_, rfl, x, dx, _, rfl, hx, rfl, _, rfl, _, rfl, _, rfl, x, h, ls, u, g', w', rfl, LA, b1, bm, b2, _, _, _, _, rfl, .bl _, .bl _, (by show 0 < 1; decide), fun b hb => ⟨_, rfl, ?_⟩⟩
      rw [hb.mpr (by rw [a3])]
      refine iteF ⟨_, rfl, _, rfl, rfl, _, rfl, ite2 (fun c => ?_) (fun c => ?_)⟩
      · have c := of_decide_eq_true c
        cases c
        have ev := alw_loop a3
        refine ⟨_, rfl, .inl ⟨_, rfl, _, _, rfl, rfl, (by show (0:Int) < _; decide), rfl, _, rfl, ?_⟩⟩
        have : decide (V.int (g' % 2) = V.int 1) = false := by rw [ev]; rfl
        rw [this]
        exact iteF ⟨rfl, g', _, _, _, rfl, bm, fun u2 w2 q1 q2 => by rw [ep] at q1; rw [show i + (j + 1) = i + j + 1 from rfl, eq1] at q2; cases q1; cases q2; exact a3⟩
      · exact ⟨rfl, g', _, _, _, rfl, bm, fun u2 w2 q1 q2 => by rw [ep] at q1; rw [show i + (j + 1) = i + j + 1 from rfl, eq1] at q2; cases q1; cases q2; exact a3⟩
    · rintro σ H' ⟨rfl, g, z5, z6, z7, rfl, _⟩
      exact ⟨rfl, _, _, _, _, _, rfl⟩
  · rintro σ H' ⟨rfl, z3, z4, z5, z6, z7, rfl⟩
    exact kk
end
end LR

set_option Elab.async false
set_option maxRecDepth 100000
set_option linter.all false
set_option maxHeartbeats 4000000
namespace LR
open PySem PySem.Spec PyProof.Rows L2
section
variable {P : Program} {w : World} {K : PySem.W.Frag} {mg : Str → Option Value} {base : Heap} {ζ : Cs}
abbrev lawLevel : Nat := 6
theorem ok_law (T : Txt P K mg ζ) {f : Addr} {fd : FuncData} (F : Fun K "law" "law" s_law f fd) : FnOk P w K mg base CX0 6 f fd ["script"] (spLaw K) := by
  have c_pool : Cal P w K mg base 1 "_law_pool" (spPool K) := ok_pool T
  have c_draw : Cal P w K mg base 1 "_law_draw" spDraw := ok_draw T
  have c_levels : Cal P w K mg base 2 "_law_levels" spLevels := ok_levels T
  have c_Ladder : Mak P w K mg base 2 "Ladder" ζ.Ladder (spInit ζ.Ladder) := ok_init T
  have c_walk : Cal P w K mg base 4 "_law_walk" (spWalk ζ.Ladder) := ok_walk T
  have c_same : Cal P w K mg base 4 "_law_same" (spSame 2) := ok_same T 2
  have c_stretches : Cal P w K mg base 4 "_law_stretches" (spStretch ζ.Ladder) := ok_stretch T
  refine F.ok sc_law (fun vs H Q E h => ?_) (fun cdv A outer s H vs Q E hr h => ⟨_, pss_cons (ps_set (i := 1) sc_law.nd rfl (Or.inl rfl) (pe_c c_pool hr (by first | decide | omega) (by rfl) (pa_cons (pv 0) (pa_cons (pe_int) (pa_nil)))))
 (pss_cons (ps_set (i := 2) sc_law.nd rfl (Or.inl rfl) (pe_op op_add (pe_int) (pe_c c_draw hr (by first | decide | omega) (by rfl) (pa_cons (pv 1) (pa_cons (pe_int) (pa_nil))))))
 (pss_cons (ps_set (i := 3) sc_law.nd rfl (Or.inl rfl) (pe_int))
 (pss_cut (ps_if (pt_cmpR op_eq (pe_c c_draw hr (by first | decide | omega) (by rfl) (pa_cons (pv 1) (pa_cons (pe_int) (pa_nil)))) (pe_int) (nomark _))
 (pss_one (ps_set (i := 3) sc_law.nd rfl (Or.inl rfl) (pe_int)))
 (pss_nil))
 (pss_cons (ps_set (i := 4) sc_law.nd rfl (Or.inl rfl) (pe_c c_levels hr (by first | decide | omega) (by rfl) (pa_cons (pv 1) (pa_cons (pv 2) (pa_cons (pv 3) (pa_nil))))))
 (pss_cons (ps_set (i := 5) sc_law.nd rfl (Or.inl rfl) (pe_callTy call_list_of (by rfl) T.n_list b_list (pa_cons (pv 4) (pa_nil))))
 (pss_cons (ps_set (i := 6) sc_law.nd rfl (Or.inl rfl) (pe_mk c_Ladder hr (by first | decide | omega) (by rfl) (pa_cons (pv 2) (pa_cons (pv 5) (pa_nil)))))
 (pss_cons (ps_set (i := 7) sc_law.nd rfl (Or.inl rfl) (pe_c c_walk hr (by first | decide | omega) (by rfl) (pa_cons (pe_c c_pool hr (by first | decide | omega) (by rfl) (pa_cons (pv 0) (pa_cons (pe_int) (pa_nil)))) (pa_cons (pv 6) (pa_cons (pv 4) (pa_cons (pv 2) (pa_nil)))))))
 (pss_cons (ps_if (PW.pt (pw_or (pt_cmpR op_isN (pv 7) (pe_non) (nomark _)) (pw_or1 (pt_not (pt_val (pe_c c_same hr (by first | decide | omega) (by rfl) (pa_cons (pv 5) (pa_cons (pv 4) (pa_nil)))))))))
 (pss_one (ps_ret (pe_bl)))
 (pss_nil))
 (pss_one (ps_ret (pe_c c_stretches hr (by first | decide | omega) (by rfl) (pa_cons (pv 6) (pa_cons (pe_ix ix_list (pv 7) (pe_int) (fun _ _ => rfl)) (pa_cons (pe_ix ix_list (pv 7) (pe_int) (fun _ _ => rfl)) (pa_nil))))))))))))))), ?_⟩)
  · obtain ⟨a, ns, rfl, _⟩ := h; rfl
  obtain ⟨a, ns, rfl, hS, kk⟩ := h
  refine ⟨_, rfl, a, ns, 0, rfl, hS, fun p x1 x2 x3 x4 hp => ?_⟩
  have p1 : IsPool (upd H p (.lst [.int x1, .int x2, .int x3, .int x4])) p := .upd
  have k1 : Keep p H (upd H p (.lst [.int x1, .int x2, .int x3, .int x4])) := Keep.refl.upd
  generalize upd H p (.lst [.int x1, .int x2, .int x3, .int x4]) = H1 at p1 k1 ⊢
  refine ⟨_, rfl, p, 3, rfl, p1, by decide, by decide, fun h0 H2 h00 h01 k2 p2 => ⟨_, _, rfl, rfl, ?_⟩⟩
  refine ⟨fun σ' H' => Keep p H H' ∧ IsPool H' p ∧ ∃ lim : Int, (0 ≤ lim ∧ lim ≤ 24) ∧ σ' = [some (.ref a), some (.ref p), some (.int (1 + h0)), some (.int lim), none, none, none, none], ?_, ?_⟩
  · refine ⟨_, rfl, p, 16, rfl, p2, by decide, by decide, fun d H3 d0 d1 k3 p3 => ⟨rfl, _, rfl, ite2 (fun _ => ?_) (fun _ => ?_)⟩⟩
    · exact ⟨(k1.trans k2).trans k3, p3, 24, ⟨by decide, by decide⟩, rfl⟩
    · exact ⟨(k1.trans k2).trans k3, p3, 8, ⟨by decide, by decide⟩, rfl⟩
  rintro σ' H3 ⟨k3, p3, lim, ⟨l0, l1⟩, rfl⟩
  refine ⟨_, rfl, _, rfl, _, rfl, p, _, lim, rfl, p3, ⟨by omega, by omega⟩, ⟨l0, by omega⟩, fun H4 D ls k4 p4 hD h4 hlen hb => ?_⟩
  have kk4 := k3.trans k4
  refine ⟨_, rfl, D, _, rfl, .inl (SqL.of h4), fun E1 hE1 => ?_⟩
  have s5 : Same H4 (upd H4 E1 (.lst (ls.map V.int))) := same_new hE1
  have h5 : (upd H4 E1 (.lst (ls.map V.int))) E1 = some (.lst (ls.map V.int)) := upd_same
  have h5D := s5 _ _ h4
  have kk5 := kk4.same s5
  generalize upd H4 E1 (.lst (ls.map V.int)) = H5 at s5 h5 h5D kk5 ⊢
  refine ⟨_, rfl, _, rfl, fun x dx nx ndx nex => ?_⟩
  have s6 : Same H5 (upd (upd H5 dx (.own x)) x (.ins ζ.Ladder dx [])) := (same_new ndx).new (by rw [upd_ne nex.symm]; exact nx)
  refine ⟨x, E1, dx, 1 + h0, ls, rfl, upd_same, s6 _ _ h5, by omega, by omega, hb, fun H7 k7 LA => ⟨rfl, ?_⟩⟩
  have s7 : Same H5 H7 := fun b o e => k7 b (ne_of_none e nx) o (s6 b o e)
  have h7 := s7 _ _ h5
  have h7D := s7 _ _ h5D
  have kk7 := kk5.same s7
  refine ⟨_, rfl, a, ns, 1, rfl, seq_after hS hp kk7, fun q y1 y2 y3 y4 hq => ?_⟩
  have s8 : Same H7 (upd H7 q (.lst [.int y1, .int y2, .int y3, .int y4])) := same_new hq
  refine ⟨_, rfl, _, rfl, _, rfl, q, x, D, 1 + h0, ls, rfl, .upd, LA.same s8, s8 _ _ h7D, ne_of_none h7D hq, ⟨by omega, by omega⟩, by omega, fun H9 W pa ra pl rk k9 hW hpa hra hrk hP => ?_⟩
  have nq : ∀ b o, H7 b = some o → H9 b = some o := fun b o e => k9 b (ne_of_none e hq) o (s8 b o e)
  refine ⟨_, rfl, rfl, _, rfl, iteF ⟨_, rfl, _, rfl, _, _, _, _, rfl, .lst (nq _ _ h7) (ats_ints _ _) (by rw [List.length_map]; omega), .lst (nq _ _ h7D) (ats_ints _ _) (by rw [List.length_map]; omega), ?_, fun b hb2 => ⟨_, rfl, ?_⟩⟩⟩
  · rw [dep, deps_ints]; decide
  rw [hb2.mpr rfl]
  refine iteF ⟨_, rfl, _, rfl, W, _, _, _, rfl, rfl, SqL.of hW, rfl, _, rfl, W, _, _, _, rfl, rfl, SqL.of hW, rfl, ?_⟩
  exact ⟨x, pa, ra, 1 + h0, ls, pl, rk, rfl, (LA.same nq), hpa, hra, by omega, hP, by omega, kk _⟩
end
end LR

set_option Elab.async false
set_option maxRecDepth 100000
set_option linter.all false
set_option maxHeartbeats 4000000
namespace LR
open PySem PySem.Spec PyProof.Rows L2
theorem all_mk {P : Program} {K : PySem.W.Frag} {h : Heap} {mg : Str → Option Value} (X : K.In h) (G : h.Ns mainGlobals mg)
    {od_check_height an_check_height : Option Addr} {sl_check_height : Array (Option Value)} {oc_check_height kV_check_height dc_check_height pm_check_height ct_check_height : Value} {f_check_height : Addr} {cd_check_height : Value} {od_check_row an_check_row : Option Addr} {sl_check_row : Array (Option Value)} {oc_check_row kV_check_row dc_check_row pm_check_row ct_check_row : Value} {f_check_row : Addr} {cd_check_row : Value} {od_check_step an_check_step : Option Addr} {sl_check_step : Array (Option Value)} {oc_check_step kV_check_step dc_check_step pm_check_step ct_check_step : Value} {f_check_step : Addr} {cd_check_step : Value} {od_check_rank an_check_rank : Option Addr} {sl_check_rank : Array (Option Value)} {oc_check_rank kV_check_rank dc_check_rank pm_check_rank ct_check_rank : Value} {f_check_rank : Addr} {cd_check_rank : Value} {od__counts_from an__counts_from : Option Addr} {sl__counts_from : Array (Option Value)} {oc__counts_from kV__counts_from dc__counts_from pm__counts_from ct__counts_from : Value} {f__counts_from : Addr} {cd__counts_from : Value} {od_pool an_pool : Option Addr} {sl_pool : Array (Option Value)} {oc_pool kV_pool dc_pool pm_pool ct_pool : Value} {f_pool : Addr} {cd_pool : Value} {od_draw an_draw : Option Addr} {sl_draw : Array (Option Value)} {oc_draw kV_draw dc_draw pm_draw ct_draw : Value} {f_draw : Addr} {cd_draw : Value} {od_levels an_levels : Option Addr} {sl_levels : Array (Option Value)} {oc_levels kV_levels dc_levels pm_levels ct_levels : Value} {f_levels : Addr} {cd_levels : Value} {od_number an_number : Option Addr} {sl_number : Array (Option Value)} {oc_number kV_number dc_number pm_number ct_number : Value} {f_number : Addr} {cd_number : Value} {od_same an_same : Option Addr} {sl_same : Array (Option Value)} {oc_same kV_same dc_same pm_same ct_same : Value} {f_same : Addr} {cd_same : Value} {od_gap an_gap : Option Addr} {sl_gap : Array (Option Value)} {oc_gap kV_gap dc_gap pm_gap ct_gap : Value} {f_gap : Addr} {cd_gap : Value} {od_allows an_allows : Option Addr} {sl_allows : Array (Option Value)} {oc_allows kV_allows dc_allows pm_allows ct_allows : Value} {f_allows : Addr} {cd_allows : Value} {od_walk an_walk : Option Addr} {sl_walk : Array (Option Value)} {oc_walk kV_walk dc_walk pm_walk ct_walk : Value} {f_walk : Addr} {cd_walk : Value} {od_stretches an_stretches : Option Addr} {sl_stretches : Array (Option Value)} {oc_stretches kV_stretches dc_stretches pm_stretches ct_stretches : Value} {f_stretches : Addr} {cd_stretches : Value} {od_law an_law : Option Addr} {sl_law : Array (Option Value)} {oc_law kV_law dc_law pm_law ct_law : Value} {f_law : Addr} {cd_law : Value} {C_Ladder : Addr} {od_L_init an_L_init : Option Addr} {sl_L_init : Array (Option Value)} {oc_L_init kV_L_init dc_L_init pm_L_init ct_L_init : Value} {f_L_init : Addr} {cd_L_init : Value} {od_L_allows an_L_allows : Option Addr} {sl_L_allows : Array (Option Value)} {oc_L_allows kV_L_allows dc_L_allows pm_L_allows ct_L_allows : Value} {f_L_allows : Addr} {cd_L_allows : Value} {od_Llets an_Llets : Option Addr} {sl_Llets : Array (Option Value)} {oc_Llets kV_Llets dc_Llets pm_Llets ct_Llets : Value} {f_Llets : Addr} {cd_Llets : Value} {u_Ladder_MOST_LEVELS : Value}
    (z_len : PySem.W.nsIn K mainGlobals "len" = some none)
    (z_abs : PySem.W.nsIn K mainGlobals "abs" = some none)
    (z_max : PySem.W.nsIn K mainGlobals "max" = some none)
    (z_min : PySem.W.nsIn K mainGlobals "min" = some none)
    (z_isinstance : PySem.W.nsIn K mainGlobals "isinstance" = some none)
    (z_int : PySem.W.nsIn K mainGlobals "int" = some none)
    (z_bool : PySem.W.nsIn K mainGlobals "bool" = some none)
    (z_str : PySem.W.nsIn K mainGlobals "str" = some none)
    (z_list : PySem.W.nsIn K mainGlobals "list" = some none)
    (z_tuple : PySem.W.nsIn K mainGlobals "tuple" = some none)
    (z_range : PySem.W.nsIn K mainGlobals "range" = some none)
    (z_enumerate : PySem.W.nsIn K mainGlobals "enumerate" = some none)
    (a_check_height : PySem.W.nsIn K mainGlobals "check_height" = some (some (.ref f_check_height)))
    (l_check_height : K.lookup f_check_height = some ⟨oc_check_height, od_check_height, .func (PySem.W.fnOf "check_height" "check_height" (defArgs s_check_height) (defBody s_check_height) (defScope s_check_height) .none kV_check_height dc_check_height pm_check_height an_check_height cd_check_height ct_check_height), sl_check_height⟩)
    (c_check_height : PySem.W.codeIn K cd_check_height "check_height" = true)
    (k_check_height : PySem.W.keepIn K (.ref f_check_height) = true)
    (a_check_row : PySem.W.nsIn K mainGlobals "check_row" = some (some (.ref f_check_row)))
    (l_check_row : K.lookup f_check_row = some ⟨oc_check_row, od_check_row, .func (PySem.W.fnOf "check_row" "check_row" (defArgs s_check_row) (defBody s_check_row) (defScope s_check_row) .none kV_check_row dc_check_row pm_check_row an_check_row cd_check_row ct_check_row), sl_check_row⟩)
    (c_check_row : PySem.W.codeIn K cd_check_row "check_row" = true)
    (k_check_row : PySem.W.keepIn K (.ref f_check_row) = true)
    (a_check_step : PySem.W.nsIn K mainGlobals "check_step" = some (some (.ref f_check_step)))
    (l_check_step : K.lookup f_check_step = some ⟨oc_check_step, od_check_step, .func (PySem.W.fnOf "check_step" "check_step" (defArgs s_check_step) (defBody s_check_step) (defScope s_check_step) .none kV_check_step dc_check_step pm_check_step an_check_step cd_check_step ct_check_step), sl_check_step⟩)
    (c_check_step : PySem.W.codeIn K cd_check_step "check_step" = true)
    (k_check_step : PySem.W.keepIn K (.ref f_check_step) = true)
    (a_check_rank : PySem.W.nsIn K mainGlobals "check_rank" = some (some (.ref f_check_rank)))
    (l_check_rank : K.lookup f_check_rank = some ⟨oc_check_rank, od_check_rank, .func (PySem.W.fnOf "check_rank" "check_rank" (defArgs s_check_rank) (defBody s_check_rank) (defScope s_check_rank) .none kV_check_rank dc_check_rank pm_check_rank an_check_rank cd_check_rank ct_check_rank), sl_check_rank⟩)
    (c_check_rank : PySem.W.codeIn K cd_check_rank "check_rank" = true)
    (k_check_rank : PySem.W.keepIn K (.ref f_check_rank) = true)
    (a__counts_from : PySem.W.nsIn K mainGlobals "_counts_from" = some (some (.ref f__counts_from)))
    (l__counts_from : K.lookup f__counts_from = some ⟨oc__counts_from, od__counts_from, .func (PySem.W.fnOf "_counts_from" "_counts_from" (defArgs s__counts_from) (defBody s__counts_from) (defScope s__counts_from) .none kV__counts_from dc__counts_from pm__counts_from an__counts_from cd__counts_from ct__counts_from), sl__counts_from⟩)
    (c__counts_from : PySem.W.codeIn K cd__counts_from "_counts_from" = true)
    (k__counts_from : PySem.W.keepIn K (.ref f__counts_from) = true)
    (a_pool : PySem.W.nsIn K mainGlobals "_law_pool" = some (some (.ref f_pool)))
    (l_pool : K.lookup f_pool = some ⟨oc_pool, od_pool, .func (PySem.W.fnOf "_law_pool" "_law_pool" (defArgs s_pool) (defBody s_pool) (defScope s_pool) .none kV_pool dc_pool pm_pool an_pool cd_pool ct_pool), sl_pool⟩)
    (c_pool : PySem.W.codeIn K cd_pool "_law_pool" = true)
    (k_pool : PySem.W.keepIn K (.ref f_pool) = true)
    (a_draw : PySem.W.nsIn K mainGlobals "_law_draw" = some (some (.ref f_draw)))
    (l_draw : K.lookup f_draw = some ⟨oc_draw, od_draw, .func (PySem.W.fnOf "_law_draw" "_law_draw" (defArgs s_draw) (defBody s_draw) (defScope s_draw) .none kV_draw dc_draw pm_draw an_draw cd_draw ct_draw), sl_draw⟩)
    (c_draw : PySem.W.codeIn K cd_draw "_law_draw" = true)
    (k_draw : PySem.W.keepIn K (.ref f_draw) = true)
    (a_levels : PySem.W.nsIn K mainGlobals "_law_levels" = some (some (.ref f_levels)))
    (l_levels : K.lookup f_levels = some ⟨oc_levels, od_levels, .func (PySem.W.fnOf "_law_levels" "_law_levels" (defArgs s_levels) (defBody s_levels) (defScope s_levels) .none kV_levels dc_levels pm_levels an_levels cd_levels ct_levels), sl_levels⟩)
    (c_levels : PySem.W.codeIn K cd_levels "_law_levels" = true)
    (k_levels : PySem.W.keepIn K (.ref f_levels) = true)
    (a_number : PySem.W.nsIn K mainGlobals "_law_number" = some (some (.ref f_number)))
    (l_number : K.lookup f_number = some ⟨oc_number, od_number, .func (PySem.W.fnOf "_law_number" "_law_number" (defArgs s_number) (defBody s_number) (defScope s_number) .none kV_number dc_number pm_number an_number cd_number ct_number), sl_number⟩)
    (c_number : PySem.W.codeIn K cd_number "_law_number" = true)
    (k_number : PySem.W.keepIn K (.ref f_number) = true)
    (a_same : PySem.W.nsIn K mainGlobals "_law_same" = some (some (.ref f_same)))
    (l_same : K.lookup f_same = some ⟨oc_same, od_same, .func (PySem.W.fnOf "_law_same" "_law_same" (defArgs s_same) (defBody s_same) (defScope s_same) .none kV_same dc_same pm_same an_same cd_same ct_same), sl_same⟩)
    (c_same : PySem.W.codeIn K cd_same "_law_same" = true)
    (k_same : PySem.W.keepIn K (.ref f_same) = true)
    (a_gap : PySem.W.nsIn K mainGlobals "_law_gap" = some (some (.ref f_gap)))
    (l_gap : K.lookup f_gap = some ⟨oc_gap, od_gap, .func (PySem.W.fnOf "_law_gap" "_law_gap" (defArgs s_gap) (defBody s_gap) (defScope s_gap) .none kV_gap dc_gap pm_gap an_gap cd_gap ct_gap), sl_gap⟩)
    (c_gap : PySem.W.codeIn K cd_gap "_law_gap" = true)
    (k_gap : PySem.W.keepIn K (.ref f_gap) = true)
    (a_allows : PySem.W.nsIn K mainGlobals "_law_allows" = some (some (.ref f_allows)))
    (l_allows : K.lookup f_allows = some ⟨oc_allows, od_allows, .func (PySem.W.fnOf "_law_allows" "_law_allows" (defArgs s_allows) (defBody s_allows) (defScope s_allows) .none kV_allows dc_allows pm_allows an_allows cd_allows ct_allows), sl_allows⟩)
    (c_allows : PySem.W.codeIn K cd_allows "_law_allows" = true)
    (k_allows : PySem.W.keepIn K (.ref f_allows) = true)
    (a_walk : PySem.W.nsIn K mainGlobals "_law_walk" = some (some (.ref f_walk)))
    (l_walk : K.lookup f_walk = some ⟨oc_walk, od_walk, .func (PySem.W.fnOf "_law_walk" "_law_walk" (defArgs s_walk) (defBody s_walk) (defScope s_walk) .none kV_walk dc_walk pm_walk an_walk cd_walk ct_walk), sl_walk⟩)
    (c_walk : PySem.W.codeIn K cd_walk "_law_walk" = true)
    (k_walk : PySem.W.keepIn K (.ref f_walk) = true)
    (a_stretches : PySem.W.nsIn K mainGlobals "_law_stretches" = some (some (.ref f_stretches)))
    (l_stretches : K.lookup f_stretches = some ⟨oc_stretches, od_stretches, .func (PySem.W.fnOf "_law_stretches" "_law_stretches" (defArgs s_stretches) (defBody s_stretches) (defScope s_stretches) .none kV_stretches dc_stretches pm_stretches an_stretches cd_stretches ct_stretches), sl_stretches⟩)
    (c_stretches : PySem.W.codeIn K cd_stretches "_law_stretches" = true)
    (k_stretches : PySem.W.keepIn K (.ref f_stretches) = true)
    (a_law : PySem.W.nsIn K mainGlobals "law" = some (some (.ref f_law)))
    (l_law : K.lookup f_law = some ⟨oc_law, od_law, .func (PySem.W.fnOf "law" "law" (defArgs s_law) (defBody s_law) (defScope s_law) .none kV_law dc_law pm_law an_law cd_law ct_law), sl_law⟩)
    (c_law : PySem.W.codeIn K cd_law "law" = true)
    (k_law : PySem.W.keepIn K (.ref f_law) = true)
    (aC_Ladder : PySem.W.nsIn K mainGlobals "Ladder" = some (some (.ref C_Ladder)))
    (pg_Ladder : PySem.W.plainGet K C_Ladder Str.empty = true)
    (hd_Ladder : PySem.W.hasDictIn K C_Ladder = true)
    (po_Ladder : PySem.W.plainOver K C_Ladder = true)
    (sa_Ladder : PySem.W.findIn K (.ref C_Ladder) "__setattr__" = some (some (.builtin "object.__setattr__")))
    (na_Ladder_height : PySem.W.findIn K (.ref C_Ladder) "height" = some none)
    (na_Ladder_levels : PySem.W.findIn K (.ref C_Ladder) "levels" = some none)
    (na_Ladder_top : PySem.W.findIn K (.ref C_Ladder) "top" = some none)
    (na_Ladder__counts : PySem.W.findIn K (.ref C_Ladder) "_counts" = some none)
    (mk_Ladder : PySem.W.makesIn K C_Ladder = true)
    (kc_Ladder : PySem.W.keepIn K (.ref C_Ladder) = true)
    (a_L_init : PySem.W.findIn K (.ref C_Ladder) "__init__" = some (some (.ref f_L_init)))
    (i_L_init : PySem.W.isFn K (.ref f_L_init) = true)
    (l_L_init : K.lookup f_L_init = some ⟨oc_L_init, od_L_init, .func (PySem.W.fnOf "__init__" "Ladder.__init__" (defArgs s_L_init) (defBody s_L_init) (defScope s_L_init) .none kV_L_init dc_L_init pm_L_init an_L_init cd_L_init ct_L_init), sl_L_init⟩)
    (c_L_init : PySem.W.codeIn K cd_L_init "Ladder.__init__" = true)
    (k_L_init : PySem.W.keepIn K (.ref f_L_init) = true)
    (a_L_allows : PySem.W.findIn K (.ref C_Ladder) "allows" = some (some (.ref f_L_allows)))
    (i_L_allows : PySem.W.isFn K (.ref f_L_allows) = true)
    (l_L_allows : K.lookup f_L_allows = some ⟨oc_L_allows, od_L_allows, .func (PySem.W.fnOf "allows" "Ladder.allows" (defArgs s_L_allows) (defBody s_L_allows) (defScope s_L_allows) .none kV_L_allows dc_L_allows pm_L_allows an_L_allows cd_L_allows ct_L_allows), sl_L_allows⟩)
    (c_L_allows : PySem.W.codeIn K cd_L_allows "Ladder.allows" = true)
    (k_L_allows : PySem.W.keepIn K (.ref f_L_allows) = true)
    (a_Llets : PySem.W.findIn K (.ref C_Ladder) "_lets" = some (some (.ref f_Llets)))
    (i_Llets : PySem.W.isFn K (.ref f_Llets) = true)
    (l_Llets : K.lookup f_Llets = some ⟨oc_Llets, od_Llets, .func (PySem.W.fnOf "_lets" "Ladder._lets" (defArgs s_Llets) (defBody s_Llets) (defScope s_Llets) .none kV_Llets dc_Llets pm_Llets an_Llets cd_Llets ct_Llets), sl_Llets⟩)
    (c_Llets : PySem.W.codeIn K cd_Llets "Ladder._lets" = true)
    (k_Llets : PySem.W.keepIn K (.ref f_Llets) = true)
    (cr_Ladder_MOST_LEVELS : PySem.W.readsIn K C_Ladder (.type "type") = true)
    (cg_Ladder_MOST_LEVELS : PySem.W.specialIn K (.ref C_Ladder) "__getattribute__" = some (some (.builtin "type.__getattribute__")))
    (cf_Ladder_MOST_LEVELS : PySem.W.findCls K (.ref C_Ladder) (.type "type") "MOST_LEVELS" = some (.val u_Ladder_MOST_LEVELS))
    (cx_Ladder_MOST_LEVELS : RelV (.int 24) u_Ladder_MOST_LEVELS) :
    Txt P K mg ⟨C_Ladder⟩ := {
    n_len := PySem.W.mg_none_of X G z_len,
    n_abs := PySem.W.mg_none_of X G z_abs,
    n_max := PySem.W.mg_none_of X G z_max,
    n_min := PySem.W.mg_none_of X G z_min,
    n_isinstance := PySem.W.mg_none_of X G z_isinstance,
    n_int := PySem.W.mg_none_of X G z_int,
    n_bool := PySem.W.mg_none_of X G z_bool,
    n_str := PySem.W.mg_none_of X G z_str,
    n_list := PySem.W.mg_none_of X G z_list,
    n_tuple := PySem.W.mg_none_of X G z_tuple,
    n_range := PySem.W.mg_none_of X G z_range,
    n_enumerate := PySem.W.mg_none_of X G z_enumerate,
    d_check_height := ⟨_, _, fun_mk (st := s_check_height) l_check_height c_check_height k_check_height, PySem.W.mg_of X G a_check_height, (fun_mk (st := s_check_height) l_check_height c_check_height k_check_height).binds (ps := ["height"]) (fun _ _ _ _ _ _ us hl => match us, hl with | [_], _ => rfl)⟩,
    d_check_row := ⟨_, _, fun_mk (st := s_check_row) l_check_row c_check_row k_check_row, PySem.W.mg_of X G a_check_row, (fun_mk (st := s_check_row) l_check_row c_check_row k_check_row).binds (ps := ["height", "row", "most"]) (fun _ _ _ _ _ _ us hl => match us, hl with | [_, _, _], _ => rfl)⟩,
    d_check_step := ⟨_, _, fun_mk (st := s_check_step) l_check_step c_check_step k_check_step, PySem.W.mg_of X G a_check_step, (fun_mk (st := s_check_step) l_check_step c_check_step k_check_step).binds (ps := ["top", "step"]) (fun _ _ _ _ _ _ us hl => match us, hl with | [_, _], _ => rfl)⟩,
    d_check_rank := ⟨_, _, fun_mk (st := s_check_rank) l_check_rank c_check_rank k_check_rank, PySem.W.mg_of X G a_check_rank, (fun_mk (st := s_check_rank) l_check_rank c_check_rank k_check_rank).binds (ps := ["height", "rank"]) (fun _ _ _ _ _ _ us hl => match us, hl with | [_, _], _ => rfl)⟩,
    d__counts_from := ⟨_, _, fun_mk (st := s__counts_from) l__counts_from c__counts_from k__counts_from, PySem.W.mg_of X G a__counts_from, (fun_mk (st := s__counts_from) l__counts_from c__counts_from k__counts_from).binds (ps := ["level", "levels"]) (fun _ _ _ _ _ _ us hl => match us, hl with | [_, _], _ => rfl)⟩,
    d_pool := ⟨_, _, fun_mk (st := s_pool) l_pool c_pool k_pool, PySem.W.mg_of X G a_pool, (fun_mk (st := s_pool) l_pool c_pool k_pool).binds (ps := ["script", "k"]) (fun _ _ _ _ _ _ us hl => match us, hl with | [_, _], _ => rfl)⟩,
    d_draw := ⟨_, _, fun_mk (st := s_draw) l_draw c_draw k_draw, PySem.W.mg_of X G a_draw, (fun_mk (st := s_draw) l_draw c_draw k_draw).binds (ps := ["pool", "many"]) (fun _ _ _ _ _ _ us hl => match us, hl with | [_, _], _ => rfl)⟩,
    d_levels := ⟨_, _, fun_mk (st := s_levels) l_levels c_levels k_levels, PySem.W.mg_of X G a_levels, (fun_mk (st := s_levels) l_levels c_levels k_levels).binds (ps := ["pool", "height", "limit"]) (fun _ _ _ _ _ _ us hl => match us, hl with | [_, _, _], _ => rfl)⟩,
    d_number := ⟨_, _, fun_mk (st := s_number) l_number c_number k_number, PySem.W.mg_of X G a_number, (fun_mk (st := s_number) l_number c_number k_number).binds (ps := ["value"]) (fun _ _ _ _ _ _ us hl => match us, hl with | [_], _ => rfl)⟩,
    d_same := ⟨_, _, fun_mk (st := s_same) l_same c_same k_same, PySem.W.mg_of X G a_same, (fun_mk (st := s_same) l_same c_same k_same).binds (ps := ["answer", "due"]) (fun _ _ _ _ _ _ us hl => match us, hl with | [_, _], _ => rfl)⟩,
    d_gap := ⟨_, _, fun_mk (st := s_gap) l_gap c_gap k_gap, PySem.W.mg_of X G a_gap, (fun_mk (st := s_gap) l_gap c_gap k_gap).binds (ps := ["levels", "one", "other"]) (fun _ _ _ _ _ _ us hl => match us, hl with | [_, _, _], _ => rfl)⟩,
    d_allows := ⟨_, _, fun_mk (st := s_allows) l_allows c_allows k_allows, PySem.W.mg_of X G a_allows, (fun_mk (st := s_allows) l_allows c_allows k_allows).binds (ps := ["levels", "source", "rank", "target"]) (fun _ _ _ _ _ _ us hl => match us, hl with | [_, _, _, _], _ => rfl)⟩,
    d_walk := ⟨_, _, fun_mk (st := s_walk) l_walk c_walk k_walk, PySem.W.mg_of X G a_walk, (fun_mk (st := s_walk) l_walk c_walk k_walk).binds (ps := ["pool", "made", "levels", "height"]) (fun _ _ _ _ _ _ us hl => match us, hl with | [_, _, _, _], _ => rfl)⟩,
    d_stretches := ⟨_, _, fun_mk (st := s_stretches) l_stretches c_stretches k_stretches, PySem.W.mg_of X G a_stretches, (fun_mk (st := s_stretches) l_stretches c_stretches k_stretches).binds (ps := ["made", "places", "ranks"]) (fun _ _ _ _ _ _ us hl => match us, hl with | [_, _, _], _ => rfl)⟩,
    d_law := ⟨_, _, fun_mk (st := s_law) l_law c_law k_law, PySem.W.mg_of X G a_law, (fun_mk (st := s_law) l_law c_law k_law).binds (ps := ["script"]) (fun _ _ _ _ _ _ us hl => match us, hl with | [_], _ => rfl)⟩,
    cl_Ladder := ⟨pg_Ladder, hd_Ladder, po_Ladder, sa_Ladder⟩,
    mg_Ladder := PySem.W.mg_of X G aC_Ladder,
    na_Ladder_height := na_Ladder_height,
    na_Ladder_levels := na_Ladder_levels,
    na_Ladder_top := na_Ladder_top,
    na_Ladder__counts := na_Ladder__counts,
    mk_Ladder := ⟨_, _, fun_mk (st := s_L_init) l_L_init c_L_init k_L_init, ⟨mk_Ladder, a_L_init, i_L_init, kc_Ladder⟩, PySem.W.mg_of X G aC_Ladder, (fun_mk (st := s_L_init) l_L_init c_L_init k_L_init).binds (ps := ["self", "height", "levels"]) (fun _ _ _ _ _ _ us hl => match us, hl with | [_, _, _], _ => rfl)⟩,
    mt_L_allows := ⟨_, _, fun_mk (st := s_L_allows) l_L_allows c_L_allows k_L_allows, ⟨a_L_allows, i_L_allows, k_L_allows⟩, (fun_mk (st := s_L_allows) l_L_allows c_L_allows k_L_allows).binds (ps := ["self", "source", "rank", "target"]) (fun _ _ _ _ _ _ us hl => match us, hl with | [_, _, _, _], _ => rfl)⟩,
    mt_Llets := ⟨_, _, fun_mk (st := s_Llets) l_Llets c_Llets k_Llets, ⟨a_Llets, i_Llets, k_Llets⟩, (fun_mk (st := s_Llets) l_Llets c_Llets k_Llets).binds (ps := ["self", "source", "rank", "target"]) (fun _ _ _ _ _ _ us hl => match us, hl with | [_, _, _, _], _ => rfl)⟩,
    cv_Ladder_MOST_LEVELS := ⟨_, _, ⟨cr_Ladder_MOST_LEVELS, cg_Ladder_MOST_LEVELS⟩, ⟨cf_Ladder_MOST_LEVELS, cx_Ladder_MOST_LEVELS⟩⟩ }
theorem walk {l : PySem.W.OpenLaw} {q : Program} {loose : List Str} {XP : (Str → Option Value) → Heap → Prop} {YP : World → Heap → Prop} {d : DefRec} {K : Params → PySem.W.Frag} (hn : l.most = some 63) (hdf : d.params.defaults = []) (hd : d.name = "law")
    (hY : ∀ (w : World) (h : Heap), YP w h → (K w.params).In h)
    (F : ∀ (w : World) (mg : Str → Option Value) (h : Heap), (K w.params).In h → h.Ns mainGlobals mg → ∃ c, Txt l.prog (K w.params) mg c) :
    PySem.W.WalkO q loose XP YP l.row.toRowW d [] (fun f vs => PySem.call f vs) :=
  L2.walk_of (n := 63) (k := lawLevel) (x := "script") (CX := fun _ => CX0) (sp := fun w => spLaw (K w.params)) hn (by decide) hdf ⟨rfl, by decide, by decide⟩ hY
    (fun w mg fa h KX G hmg => by
      obtain ⟨ζ, T⟩ := F w mg h KX G
      obtain ⟨f, fd, Ff, hm, b⟩ := T.d_law.ex
      rw [hd, hm] at hmg
      cases hmg
      refine ⟨fd, fun s v => ?_, fun base _ _ => ok_law T Ff⟩
      obtain ⟨oc, od, kV, doc, pm, an, cdv, ct, osl, rfl, lk, hcd⟩ := Ff.ex
      exact .of_eq rfl)
    (fun _ _ a ns hl _ hS => ⟨a, ns, rfl, hS, fun _ => rfl⟩) fun _ _ _ _ _ z => z
end LR
open PySem PySem.W PyProof.Rows in
set_option maxRecDepth 100000 in
set_option maxHeartbeats 0 in
theorem PySem.Challenge.cw_ladderreach_k17_whole_walks_of_steps_com_holds : PySem.Challenge.rw_ladderreach_k17_whole_walks_of_steps_com.Holds := by
  w_on; o_law; k_head; (case hw => w_witness2)
  k_fill
  refine LR.walk (l := PySem.Challenge.rw_ladderreach_k17_whole_walks_of_steps_com) rfl rfl rfl (fun w h Y => PySem.W.kIn_of Y) ?F
  case F =>
    intro w mg h KX G
    refine' ⟨_, LR.all_mk (P := PySem.Challenge.rw_ladderreach_k17_whole_walks_of_steps_com.prog) KX G ?z_len ?z_abs ?z_max ?z_min ?z_isinstance ?z_int ?z_bool ?z_str ?z_list ?z_tuple ?z_range ?z_enumerate ?a_check_height ?l_check_height ?c_check_height ?k_check_height ?a_check_row ?l_check_row ?c_check_row ?k_check_row ?a_check_step ?l_check_step ?c_check_step ?k_check_step ?a_check_rank ?l_check_rank ?c_check_rank ?k_check_rank ?a__counts_from ?l__counts_from ?c__counts_from ?k__counts_from ?a_pool ?l_pool ?c_pool ?k_pool ?a_draw ?l_draw ?c_draw ?k_draw ?a_levels ?l_levels ?c_levels ?k_levels ?a_number ?l_number ?c_number ?k_number ?a_same ?l_same ?c_same ?k_same ?a_gap ?l_gap ?c_gap ?k_gap ?a_allows ?l_allows ?c_allows ?k_allows ?a_walk ?l_walk ?c_walk ?k_walk ?a_stretches ?l_stretches ?c_stretches ?k_stretches ?a_law ?l_law ?c_law ?k_law ?aC_Ladder ?pg_Ladder ?hd_Ladder ?po_Ladder ?sa_Ladder ?na_Ladder_height ?na_Ladder_levels ?na_Ladder_top ?na_Ladder__counts ?mk_Ladder ?kc_Ladder ?a_L_init ?i_L_init ?l_L_init ?c_L_init ?k_L_init ?a_L_allows ?i_L_allows ?l_L_allows ?c_L_allows ?k_L_allows ?a_Llets ?i_Llets ?l_Llets ?c_Llets ?k_Llets ?cr_Ladder_MOST_LEVELS ?cg_Ladder_MOST_LEVELS ?cf_Ladder_MOST_LEVELS ?cx_Ladder_MOST_LEVELS⟩
    (case z_len => k_is)
    (case z_abs => k_is)
    (case z_max => k_is)
    (case z_min => k_is)
    (case z_isinstance => k_is)
    (case z_int => k_is)
    (case z_bool => k_is)
    (case z_str => k_is)
    (case z_list => k_is)
    (case z_tuple => k_is)
    (case z_range => k_is)
    (case z_enumerate => k_is)
    (case a_check_height => k_is)
    (case l_check_height => k_is)
    (case c_check_height => k_is)
    (case k_check_height => k_is)
    (case a_check_row => k_is)
    (case l_check_row => k_is)
    (case c_check_row => k_is)
    (case k_check_row => k_is)
    (case a_check_step => k_is)
    (case l_check_step => k_is)
    (case c_check_step => k_is)
    (case k_check_step => k_is)
    (case a_check_rank => k_is)
    (case l_check_rank => k_is)
    (case c_check_rank => k_is)
    (case k_check_rank => k_is)
    (case a__counts_from => k_is)
    (case l__counts_from => k_is)
    (case c__counts_from => k_is)
    (case k__counts_from => k_is)
    (case a_pool => k_is)
    (case l_pool => k_is)
    (case c_pool => k_is)
    (case k_pool => k_is)
    (case a_draw => k_is)
    (case l_draw => k_is)
    (case c_draw => k_is)
    (case k_draw => k_is)
    (case a_levels => k_is)
    (case l_levels => k_is)
    (case c_levels => k_is)
    (case k_levels => k_is)
    (case a_number => k_is)
    (case l_number => k_is)
    (case c_number => k_is)
    (case k_number => k_is)
    (case a_same => k_is)
    (case l_same => k_is)
    (case c_same => k_is)
    (case k_same => k_is)
    (case a_gap => k_is)
    (case l_gap => k_is)
    (case c_gap => k_is)
    (case k_gap => k_is)
    (case a_allows => k_is)
    (case l_allows => k_is)
    (case c_allows => k_is)
    (case k_allows => k_is)
    (case a_walk => k_is)
    (case l_walk => k_is)
    (case c_walk => k_is)
    (case k_walk => k_is)
    (case a_stretches => k_is)
    (case l_stretches => k_is)
    (case c_stretches => k_is)
    (case k_stretches => k_is)
    (case a_law => k_is)
    (case l_law => k_is)
    (case c_law => k_is)
    (case k_law => k_is)
    (case aC_Ladder => k_is)
    (case pg_Ladder => k_is)
    (case hd_Ladder => k_is)
    (case po_Ladder => k_is)
    (case sa_Ladder => k_is)
    (case na_Ladder_height => k_is)
    (case na_Ladder_levels => k_is)
    (case na_Ladder_top => k_is)
    (case na_Ladder__counts => k_is)
    (case mk_Ladder => k_is)
    (case kc_Ladder => k_is)
    (case a_L_init => k_is)
    (case i_L_init => k_is)
    (case l_L_init => k_is)
    (case c_L_init => k_is)
    (case k_L_init => k_is)
    (case a_L_allows => k_is)
    (case i_L_allows => k_is)
    (case l_L_allows => k_is)
    (case c_L_allows => k_is)
    (case k_L_allows => k_is)
    (case a_Llets => k_is)
    (case i_Llets => k_is)
    (case l_Llets => k_is)
    (case c_Llets => k_is)
    (case k_Llets => k_is)
    (case cr_Ladder_MOST_LEVELS => k_is)
    (case cg_Ladder_MOST_LEVELS => k_is)
    (case cf_Ladder_MOST_LEVELS => k_is)
    (case cx_Ladder_MOST_LEVELS => exact ⟨_, rfl⟩)

