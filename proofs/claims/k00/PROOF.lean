import PyProof.Rows.All
import Wide.All
import OpenK.AllK
import Wide.FinOn
import HandS.Base
import HandS.Call
import HandS.List
import HandS.Comp
import HandS.Ends
import HandS.Words
import HandS.Wide
import HandS.Iter
import HandS.Text
import HandS.IsInst
import HandS.WideBits
import HandS.TupLe
import HandS.TupAny
import HandS.Zip
import HandS.Dict
import HandS.HotCalls
import HandS.ExcIs
import HandS.ExcField
import HandS.ExcInit
import HandS.ExcBuiltin
import HandS.ExcCtx
import KE.KExcIs
import KE.KExcInit
import HandS.RaiseMore
import PyProof.StrOps2
import PySem.Challenge.RW_lengthstell_k00_whole_errors
set_option Elab.async false
set_option linter.all false
set_option maxRecDepth 100000
set_option maxHeartbeats 4000000
/-! LayA: defs that are only ever entered where no display is under way (so that what is shown is shown whole). -/
namespace Lay
open PySem PySem.Spec PyProof.Rows L2

/-- no display is under way around A -/
def Quiet (A : Around) : Prop := A.guards = some []
theorem quiet_caller : Quiet callerA := rfl
theorem Quiet.deeper {A : Around} (q : Quiet A) (env : Env) : Quiet (A.deeper env) := q

section
variable {P : Program} {w : World} {K : PySem.W.Frag} {mg : Str → Option Value} {base : Heap}

/-- a def's promise, for quiet places alone -/
structure FnQ (P : Program) (w : World) (K : PySem.W.Frag) (mg : Str → Option Value) (base : Heap) (k : Nat) (f : Addr) (fd : FuncData) (ps : List Str) (sp : Sp) : Prop where
  many : ∀ vs H Q E, sp vs H Q E → vs.length = ps.length
  goes : ∀ (A : Around) (outer : List Env) (s : Shared) (H : Hp) (args : Args) (us : List Value) (vs : List V) (Q : VK) (E : XK), Quiet A → Room k A →
    Env0 P w K mg base A outer s H → BindsTo s fd args (ps.zip us) → Vals vs us → sp vs H Q E →
    codeAny (model P w) A (.call (.ref f) args) (CR CX0 outer P w H s Q E) s

theorem FnQ.of {k : Nat} {f : Addr} {fd : FuncData} {ps : List Str} {sp : Sp} (F : FnOk P w K mg base CX0 k f fd ps sp) : FnQ P w K mg base k f fd ps sp :=
  ⟨F.len, fun A o s H ar us vs Q E _ hr he hb hv hs => F.run A o s H ar us vs Q E hr he hb hv hs⟩

/-- a def by its body, entered where it is quiet -/
theorem quiet_def {x qual : Str} {st : Stmt} {f : Addr} {fd : FuncData} {N ps : List Str} {k : Nat} {sp : Sp} (F : Fun K x qual st f fd) (S : FnScope N ps (defScope st))
    (many : ∀ vs H Q E, sp vs H Q E → vs.length = ps.length)
    (body : ∀ (cdv : Value) (A : Around) (outer : List Env) (s : Shared) (H : Hp) (vs : List V) (Q : VK) (E : XK), Quiet A → Room k (A.deeper (envOfC qual (defScope st) s.heap.objs.size f cdv)) → sp vs H Q E →
      ∃ t, PSs (cxOf CX0 P w K mg base N qual (defScope st) f cdv A outer s H E).nox (defBody st) t ∧ t { nx := fun _ H' => Q .non H', rt := Q } (start N vs) H) :
    FnQ P w K mg base (k + 1) f fd ps sp := by
  obtain ⟨oc, od, kV, doc, pm, an, cdv, ct, osl, rfl, lk, hcd⟩ := F.ex
  refine ⟨many, fun A outer s H args us vs Q E hq hr he hb hv hs => ?_⟩
  -- the promise at this A alone, as a promise for all places: elsewhere nothing is asked
  have here : FnOk P w K mg base CX0 (k + 1) f (PySem.W.fnOf x qual (defArgs st) (defBody st) (defScope st) .none kV doc pm an cdv ct) ps sp → codeAny (model P w) A (.call (.ref f) args) (CR CX0 outer P w H s Q E) s :=
    fun G => G.run A outer s H args us vs Q E hr he hb hv hs
  have hl := many _ _ _ _ hs
  have KX : K.In s.heap := he.mod.kin.keeps fun b o e => (he.bs b o e).1
  have lim : s.heap.NoLimit := he.mod.nolimit.keeps fun b o e => (he.bs b o e).1
  have kinds : ∀ y ∈ ps.zip us, (defScope st).names.lookup y.1 = some .local ∨ ((defScope st).names.lookup y.1 = some .cell ∧ ((cellsFrom (s.heap.objs.size + 1) (defScope st).names []).lookup y.1).isSome = true) := by
    intro y hy
    rcases S.par y.1 (List.of_mem_zip hy).1 with q | q
    · exact Or.inl q
    · exact Or.inr ⟨q, PySem.W.cellsFrom_some _ _ _ (Or.inl q)⟩
  apply codeAny_call_function hr.depth (KX _ _ lk) rfl S.co S.gen rfl (PySem.W.codeRec_of KX hcd)
  apply hb
  apply wpAny_newFunctionEnv_cells S.kind kinds
  intro env henv s1 x1
  subst henv
  refine ⟨lim.keeps x1.toInCall.keep, ?_⟩
  apply codeAny_func
  obtain ⟨t, ht, q0⟩ := body cdv A outer s H vs Q E hq (hr.deeper _) hs
  have I : Inv (cxOf CX0 P w K mg base N qual (defScope st) f cdv A outer s H E) [] (start N vs) H s1 := inv_start S hr.hd he hl hv x1
  refine wpAny_mono (ht.nox.run [] s1 (start N vs) H _ I q0) (fun fl s2 h2 => ?_) (fun e s2 h2 => h2)
  cases fl with
  | next =>
    obtain ⟨a, b, J, z⟩ := h2
    exact ⟨V.non, b, J.os, J.bare, J.base, J.hok, rfl, z⟩
  | ret u =>
    obtain ⟨v, a, b, J, rv, z⟩ := h2
    exact ⟨v, b, J.os, J.bare, J.base, J.hok, rv, z⟩
  | brk =>
    obtain ⟨a, b, J, z⟩ := h2
    exact z.elim
  | cont =>
    obtain ⟨a, b, J, z⟩ := h2
    exact z.elim
end

section
variable {X : Cx} {k : Nat} {f : Addr} {fd : FuncData} {ps : List Str} {sp : Sp} {x : Str} {p pos : Pos} {e : Expr} {es : List Expr} {t : TA}
theorem quiet_run {pins : List (Addr × Obj)} {σ : L2.St} {H : Hp} {s : Shared} {Q : VK} {us : List Value} {vs : List V} (F : FnQ X.prog X.w X.K X.mg X.base k f fd ps sp) (hq : Quiet X.A) (hr : Room k X.A) (hb : Binds X.K fd ps [])
    (I : Inv X pins σ H s) (r : Vals vs us) (h : sp vs H Q E0) : wpAny (model X.prog X.w) X.A (call (.ref f) us) (EP X pins σ Q) X.xe s := by
  have hl : (us ++ []).length = ps.length := by
    rw [List.append_nil, ← r.length]
    exact F.many _ _ _ _ h
  have bb := hb s us I.kIn hl
  rw [List.append_nil] at bb
  refine wpAny_call (codeAny_mono (F.goes X.A X.stack s H ⟨us, []⟩ us vs Q E0 hq hr I.env0 bb r h) fun res s2 hh => ?_)
  cases res with
  | error z => exact False.elim hh
  | ok fl =>
    cases fl with
    | ret u => exact I.after hh
    | next => exact False.elim hh
    | brk => exact False.elim hh
    | cont => exact False.elim hh
def tCl (sp : Sp) (t : TA) : TE := fun σ H Q => t σ H fun vs H1 => sp vs H1 Q E0
/-- f(e, ..) where it is quiet -/
theorem qcall (F : FnQ X.prog X.w X.K X.mg X.base k f fd ps sp) (hq : Quiet X.A) (hr : Room k X.A) (hg : Gl X x) (hm : X.mg x = some (.ref f)) (hk : PySem.W.keepIn X.K (.ref f) = true) (hb : Binds X.K fd ps [])
    (ha : PA X (e :: es) t) (hdb : (x == ("__debug__" : Str)) = false := by decide) (he : starEach (e :: es) X.env = (false, eval e X.env) :: starEach es X.env := by rfl) (hpl : (backTo pos (starEach es X.env)).any (·.1) = false := by rfl) :
    PE X (.Call (.Name x p) (e :: es) [] pos) (tCl sp t) := by
  refine ⟨fun pins s σ H Q I h => wpAny_Call_Name_kw (ld_glob I hg hm ?_ hdb)⟩
  refine PySem.W.callWith_K (h₀ := X.base) I.ok.mod.kin hk (thn (ha.run pos pins s σ H _ I h) ?_) he hpl
  rintro us s1 ⟨vs, H1, I1, r, q⟩
  exact ⟨I1.kIn, quiet_run F hq hr hb I1 r q⟩
theorem qcall0 (F : FnQ X.prog X.w X.K X.mg X.base k f fd ps sp) (hq : Quiet X.A) (hr : Room k X.A) (hg : Gl X x) (hm : X.mg x = some (.ref f)) (hk : PySem.W.keepIn X.K (.ref f) = true) (hb : Binds X.K fd ps [])
    (hdb : (x == ("__debug__" : Str)) = false := by decide) : PE X (.Call (.Name x p) [] [] pos) (tCl sp tNil) :=
  ⟨fun pins s σ H Q I h => wpAny_Call_Name_kw (ld_glob I hg hm (PySem.W.callWith_K0 I.kIn hk (quiet_run (us := []) F hq hr hb I .nil h)) hdb)⟩

/-- repr(x) of whole data -/
def rRepr (K : PySem.W.Frag) : List V → Hp → VK → Prop := fun xs H Q => ∃ (a : Addr) (d : PyData), xs = [.ref a] ∧ Dp K H (.ref a) d ∧ d.showable = true ∧ d.hasDict = false ∧ d.depth ≤ 20 ∧ d.shown.length ≤ sizeLine ∧ Q (.str d.shown) H
theorem call_repr (hq : Quiet X.A) (hu : X.A.units + 64 < cLine) : CallR X (.builtin "repr") (rRepr X.K) := by
  intro pins s σ H xs us Q I r h
  obtain ⟨a, d, rfl, hd, hs, hdc, hdp, hsz, q⟩ := h
  cases r with
  | cons r1 r2 =>
    cases r2
    cases r1
    obtain ⟨as, rd⟩ := Dp.reads I d (.ref a) (.ref a) hd rfl
    refine repr_of_reads' rd hs (fun z => by rw [hdc] at z; cases z) hq (by omega) (fun _ _ z => z) (fun h' u tk hk => ?_) hsz
    exact ⟨.str d.shown, H, I.kept hk, ⟨u, rfl⟩, q⟩
/-- powers of any size below 2 ^ 27 bits -/
def CPowW (i j : Int) : Prop := 0 ≤ j ∧ (Builtin.Int.intBits i : Int) * j ≤ 2 ^ 27
theorem op_powW : OpR X (binaryOp .Pow) (rI CPowW fun i j => .int (i ^ j.toNat)) := opI fun _ _ _ _ _ _ _ hc q => pow_int hc.1 hc.2 q
end

/-! ### the end -/
theorem law_goes {P : Program} {w : World} {K : PySem.W.Frag} {mg mb : Str → Option Value} {k : Nat} {fa a : Addr} {fd : FuncData} {x : Str} {sp : Sp} {s1 : Shared} {vs : List Value} {ns : List Int}
    (KX : K.In s1.heap) (hns : s1.heap.Ns mainGlobals mg) (hb : s1.heap.Ns builtinsNs mb) (hbb : ∀ x : Str, x ≠ "__name__" → mb x = bootBuiltins x) (hlim : s1.heap.NoLimit) (hg : s1.gens = #[])
    (ha : s1.heap.get? a = some { cls := .type "list", data := .seq vs.toArray }) (hi : IntsAre vs ns) (hl : ns.length ≤ sizeLine) (hr : Room k callerA)
    (F : ∀ base : Heap, K.In base → base.Ns mainGlobals mg → FnQ P w K mg base k fa fd [x] sp) (hbind : ∀ (s : Shared) (u : Value), BindsTo s fd ⟨[u], []⟩ [(x, u)])
    (hsp : ∀ H : Hp, SqL K H a (ns.map V.int) → sp [.ref a] H (fun v _ => v = .bl true) E0) :
    codeAny (model P w) callerA (.call (.ref fa) ⟨[.ref a], []⟩) (fun r s' => r = .ok (.ret (.bool true)) ∧ OldK s1.heap s'.heap ∧ s'.os = s1.os ∧ AllBare s'.gens) s1 := by
  have rv := vals_ints hi
  -- from any abstract heap that tracks nothing, or the script alone, as a known object
  have from_ : ∀ H : Hp, SqL K H a (ns.map V.int) → HOk P w H s1.heap → (∀ b u, H b = some u → b = a ∧ K.lookup a = none ∧ u = .frz { cls := .type "list", data := .seq vs.toArray } (.lst (ns.map V.int))) →
      codeAny (model P w) callerA (.call (.ref fa) ⟨[.ref a], []⟩) (fun r s' => r = .ok (.ret (.bool true)) ∧ OldK s1.heap s'.heap ∧ s'.os = s1.os ∧ AllBare s'.gens) s1 := by
    intro H hS hok hT
    -- what is a dict, or of the written part, is not tracked
    have free1 : ∀ {b : Addr} {o : Obj}, s1.heap.get? b = some o → (∃ es ep, o.data = .dict es ep) → H b = none := by
      intro b o e hd
      cases q : H b with
      | none => rfl
      | some u =>
        obtain ⟨es, ep, hd⟩ := hd
        obtain ⟨rfl, -, -⟩ := hT b u q
        rw [ha] at e
        cases e
        cases hd
    have free2 : ∀ {b : Addr} {o : Obj}, K.lookup b = some o → H b = none := by
      intro b o e
      cases q : H b with
      | none => rfl
      | some u =>
        obtain ⟨rfl, z, -⟩ := hT b u q
        rw [z] at e
        cases e
    have ns2 : ∀ {b : Addr} {m : Str → Option Value}, s1.heap.Ns b m → (hidT s1.heap H).Ns b m := by
      rintro b m ⟨o, es, ep, e, d, r⟩
      exact ⟨o, es, ep, hidT_get e (free1 e ⟨es, ep, d⟩), d, r⟩
    have kb : K.In (hidT s1.heap H) := fun b o e => hidT_get (KX b o e) (free2 e)
    have md : Mod K mg (hidT s1.heap H) := by
      obtain ⟨mc, l1, l2⟩ := hlim
      exact ⟨kb, ns2 hns, ⟨mb, ns2 hb, hbb⟩, ⟨mc, ns2 l1, l2⟩⟩
    have en : Env0 P w K mg (hidT s1.heap H) callerA [] s1 H :=
      { frames := rfl, mod := md, bs := fun b o e => of_hidT e, bsz := Nat.le_of_eq (hidT_size _ _), funs := trivial, frf := (fun b hb => nomatch hb), hok := hok, bare := AllBare.of_eq hg }
    have run := (F _ kb (ns2 hns)).goes callerA [] s1 H ⟨[.ref a], []⟩ [.ref a] [.ref a] _ E0 quiet_caller hr en (hbind s1 (.ref a)) (.cons rfl .nil) (hsp H hS)
    refine codeAny_mono run fun r s2 h => ?_
    cases r with
    | error e => exact False.elim h
    | ok fl =>
      cases fl with
      | next => exact False.elim h
      | brk => exact False.elim h
      | cont => exact False.elim h
      | ret u =>
        obtain ⟨v, H2, os, bare, un, hok2, r2, rfl⟩ := h
        cases r2
        refine ⟨rfl, OldK.of_keep fun b o e => ?_, os, bare⟩
        cases q : H b with
        | none => exact un.keep b o e q (fun z => nomatch z) (fun z => nomatch z)
        | some u =>
          obtain ⟨rfl, -, rfl⟩ := hT b u q
          have k1 := (hok b _ q).1
          have k2 := (hok2 b _ (un.frzs b _ _ q)).1
          rw [e] at k1
          rw [k2, k1]
  cases hk : K.lookup a with
  | some o =>
    have e := KX a o hk
    rw [ha] at e
    cases e
    refine from_ (fun _ => none) (Or.inr ⟨_, vs.toArray, _, hk, rfl, rfl, rfl, ?_, ?_⟩) (fun b u z => nomatch z) (fun b u z => nomatch z)
    · rw [List.size_toArray, hi.length]
      exact hl
    · simpa using rv
  | none =>
    have h0 : upd (fun _ => none) a (.frz { cls := .type "list", data := .seq vs.toArray } (.lst (ns.map V.int))) a = some (.frz { cls := .type "list", data := .seq vs.toArray } (.lst (ns.map V.int))) := upd_same
    have one : ∀ b u, upd (fun _ => none) a (.frz { cls := .type "list", data := .seq vs.toArray } (.lst (ns.map V.int))) b = some u → b = a ∧ K.lookup a = none ∧ u = .frz { cls := .type "list", data := .seq vs.toArray } (.lst (ns.map V.int)) := by
      intro b u z
      by_cases hb : b = a
      · subst hb
        rw [h0] at z
        exact ⟨rfl, hk, (Option.some.inj z).symm⟩
      · rw [upd_ne hb] at z
        cases z
    refine from_ _ (Or.inl (Or.inr ⟨_, h0⟩)) (fun b u z => ?_) one
    obtain ⟨rfl, -, rfl⟩ := one b u z
    refine ⟨ha, ?_, vs, _, rv, ha⟩
    rw [List.length_map]
    exact hl
/-- the goal that k_head leaves (case hc) -/
theorem law_walks {l : PySem.W.OpenLaw} {n k : Nat} {q : Program} {loose : List Str} {XP : (Str → Option Value) → Heap → Prop} {YP : World → Heap → Prop} {d : DefRec} {K : Params → PySem.W.Frag} {sp : PySem.W.Frag → Sp} {x : Str}
    (hn : l.most = some n) (hn2 : n ≤ sizeLine) (hdf : d.params.defaults = []) (hr : Room k callerA)
    (hY : ∀ (w : World) (h : Heap), YP w h → (K w.params).In h)
    (F : ∀ (w : World) (mg : Str → Option Value) (fa : Addr) (h : Heap), (K w.params).In h → h.Ns mainGlobals mg → mg d.name = some (.ref fa) →
      ∃ fd : FuncData, (∀ (s : Shared) (u : Value), BindsTo s fd ⟨[u], []⟩ [(x, u)]) ∧
        ∀ base : Heap, (K w.params).In base → base.Ns mainGlobals mg → FnQ l.prog w (K w.params) mg base k fa fd [x] (sp (K w.params)))
    (hsp : ∀ (K : PySem.W.Frag) (H : Hp) (a : Addr) (ns : List Int), ns.length ≤ n → SqL K H a (ns.map V.int) → sp K [.ref a] H (fun v _ => v = .bl true) E0) :
    PySem.W.WalkO q loose XP YP l.row.toRowW d [] (fun f vs => PySem.call f vs) := by
  refine Att.attach_call hn hdf ?_
  intro w s0 s1 mg mb fa o pm cd doc a vs ns G Y ho hd hcd hmg hobj hints hlen hg
  have KX := hY w _ Y
  obtain ⟨fd, hb, hF⟩ := F w mg fa _ KX G.T.g hmg
  exact law_goes KX G.T.g G.T.b G.T.builtins G.T.nolimit hg hobj hints (Nat.le_trans hlen hn2) hr hF hb (fun H hS => hsp (K w.params) H a ns hlen hS)
end Lay
namespace Lay
open PySem PySem.Spec PyProof.Rows L2

/-! ### a def of the text that callers may use -/
structure DefAt (K : PySem.W.Frag) (mg : Str → Option Value) (x : Str) (st : Stmt) (ps : List Str) : Prop where
  ex : ∃ (f : Addr) (fd : FuncData), Fun K x x st f fd ∧ mg x = some (.ref f) ∧ Binds K fd ps []
structure Cal (P : Program) (w : World) (K : PySem.W.Frag) (mg : Str → Option Value) (base : Heap) (x : Str) (k : Nat) (ps : List Str) (sp : Sp) : Prop where
  ex : ∃ (f : Addr) (fd : FuncData), FnQ P w K mg base k f fd ps sp ∧ mg x = some (.ref f) ∧ PySem.W.keepIn K (.ref f) = true ∧ Binds K fd ps []
theorem Cal.lift {P : Program} {w : World} {K : PySem.W.Frag} {mg : Str → Option Value} {base : Heap} {x : Str} {j k : Nat} {ps : List Str} {sp : Sp} (c : Cal P w K mg base x j ps sp) (h : j ≤ k) : Cal P w K mg base x k ps sp := by
  obtain ⟨f, fd, F, m, kp, b⟩ := c.ex
  exact ⟨f, fd, ⟨F.many, fun A o s H ar us vs Q E hq hr he hb hv hs => F.goes A o s H ar us vs Q E hq (hr.mono h) he hb hv hs⟩, m, kp, b⟩
section
variable {P : Program} {w : World} {K : PySem.W.Frag} {mg : Str → Option Value} {base : Heap}
theorem cal_of {x : Str} {st : Stmt} {N ps : List Str} {k : Nat} {sp : Sp} (D : DefAt K mg x st ps) (S : FnScope N ps (defScope st))
    (many : ∀ vs H Q E, sp vs H Q E → vs.length = ps.length)
    (body : ∀ (f : Addr) (cdv : Value) (A : Around) (outer : List Env) (s : Shared) (H : Hp) (vs : List V) (Q : VK) (E : XK), Quiet A → Room k (A.deeper (envOfC x (defScope st) s.heap.objs.size f cdv)) → sp vs H Q E →
      ∃ t, PSs (cxOf CX0 P w K mg base N x (defScope st) f cdv A outer s H E).nox (defBody st) t ∧ t { nx := fun _ H' => Q .non H', rt := Q } (start N vs) H) :
    Cal P w K mg base x (k + 1) ps sp := by
  obtain ⟨f, fd, F, m, b⟩ := D.ex
  exact ⟨f, fd, quiet_def F S many (body f), m, F.kp, b⟩
theorem Cal.fn {x : Str} {k : Nat} {ps : List Str} {sp : Sp} (c : Cal P w K mg base x k ps sp) {fa : Addr} (h : mg x = some (.ref fa)) : ∃ fd, FnQ P w K mg base k fa fd ps sp := by
  obtain ⟨f, fd, F, m, -, -⟩ := c.ex
  rw [m] at h
  cases h
  exact ⟨fd, F⟩
end
section
variable {X : Cx} {k : Nat} {ps : List Str} {sp : Sp} {x : Str} {p pos : Pos} {e : Expr} {es : List Expr} {t : TA}
theorem qc (c : Cal X.prog X.w X.K X.mg X.base x k ps sp) (hq : Quiet X.A) (hr : Room k X.A) (hg : Gl X x)
    (ha : PA X (e :: es) t) (hdb : (x == ("__debug__" : Str)) = false := by decide) (he : starEach (e :: es) X.env = (false, eval e X.env) :: starEach es X.env := by rfl) (hpl : (backTo pos (starEach es X.env)).any (·.1) = false := by rfl) :
    PE X (.Call (.Name x p) (e :: es) [] pos) (tCl sp t) := by
  obtain ⟨f, fd, F, m, kp, b⟩ := c.ex
  exact qcall F hq hr hg m kp b ha hdb he hpl
theorem qc0 (c : Cal X.prog X.w X.K X.mg X.base x k ps sp) (hq : Quiet X.A) (hr : Room k X.A) (hg : Gl X x)
    (hdb : (x == ("__debug__" : Str)) = false := by decide) : PE X (.Call (.Name x p) [] [] pos) (tCl sp tNil) := by
  obtain ⟨f, fd, F, m, kp, b⟩ := c.ex
  exact qcall0 F hq hr hg m kp b hdb
end

/-! ### reading, step by step -/
section
variable {σ : L2.St} {H : Hp} {Q : VK} {ta tb tc te tv : TE} {D : Ends} {v x y : V} {K : PySem.W.Frag}
theorem rd_var {i : Nat} (h : σ[i]? = some (some v)) (q : Q v H) : tVar i σ H Q := ⟨v, h, q⟩
theorem rd_c (q : Q v H) : tC v σ H Q := q
theorem rd_op {r : R2} (q : ta σ H (fun x H1 => tb σ H1 fun y H2 => r x y H2 Q)) : tOp r ta tb σ H Q := q
theorem rd_un {r : V → Hp → VK → Prop} (q : ta σ H (fun x H1 => r x H1 Q)) : tUn r ta σ H Q := q
theorem rd_CB {r : List V → Hp → VK → Prop} {t : TA} (q : t σ H (fun vs H1 => r vs H1 Q)) : tCB r t σ H Q := q
theorem rd_Cl {sp : Sp} {t : TA} (q : t σ H (fun vs H1 => sp vs H1 Q E0)) : tCl sp t σ H Q := q
theorem rd_nil {R : List V → Hp → Prop} (q : R [] H) : tNil σ H R := q
theorem rd_cons {t : TA} {R : List V → Hp → Prop} (q : te σ H (fun x H1 => t σ H1 fun xs H2 => R (x :: xs) H2)) : tCons te t σ H R := q
theorem rd_seq {t u : TS} (q : t { D with nx := u D } σ H) : tSeq t u D σ H := q
theorem rd_next (q : D.nx σ H) : tNext D σ H := q
theorem rd_asg {g : TG} (q : te σ H (fun x H1 => g x σ H1 D.nx)) : tAsg te g D σ H := q
theorem rd_name {i : Nat} {R : L2.St → Hp → Prop} (q : R (σ.set i (some v)) H) : gName i v σ H R := q
theorem rd_ret (q : te σ H D.rt) : tRet te D σ H := q
theorem rd_drop (q : te σ H (fun _ H1 => D.nx σ H1)) : tDrop te D σ H := q
theorem rd_ifS {c : TT} {t u : TS} (q : c σ H (fun b H1 => if b = true then t D σ H1 else u D σ H1)) : tIfS c t u D σ H := q
theorem rd_test {R : Bool → Hp → Prop} (q : te σ H (fun x H' => ∃ k, x = .bl k ∧ R k H')) : tTest te σ H R := q
theorem rd_B {R : Bool → Hp → Prop} (q : te σ H (fun x H' => ∃ k, x = .bl k ∧ R k H')) : tB te σ H R := q
theorem rd_bl {b : Bool} {R : Bool → Prop} (q : R b) : ∃ k, V.bl b = V.bl k ∧ R k := ⟨b, rfl, q⟩
theorem rd_not {t : TT} {R : Bool → Hp → Prop} (q : t σ H (fun c H1 => R (!c) H1)) : tNot t σ H R := q
theorem rd_and {t u : TT} {R : Bool → Hp → Prop} (q : t σ H (fun c H1 => if c = true then u σ H1 R else R false H1)) : tAnd t u σ H R := q
theorem rd_or {t u : TT} {R : Bool → Hp → Prop} (q : t σ H (fun c H1 => if c = true then R true H1 else u σ H1 R)) : tOr t u σ H R := q
theorem rd_andV (q : ta σ H (fun x H1 => ∃ c, x = .bl c ∧ if c = true then tb σ H1 Q else Q (.bl false) H1)) : tAndV ta tb σ H Q := q
theorem rd_orV (q : ta σ H (fun x H1 => ∃ c, x = .bl c ∧ if c = true then Q (.bl true) H1 else tb σ H1 Q)) : tOrV ta tb σ H Q := q
theorem rd_notV (q : ta σ H (fun x H1 => ∃ c, x = .bl c ∧ Q (.bl (!c)) H1)) : tNotV ta σ H Q := q
theorem rd_ifE {t : TT} (q : t σ H (fun c H1 => if c = true then ta σ H1 Q else tb σ H1 Q)) : tIf t ta tb σ H Q := q
theorem rd_chain {r r' : R2} (q : ta σ H (fun x H1 => tb σ H1 fun y H2 => r x y H2 fun z H3 => ∃ k, z = .bl k ∧ (if k = true then tc σ H3 fun w' H4 => r' y w' H4 Q else Q (.bl false) H3))) : tChain r r' ta tb tc σ H Q := q
theorem rd_tup {t : TA} (q : t σ H (fun xs H1 => xs.length ≤ sizeLine ∧ ∀ p, H1 p = none → Q (.ref p) (upd H1 p (.tup xs)))) : tTup t σ H Q := q
theorem rd_lst {t : TA} (q : t σ H (fun xs H1 => xs.length ≤ sizeLine ∧ ∀ p, H1 p = none → Q (.ref p) (upd H1 p (.lst xs)))) : tLst t σ H Q := q
theorem rd_new {n : Nat} {R : Addr → Prop} (hn : n ≤ 1000) (q : ∀ p, H p = none → R p) : n ≤ sizeLine ∧ ∀ p, H p = none → R p := ⟨Nat.le_trans hn (by decide), q⟩
/-- the ifs -/
theorem rd_ite {p : Prop} [Decidable p] {A B : Prop} (h1 : p → A) (h2 : ¬ p → B) : if decide p = true then A else B := by
  by_cases h : p
  · rw [decide_eq_true h]
    exact iteT (h1 h)
  · rw [decide_eq_false h]
    exact iteF (h2 h)
theorem rd_iteN {p : Prop} [Decidable p] {A B : Prop} (h1 : ¬ p → A) (h2 : p → B) : if (!decide p) = true then A else B := by
  by_cases h : p
  · rw [decide_eq_true h]
    exact iteF (h2 h)
  · rw [decide_eq_false h]
    exact iteT (h1 h)
theorem rd_ifb {b : Bool} {A B : Prop} (h1 : b = true → A) (h2 : b = false → B) : if b = true then A else B := by
  cases b with
  | true => exact iteT (h1 rfl)
  | false => exact iteF (h2 rfl)
/-- ints -/
theorem rd_add {i j : Int} (q : Q (.int (i + j)) H) : rI0 (fun i j => .int (i + j)) (.int i) (.int j) H Q := ⟨i, j, rfl, rfl, q⟩
theorem rd_sub {i j : Int} (q : Q (.int (i - j)) H) : rI0 (fun i j => .int (i - j)) (.int i) (.int j) H Q := ⟨i, j, rfl, rfl, q⟩
theorem rd_lt {i j : Int} (q : Q (.bl (decide (i < j))) H) : rI0 (fun i j => .bl (decide (i < j))) (.int i) (.int j) H Q := ⟨i, j, rfl, rfl, q⟩
theorem rd_le {i j : Int} (q : Q (.bl (decide (i ≤ j))) H) : rI0 (fun i j => .bl (decide (i ≤ j))) (.int i) (.int j) H Q := ⟨i, j, rfl, rfl, q⟩
theorem rd_gt {i j : Int} (q : Q (.bl (decide (j < i))) H) : rI0 (fun i j => .bl (decide (j < i))) (.int i) (.int j) H Q := ⟨i, j, rfl, rfl, q⟩
theorem rd_ge {i j : Int} (q : Q (.bl (decide (j ≤ i))) H) : rI0 (fun i j => .bl (decide (j ≤ i))) (.int i) (.int j) H Q := ⟨i, j, rfl, rfl, q⟩
theorem rd_neg {i : Int} (q : Q (.int (-i)) H) : rU (fun i => .int (-i)) (.int i) H Q := ⟨i, rfl, q⟩
theorem rd_mul {i j : Int} (h : CMul i j) (q : Q (.int (i * j)) H) : rI CMul (fun i j => .int (i * j)) (.int i) (.int j) H Q := ⟨i, j, rfl, rfl, h, q⟩
theorem rd_mulW {i j : Int} (h : CMulW i j) (q : Q (.int (i * j)) H) : rI CMulW (fun i j => .int (i * j)) (.int i) (.int j) H Q := ⟨i, j, rfl, rfl, h, q⟩
theorem rd_pow {i j : Int} (h : CPow i j) (q : Q (.int (i ^ j.toNat)) H) : rI CPow (fun i j => .int (i ^ j.toNat)) (.int i) (.int j) H Q := ⟨i, j, rfl, rfl, h, q⟩
theorem rd_powW {i j : Int} (h : CPowW i j) (q : Q (.int (i ^ j.toNat)) H) : rI CPowW (fun i j => .int (i ^ j.toNat)) (.int i) (.int j) H Q := ⟨i, j, rfl, rfl, h, q⟩
theorem rd_mod {i j : Int} (h : 0 < j) (q : Q (.int (i % j)) H) : rI (fun _ j => 0 < j) (fun i j => .int (i % j)) (.int i) (.int j) H Q := ⟨i, j, rfl, rfl, h, q⟩
theorem rd_fdivW {i j : Int} (h : CDivW i j) (q : Q (.int (i / j)) H) : rI CDivW (fun i j => .int (i / j)) (.int i) (.int j) H Q := ⟨i, j, rfl, rfl, h, q⟩
theorem rd_eq (h : scal x y = true) (q : Q (.bl (decide (x = y))) H) : rEq x y H Q := ⟨h, q⟩
theorem rd_ne (h : scal x y = true) (q : Q (.bl (!decide (x = y))) H) : rNe x y H Q := ⟨h, q⟩
theorem int_eq {i j : Int} : decide (V.int i = V.int j) = decide (i = j) := by
  by_cases h : i = j
  · subst h
    rw [decide_eq_true rfl, decide_eq_true rfl]
  · rw [decide_eq_false h, decide_eq_false (fun z => h (V.int.inj z))]
theorem rd_eqI {i j : Int} (q : Q (.bl (decide (i = j))) H) : rEq (.int i) (.int j) H Q := ⟨rfl, by rw [int_eq]; exact q⟩
theorem rd_neI {i j : Int} (q : Q (.bl (!decide (i = j))) H) : rNe (.int i) (.int j) H Q := ⟨rfl, by rw [int_eq]; exact q⟩
theorem rd_ixL {p : Addr} {xs : List V} {i : Int} (h : SqL K H p xs) (ha : atI xs i = some v) (q : Q v H) : rIxL K (.ref p) (.int i) H Q := ⟨p, xs, i, v, rfl, rfl, h, ha, q⟩
theorem rd_ixT {p : Addr} {xs : List V} {i : Int} (h : SqT K H p xs) (ha : atI xs i = some v) (q : Q v H) : rIxT K (.ref p) (.int i) H Q := ⟨p, xs, i, v, rfl, rfl, h, ha, q⟩
end

/-! ### relations by name -/
def rInt : List V → Hp → VK → Prop := fun xs H Q => (∃ i, xs = [.int i] ∧ Q (.int i) H) ∨ ∃ k, xs = [.bl k] ∧ Q (.int (if k then 1 else 0)) H
def rAbs : List V → Hp → VK → Prop := fun xs H Q => ∃ i, xs = [.int i] ∧ Q (.int (if i < 0 then -i else i)) H
def rMx2 : List V → Hp → VK → Prop := fun xs H Q => ∃ i j, xs = [.int i, .int j] ∧ Q (.int (if j > i then j else i)) H
def rMn2 : List V → Hp → VK → Prop := fun xs H Q => ∃ i j, xs = [.int i, .int j] ∧ Q (.int (if j < i then j else i)) H
def rLenQ (K : PySem.W.Frag) : List V → Hp → VK → Prop := fun xs H Q => ∃ p ys, xs = [.ref p] ∧ (SqL K H p ys ∨ SqT K H p ys) ∧ Q (.int ys.length) H
def rLenZ : List V → Hp → VK → Prop := fun xs H Q => ∃ z, xs = [.str z] ∧ z.length ≤ sizeLine ∧ Q (.int z.length) H
def rLenA (K : PySem.W.Frag) : List V → Hp → VK → Prop := fun xs H Q => rLenQ K xs H Q ∨ rLenZ xs H Q
def rTupOf (K : PySem.W.Frag) : List V → Hp → VK → Prop := fun xs H Q => ∃ p ys, xs = [.ref p] ∧ ((SqL K H p ys ∧ ∀ l, H l = none → Q (.ref l) (upd H l (.tup ys))) ∨ (SqT K H p ys ∧ Q (.ref p) H))
def rLstOf (K : PySem.W.Frag) : List V → Hp → VK → Prop := fun xs H Q => ∃ p ys, xs = [.ref p] ∧ (SqL K H p ys ∨ SqT K H p ys) ∧ ∀ l, H l = none → Q (.ref l) (upd H l (.lst ys))
def rLtZ : R2 := fun x y H Q => ∃ i j, x = .str i ∧ y = .str j ∧ Q (.bl (decide (i.cps.toList < j.cps.toList))) H
def rLeZ : R2 := fun x y H Q => ∃ i j, x = .str i ∧ y = .str j ∧ Q (.bl (!decide (j.cps.toList < i.cps.toList))) H
def rGtZ : R2 := fun x y H Q => ∃ i j, x = .str i ∧ y = .str j ∧ Q (.bl (decide (j.cps.toList < i.cps.toList))) H
def rGeZ : R2 := fun x y H Q => ∃ i j, x = .str i ∧ y = .str j ∧ Q (.bl (!decide (i.cps.toList < j.cps.toList))) H
def rCatZ : R2 := fun x y H Q => ∃ i j, x = .str i ∧ y = .str j ∧ i.length + j.length ≤ sizeLine ∧ Q (.str (i ++ j)) H
section
variable {X : Cx}
theorem q_int : CallR X (.type "int") rInt := call_int1
theorem q_abs : CallR X (.builtin "abs") rAbs := call_abs
theorem q_max2 (hc : X.calm = true) : CallR X (.builtin "max") rMx2 := call_max2 hc
theorem q_min2 (hc : X.calm = true) : CallR X (.builtin "min") rMn2 := call_min2 hc
theorem q_lenQ : CallR X (.builtin "len") (rLenQ X.K) := call_len_seq
theorem q_lenZ : CallR X (.builtin "len") rLenZ := call_len_str
theorem q_lenA : CallR X (.builtin "len") (rLenA X.K) := CallR.or q_lenQ q_lenZ
theorem q_tupOf : CallR X (.type "tuple") (rTupOf X.K) := call_tuple_of
theorem q_lstOf : CallR X (.type "list") (rLstOf X.K) := call_list_of
theorem q_ltZ : OpR X (compareOp .Lt) rLtZ := op_lt_str
theorem q_leZ : OpR X (compareOp .LtE) rLeZ := op_le_str
theorem q_gtZ : OpR X (compareOp .Gt) rGtZ := op_gt_str
theorem q_geZ : OpR X (compareOp .GtE) rGeZ := op_ge_str
theorem q_catZ : OpR X (binaryOp .Add) rCatZ := op_add_str
end
section
variable {H : Hp} {Q : VK} {K : PySem.W.Frag}
theorem rd_int1 {i : Int} (q : Q (.int i) H) : rInt [V.int i] H Q := Or.inl ⟨i, rfl, q⟩
theorem rd_int1b {b : Bool} (q : Q (.int (if b then 1 else 0)) H) : rInt [V.bl b] H Q := Or.inr ⟨b, rfl, q⟩
theorem rd_abs {i : Int} (q : Q (.int (if i < 0 then -i else i)) H) : rAbs [V.int i] H Q := ⟨i, rfl, q⟩
theorem rd_max2 {i j : Int} (q : Q (.int (if j > i then j else i)) H) : rMx2 [V.int i, V.int j] H Q := ⟨i, j, rfl, q⟩
theorem rd_min2 {i j : Int} (q : Q (.int (if j < i then j else i)) H) : rMn2 [V.int i, V.int j] H Q := ⟨i, j, rfl, q⟩
theorem rd_lenL {p : Addr} {ys : List V} (h : SqL K H p ys) (q : Q (.int ys.length) H) : rLenQ K [V.ref p] H Q := ⟨p, ys, rfl, Or.inl h, q⟩
theorem rd_lenT {p : Addr} {ys : List V} (h : SqT K H p ys) (q : Q (.int ys.length) H) : rLenQ K [V.ref p] H Q := ⟨p, ys, rfl, Or.inr h, q⟩
theorem rd_lenS {z : Str} (h : z.length ≤ sizeLine) (q : Q (.int z.length) H) : rLenZ [V.str z] H Q := ⟨z, rfl, h, q⟩
theorem rd_ltZ {i j : Str} (q : Q (.bl (decide (i.cps.toList < j.cps.toList))) H) : rLtZ (.str i) (.str j) H Q := ⟨i, j, rfl, rfl, q⟩
theorem rd_leZ {i j : Str} (q : Q (.bl (!decide (j.cps.toList < i.cps.toList))) H) : rLeZ (.str i) (.str j) H Q := ⟨i, j, rfl, rfl, q⟩
theorem rd_gtZ {i j : Str} (q : Q (.bl (decide (j.cps.toList < i.cps.toList))) H) : rGtZ (.str i) (.str j) H Q := ⟨i, j, rfl, rfl, q⟩
theorem rd_geZ {i j : Str} (q : Q (.bl (!decide (i.cps.toList < j.cps.toList))) H) : rGeZ (.str i) (.str j) H Q := ⟨i, j, rfl, rfl, q⟩
theorem rd_catZ {i j : Str} (h : i.length + j.length ≤ sizeLine) (q : Q (.str (i ++ j)) H) : rCatZ (.str i) (.str j) H Q := ⟨i, j, rfl, rfl, h, q⟩
end
/-! ### heaps -/
theorem up_old {H : Hp} {a p : Addr} {o u : HO} (hp : H p = none) (h : H a = some o) : upd H p u a = some o := by
  rw [upd_ne (ne_of_none h hp)]
  exact h
theorem up_oth {H : Hp} {a b : Addr} {o u : HO} (hne : b ≠ a) (h : H b = some o) : upd H a u b = some o := by
  rw [upd_ne hne]
  exact h
theorem sq_old {K : PySem.W.Frag} {H : Hp} {a p : Addr} {u : HO} {xs : List V} (hp : H p = none) (h : SqL K H a xs) : SqL K (upd H p u) a xs := by
  rcases h with (h | ⟨o, h⟩) | h
  · exact Or.inl (Or.inl (up_old hp h))
  · exact Or.inl (Or.inr ⟨o, up_old hp h⟩)
  · exact Or.inr h
theorem at_z {α : Type} {xs : List α} {z : Int} {v : α} (h0 : 0 ≤ z) (h : xs[z.toNat]? = some v) : atI xs z = some v := by
  have e : z = ((z.toNat : Nat) : Int) := by omega
  rw [e]
  exact atI_nat h

/-! ### the bag -/
/-- a bag stands at a -/
def BagAt (H : Hp) (a : Addr) : Prop := ∃ g m c : Int, H a = some (.lst [.int g, .int m, .int c]) ∧ 0 ≤ g ∧ 0 ≤ m ∧ 0 ≤ c
/-- all but what stands at a is as it was -/
def But (a : Addr) (H H' : Hp) : Prop := ∀ b o, b ≠ a → H b = some o → H' b = some o
theorem But.refl (a : Addr) (H : Hp) : But a H H := fun _ _ _ h => h
theorem But.trans {a : Addr} {H H1 H2 : Hp} (x : But a H H1) (y : But a H1 H2) : But a H H2 := fun b o n h => y b o n (x b o n h)
theorem But.new {a p : Addr} {H : Hp} {u : HO} (hp : H p = none) : But a H (upd H p u) := fun _ _ _ h => up_old hp h
theorem But.upd {a : Addr} {H : Hp} {u : HO} : But a H (upd H a u) := fun _ _ n h => up_oth n h
theorem But.sq {K : PySem.W.Frag} {a b : Addr} {H H' : Hp} {xs : List V} (x : But a H H') (n : b ≠ a) (h : SqL K H b xs) : SqL K H' b xs := by
  rcases h with (h | ⟨o, h⟩) | h
  · exact Or.inl (Or.inl (x _ _ n h))
  · exact Or.inl (Or.inr ⟨o, x _ _ n h⟩)
  · exact Or.inr h
theorem BagAt.old {H : Hp} {a p : Addr} {u : HO} (hp : H p = none) (h : BagAt H a) : BagAt (upd H p u) a := by
  obtain ⟨g, m, c, e, r⟩ := h
  exact ⟨g, m, c, up_old hp e, r⟩
def spBag (K : PySem.W.Frag) : Sp := fun vs H Q _ => ∃ (a : Addr) (ns : List Int) (i : Nat), vs = [.ref a, .int (i : Int)] ∧ SqL K H a (ns.map V.int) ∧
  ∀ p H', H p = none → Same H H' → BagAt H' p → Q (.ref p) H'
def spDraw : Sp := fun vs H Q _ => ∃ (a : Addr) (n : Int), vs = [.ref a, .int n] ∧ BagAt H a ∧ 1 ≤ n ∧ n < 1000000 ∧
  ∀ (k : Int) (H' : Hp), 0 ≤ k → k < n → But a H H' → BagAt H' a → Q (.int k) H'
end Lay
namespace Lay
open PySem PySem.Spec PyProof.Rows L2
/-- one of the items of a list, or one sign of a text -/
def spOne (K : PySem.W.Frag) : Sp := fun vs H Q _ => ∃ (a : Addr) (it : V), vs = [.ref a, it] ∧ BagAt H a ∧
  ((∃ l xs, it = .ref l ∧ l ≠ a ∧ SqL K H l xs ∧ 0 < xs.length ∧ xs.length ≤ 1000 ∧ ∀ v H', v ∈ xs → But a H H' → BagAt H' a → Q v H') ∨
   (∃ z, it = .str z ∧ 0 < z.length ∧ z.length ≤ 1000 ∧ ∀ c H', c ∈ z.cps.toList → But a H H' → BagAt H' a → Q (.str ⟨#[c]⟩) H'))
/-- which built-in names the text leaves as they are -/
def Bare (mg : Str → Option Value) (x : Str) : Prop := mg x = none
end Lay
namespace Lay
open PySem PySem.Spec PyProof.Rows L2
theorem at_nat {α : Type} {xs : List α} {j : Nat} {v : α} (h : xs[j]? = some v) : atI xs (j : Int) = some v := atI_nat h
end Lay
namespace Lay
open PySem PySem.Spec PyProof.Rows L2
theorem rd_at {t : TS} {D : Ends} {σ : L2.St} {H : Hp} (σ2 : L2.St) (e : σ = σ2) (q : t D σ2 H) : t D σ H := by
  rw [e]
  exact q
end Lay
namespace Lay
open PySem PySem.Spec PyProof.Rows L2
theorem rd_gsub {to ti : TE} {t : TSet} {v : V} {σ : L2.St} {H : Hp} {R : L2.St → Hp → Prop} (q : to σ H (fun o H1 => ti σ H1 fun i H2 => t o i v H2 fun H3 => R σ H3)) : gSub to ti t v σ H R := q
theorem rd_setL {p : Addr} {xs ys : List V} {k : Int} {j : Nat} {v : V} {H : Hp} {R : Hp → Prop} (h : H p = some (.lst xs)) (hk : ixN xs.length k = some j) (e : xs.set j v = ys) (q : R (upd H p (.lst ys))) : rSetL (.ref p) (.int k) v H R := by
  subst e
  exact ⟨p, xs, k, j, rfl, rfl, h, hk, q⟩
theorem mul_lit {i j : Int} (h : -(2 ^ 64) < i ∧ i < 2 ^ 64) : CMul i j := Or.inl h
theorem mul_rit {i j : Int} (h : -(2 ^ 64) < j ∧ j < 2 ^ 64) : CMul i j := Or.inr h
end Lay
namespace Lay
open PySem PySem.Spec PyProof.Rows L2
section
variable {te ta tb : TE} {σ : L2.St} {H : Hp} {Q : VK} {D : Ends} {K : PySem.W.Frag}
/-- what is read up to here is told by P, whatever follows -/
theorem rd_with (P : V → Hp → Prop) (k : ∀ Q' : VK, (∀ v H1, P v H1 → Q' v H1) → te σ H Q') (r : ∀ v H1, P v H1 → Q v H1) : te σ H Q := k Q r
/-- a statement's end told by P; it may leave by returns that rt tells -/
theorem rd_withS {t : TS} (P : L2.St → Hp → Prop) (k : ∀ D' : Ends, (∀ σ1 H1, P σ1 H1 → D'.nx σ1 H1) → (∀ v H1, D.rt v H1 → D'.rt v H1) → t D' σ H) (r : ∀ σ1 H1, P σ1 H1 → D.nx σ1 H1) : t D σ H := k D r (fun _ _ h => h)
theorem rd_sl {r : V → Option Int → Option Int → Hp → VK → Prop} {tl th : TO} (q : te σ H (fun x H1 => tl σ H1 fun l H2 => th σ H2 fun u H3 => r x l u H3 Q)) : tSl r te tl th σ H Q := q
theorem rd_noP {R : Option Int → Hp → Prop} (q : R none H) : tNoPart σ H R := q
theorem rd_part {R : Option Int → Hp → Prop} (q : te σ H (fun x H1 => ∃ i, x = .int i ∧ R (some i) H1)) : tPart te σ H R := q
theorem rd_i {i : Int} {R : Int → Prop} (q : R i) : ∃ j, V.int i = V.int j ∧ R j := ⟨i, rfl, q⟩
theorem rd_slL {a : Addr} {xs : List V} {lo hi : Option Int} (h : SqL K H a xs) (q : ∀ p, H p = none → Q (.ref p) (upd H p (.lst (cutV xs lo hi)))) : rSlL K (.ref a) lo hi H Q := ⟨a, xs, rfl, h, q⟩
theorem rd_sum {a : Addr} {ns : List Int} (h : SqL K H a (ns.map V.int)) (q : Q (.int ns.sum) H) : rSum K [V.ref a] H Q := ⟨a, ns, rfl, h, q⟩
theorem rd_all {a : Addr} {bs : List Bool} (h : SqL K H a (bs.map V.bl)) (q : Q (.bl (bs.all id)) H) : rAll K [V.ref a] H Q := ⟨a, bs, rfl, h, q⟩
theorem rd_ixA {it : V} {i : Int} (h : rIxL K it (.int i) H Q ∨ rIxT K it (.int i) H Q ∨ rIxS it (.int i) H Q) : rIx K it (.int i) H Q := h
end
theorem cut_ints (ns : List Int) (lo hi : Option Int) : ∃ ms : List Int, cutV (ns.map V.int) lo hi = ms.map V.int := by
  refine ⟨(ns.drop (HT.sIx ns.length 0 lo)).take (HT.sIx ns.length ns.length hi - HT.sIx ns.length 0 lo), ?_⟩
  unfold cutV
  rw [List.map_take, List.map_drop, List.length_map]
end Lay
namespace Lay
open PySem PySem.Spec PyProof.Rows L2
/-! ### loops and comprehensions -/
section
variable {σ : L2.St} {H H1 : Hp} {Q : VK} {D : Ends} {K : PySem.W.Frag}
/-- what a for asks once it stands -/
def ForAt (J : It) (g : TG) (tb : TS) (D : Ends) (σ : L2.St) (H1 : Hp) : Prop := ∃ W : Nat → Nat → L2.St → Hp → Prop, (∃ m, W 0 m σ H1) ∧ ∀ i m σ H, W i m σ H →
  (J.stop i H ∧ D.nx σ H) ∨ (J.go i H ∧ ∃ N : L2.St → Hp → Prop, (∀ σ' H', N σ' H' → ∃ m', m' < m ∧ W (i + 1) m' σ' H') ∧ ∀ x H', J.yld i H x H' → g x σ H' fun σ2 H2 => tb { D with nx := N, ct := N, bk := D.nx } σ2 H2)
theorem rd_for {wi : TI} {g : TG} {tb : TS} (q : wi σ H (fun J H1 => ForAt J g tb D σ H1)) : tFor wi g tb D σ H := q
theorem rd_rng1 {ta : TA} {R : It → Hp → Prop} (q : ta σ H (fun vs H1 => ∃ j : Int, vs = [.int j] ∧ -(2 ^ 62) ≤ j ∧ j < 2 ^ 62 ∧ R (Itr 0 j.toNat) H1)) : iRng1 ta σ H R := q
theorem rd_iTup {te : TE} {R : It → Hp → Prop} (q : te σ H (fun x H1 => ∃ a, x = .ref a ∧ (∃ xs, SqT K H1 a xs) ∧ R (Itt K a) H1)) : iTup K te σ H R := q
theorem rd_iList {te : TE} {R : It → Hp → Prop} (q : te σ H (fun x H1 => ∃ a, x = .ref a ∧ (∃ xs, SqL K H1 a xs) ∧ R (Itl K a) H1)) : iList K te σ H R := q
theorem rd_iStr {te : TE} {R : It → Hp → Prop} (q : te σ H (fun x H1 => ∃ z, x = .str z ∧ R (Its z) H1)) : iStr te σ H R := q
theorem for_rng {n : Nat} {g : TG} {tb : TS} (Pv : Nat → L2.St → Hp → Prop) (h0 : Pv 0 σ H)
    (hs : ∀ i σ H, i < n → Pv i σ H → g (.int (0 + i)) σ H fun σ2 H2 => tb { D with nx := Pv (i + 1), ct := Pv (i + 1), bk := D.nx } σ2 H2) (hd : ∀ σ H, Pv n σ H → D.nx σ H) : ForAt (Itr 0 n) g tb D σ H :=
  for_range Pv h0 hs hd
/-- what a comprehension asks once its list stands at D -/
def LcAt (J : It) (g : TG) (tt : TT) (te : TE) (vs : List Nat) (σ : L2.St) (E : Addr) (H1 : Hp) (Q : VK) : Prop := ∃ W : Nat → Nat → Hp → Prop, (∃ m, W 0 m (upd H1 E (.lst []))) ∧ ∀ i m H, W i m H →
  (J.stop i H ∧ Q (.ref E) H) ∨ (J.go i H ∧ ∃ Nx : Hp → Prop, (∀ H', Nx H' → ∃ m', m' < m ∧ W (i + 1) m' H') ∧ ∀ x H', J.yld i H x H' → g x (wipe σ vs) H' fun σ2 H2 => wipe σ2 vs = wipe σ vs ∧ tt σ2 H2 fun b H3 =>
    if b = true then te σ2 H3 fun y H4 => ∃ acc, H4 E = some (.lst acc) ∧ acc.length < sizeLine ∧ Nx (upd H4 E (.lst (acc ++ [y]))) else Nx H3)
theorem rd_lc {wi : TI} {g : TG} {tt : TT} {te : TE} {vs : List Nat} (q : wi σ H (fun J H1 => ∀ E, H1 E = none → LcAt J g tt te vs σ E H1 Q)) : tLc wi g tt te vs σ H Q := q
theorem wipe1 (σ : L2.St) (i : Nat) (x : V) : wipe ((wipe σ [i]).set i (some x)) [i] = wipe σ [i] := by
  show ((σ.set i none).set i (some x)).set i none = σ.set i none
  rw [List.set_set, List.set_set]
theorem same_up {H1 H' : Hp} {E : Addr} {u : HO} (hE : H1 E = none) (s : Same H1 H') : Same H1 (upd H' E u) := fun b o e => by
  rw [upd_ne (ne_of_none e hE)]
  exact s b o e
/-- a walk that leaves the heap as it is and yields n items -/
structure Wk (J : It) (n : Nat) (G : Hp → Prop) (item : Nat → V) : Prop where
  stop : ∀ H, G H → J.stop n H
  go : ∀ i H, G H → i < n → J.go i H
  yld : ∀ i H x H', G H → i < n → J.yld i H x H' → H' = H ∧ x = item i
theorem wk_rng (n : Nat) : Wk (Itr 0 n) n (fun _ => True) (fun i => .int (0 + (i : Int))) := ⟨fun _ _ => Nat.le_refl _, fun _ _ _ h => h, fun _ _ _ _ _ _ h => h⟩
theorem wk_tup {a : Addr} {xs : List V} (d : V) : Wk (Itt K a) xs.length (fun H => SqT K H a xs) (fun i => xs.getD i d) :=
  ⟨fun H h => ⟨xs, h, Nat.le_refl _⟩, fun i H h hi => ⟨xs, xs[i], h, List.getElem?_eq_getElem hi⟩, fun i H x H' h hi y => by
    obtain ⟨e, y⟩ := y
    refine ⟨e, ?_⟩
    have z := y xs h
    show x = xs.getD i d
    rw [List.getD_eq_getElem?_getD, z]
    rfl⟩
theorem wk_list {a : Addr} {xs : List V} (d : V) : Wk (Itl K a) xs.length (fun H => SqL K H a xs) (fun i => xs.getD i d) :=
  ⟨fun H h => ⟨xs, h, Nat.le_refl _⟩, fun i H h hi => ⟨xs, xs[i], h, List.getElem?_eq_getElem hi⟩, fun i H x H' h hi y => by
    obtain ⟨e, y⟩ := y
    refine ⟨e, ?_⟩
    have z := y xs h
    show x = xs.getD i d
    rw [List.getD_eq_getElem?_getD, z]
    rfl⟩
theorem wk_str (z : Str) : Wk (Its z) z.cps.size (fun _ => True) (fun i => .str ⟨#[z.cps.toList.getD i 0]⟩) :=
  ⟨fun _ _ => Nat.le_refl _, fun _ _ _ h => h, fun i H x H' _ hi y => by
    obtain ⟨e, c, hc, rfl⟩ := y
    refine ⟨e, ?_⟩
    show V.str ⟨#[c]⟩ = V.str ⟨#[z.cps.toList.getD i 0]⟩
    rw [List.getD_eq_getElem?_getD, Array.getElem?_toList, hc]
    rfl⟩
/-- [f(x) for x in .. if b(x)], all of it leaving what stands -/
theorem lc_same {J : It} {n : Nat} {G : Hp → Prop} {item : Nat → V} (w : Wk J n G item) {i : Nat} {tt : TT} {te : TE} {E : Addr} (hn : n ≤ 1000) (hE : H1 E = none) (hG : ∀ H', Same H1 H' → G H') (b : Nat → Bool) (f : Nat → V)
    (ht : ∀ j, j < n → ∀ H', Same H1 H' → ∀ R : Bool → Hp → Prop, (∀ H'', Same H' H'' → R (b j) H'') → tt ((wipe σ [i]).set i (some (item j))) H' R)
    (he : ∀ j, j < n → b j = true → ∀ H', Same H1 H' → ∀ R : VK, (∀ H'', Same H' H'' → R (f j) H'') → te ((wipe σ [i]).set i (some (item j))) H' R)
    (hd : ∀ H', Same H1 H' → H' E = some (.lst (((List.range n).filter b).map f)) → Q (.ref E) H') : LcAt J (gName i) tt te [i] σ E H1 Q := by
  have small : ∀ m, m ≤ n → ((((List.range m).filter b).map f)).length ≤ m := fun m _ => by
    rw [List.length_map]
    exact Nat.le_trans (List.length_filter_le _ _) (Nat.le_of_eq List.length_range)
  refine ⟨fun k m H' => m = n - k ∧ k ≤ n ∧ Same H1 H' ∧ H' E = some (.lst (((List.range k).filter b).map f)), ⟨n, rfl, Nat.zero_le _, same_up hE (Same.refl H1), upd_same⟩, ?_⟩
  rintro k m H' ⟨rfl, hk, hs, hl⟩
  by_cases hlt : k < n
  · refine Or.inr ⟨w.go k H' (hG H' hs) hlt, fun H'' => Same H1 H'' ∧ H'' E = some (.lst (((List.range (k + 1)).filter b).map f)), fun H'' h => ⟨n - (k + 1), by omega, rfl, hlt, h.1, h.2⟩, fun x H2 hy => ?_⟩
    obtain ⟨rfl, rfl⟩ := w.yld k H' x H2 (hG H' hs) hlt hy
    refine ⟨wipe1 σ i _, ?_⟩
    refine ht k hlt H2 hs _ fun H3 s3 => ?_
    refine rd_ifb (fun hb => ?_) (fun hb => ?_)
    · refine he k hlt hb H3 (hs.trans s3) _ fun H4 s4 => ?_
      refine ⟨_, s4 _ _ (s3 _ _ hl), Nat.lt_of_le_of_lt (Nat.le_trans (small k (by omega)) (by omega : k ≤ 1000)) (by decide), same_up hE ((hs.trans s3).trans s4), ?_⟩
      rw [upd_same, List.range_succ, List.filter_append, List.map_append]
      simp [hb]
    · refine ⟨hs.trans s3, ?_⟩
      rw [s3 _ _ hl, List.range_succ, List.filter_append]
      simp [hb]
  · have e : k = n := by omega
    subst e
    exact Or.inl ⟨w.stop H' (hG H' hs), hd H' hs hl⟩
theorem rd_yes {R : Bool → Hp → Prop} (q : R true H) : tYes σ H R := q
theorem rd_bits {te : TE} (q : te σ H (fun x H1 => ∃ i, x = .int i ∧ Q (.int (Builtin.Int.intBits i : Nat)) H1)) : tBits te σ H Q := q
/-- [f(bag) for .. in range(n)]: each turn draws from the bag -/
theorem lc_bag {n i : Nat} {te : TE} {E a : Addr} (hn : n ≤ 1000) (hE : H1 E = none) (hb : BagAt H1 a) (P : V → Prop)
    (he : ∀ j, j < n → ∀ H', But a H1 H' → BagAt H' a → ∀ R : VK, (∀ v H'', P v → But a H' H'' → BagAt H'' a → R v H'') → te ((wipe σ [i]).set i (some (.int (0 + (j : Int))))) H' R)
    (hd : ∀ ys H', ys.length = n → (∀ y ∈ ys, P y) → But a H1 H' → BagAt H' a → H' E = some (.lst ys) → Q (.ref E) H') : LcAt (Itr 0 n) (gName i) tYes te [i] σ E H1 Q := by
  have nE : E ≠ a := fun z => by
    obtain ⟨_, _, _, e, _⟩ := hb
    rw [← z, hE] at e
    cases e
  refine ⟨fun k m H' => m = n - k ∧ k ≤ n ∧ ∃ ys : List V, ys.length = k ∧ (∀ y ∈ ys, P y) ∧ But a H1 H' ∧ BagAt H' a ∧ H' E = some (.lst ys), ⟨n, rfl, Nat.zero_le _, [], rfl, (fun _ z => nomatch z), But.new hE, BagAt.old hE hb, upd_same⟩, ?_⟩
  rintro k m H' ⟨rfl, hk, ys, hy, hP, bu, hb', hl⟩
  by_cases hlt : k < n
  · refine Or.inr ⟨hlt, fun H'' => ∃ ys : List V, ys.length = k + 1 ∧ (∀ y ∈ ys, P y) ∧ But a H1 H'' ∧ BagAt H'' a ∧ H'' E = some (.lst ys), fun H'' h => ⟨n - (k + 1), by omega, rfl, hlt, h⟩, fun x H2 hx => ?_⟩
    obtain ⟨rfl, rfl⟩ := hx
    refine ⟨wipe1 σ i _, ?_⟩
    refine rd_yes ?_
    refine rd_ifb (fun _ => ?_) (fun z => nomatch z)
    refine he k hlt H2 bu hb' _ fun v H3 hv b3 g3 => ?_
    refine ⟨ys, b3 _ _ nE hl, Nat.lt_of_le_of_lt (by omega : ys.length ≤ 1000) (by decide), ys ++ [v], by simp [hy], ?_, ?_, ?_, upd_same⟩
    · intro y hy
      rcases List.mem_append.mp hy with z | z
      · exact hP y z
      · cases List.mem_singleton.mp z
        exact hv
    · intro b o nb e
      rw [upd_ne (ne_of_none e hE)]
      exact b3 b o nb (bu b o nb e)
    · obtain ⟨g, m, c, e, r⟩ := g3
      exact ⟨g, m, c, up_oth nE.symm e, r⟩
  · have e : k = n := by omega
    subst e
    exact Or.inl ⟨Nat.le_refl _, hd ys H' hy hP bu hb' hl⟩
end
theorem pow10_abs (m : Nat) : ((10 : Int) ^ m).natAbs < 2 ^ (4 * m + 1) := by
  have h1 : ((10 : Int) ^ m).natAbs = 10 ^ m := by
    rw [Int.natAbs_pow]
    rfl
  rw [h1, Nat.pow_succ, Nat.pow_mul]
  have h2 : (10 : Nat) ^ m ≤ (2 ^ 4) ^ m := Nat.pow_le_pow_left (by decide) m
  have h3 : 0 < ((2 : Nat) ^ 4) ^ m := Nat.pow_pos (by decide)
  omega
theorem pow10_mul {a b : Nat} (h : a + b ≤ 100000) : CMulW ((10 : Int) ^ a) ((10 : Int) ^ b) := wide_mul (pow10_abs a) (pow10_abs b) (by omega) (by omega) (by omega)
end Lay
namespace Lay
open PySem PySem.Spec PyProof.Rows L2
theorem bits_short {i : Int} (h : Builtin.Int.intBits i ≤ 6000) : i.natAbs < 10 ^ 2000 := by
  have h1 : i.natAbs < 2 ^ 6000 := by
    unfold Builtin.Int.intBits at h
    by_cases z : i = 0
    · subst z
      exact Nat.pow_pos (by decide)
    · rw [if_neg (by simpa using z)] at h
      have z2 : i.natAbs ≠ 0 := by omega
      exact (Nat.log2_lt z2).mp (by omega)
  have h2 : (2 : Nat) ^ 6000 = (2 ^ 3) ^ 2000 := by rw [← Nat.pow_mul]
  have h3 : ((2 : Nat) ^ 3) ^ 2000 ≤ 10 ^ 2000 := Nat.pow_le_pow_left (by decide) 2000
  omega
end Lay
namespace Lay
open PySem PySem.Spec PyProof.Rows L2
section
variable {σ : L2.St} {H H1 : Hp} {Q : VK} {D : Ends} {K : PySem.W.Frag}
theorem rd_s {z : Str} {R : Str → Prop} (q : R z) : ∃ j, V.str z = V.str j ∧ R j := ⟨z, rfl, q⟩
theorem rd_r {p : Addr} {R : Addr → Prop} (q : R p) : ∃ a, V.ref p = V.ref a ∧ R a := ⟨p, rfl, q⟩
theorem rd_isi {v : V} {T n : String} {b : Bool} (ty : TyX K H v (.type T)) (hb : kitB T n = some b) (q : Q (.bl b) H) : rIsi K [v, .ty n] H Q := ⟨v, .ty n, _, _, b, rfl, ClsV.ty n, ty, kit_ty hb, q⟩
end
theorem range_getD {α : Type} (d : α) : ∀ l : List α, (List.range l.length).map (fun j => l.getD j d) = l := fun l => by
  apply List.ext_getElem?
  intro i
  rw [List.getElem?_map]
  by_cases h : i < l.length
  · rw [List.getElem?_range h]
    simp [List.getD_eq_getElem?_getD, h]
  · rw [List.getElem?_eq_none (by rw [List.length_range]; omega), List.getElem?_eq_none (by omega)]
    rfl
theorem range_all {α : Type} (d : α) (l : List α) (g : α → Bool) : (List.range l.length).all (fun j => g (l.getD j d)) = l.all g := by
  have e := range_getD d l
  calc (List.range l.length).all (fun j => g (l.getD j d)) = ((List.range l.length).map (fun j => l.getD j d)).all g := by rw [List.all_map]; rfl
    _ = l.all g := by rw [e]
theorem filt_yes {α : Type} (l : List α) : l.filter (fun _ => true) = l := List.filter_eq_self.mpr fun _ _ => rfl
end Lay
namespace Lay
open PySem PySem.Spec PyProof.Rows L2
section
variable {σ : L2.St} {H H1 : Hp} {Q : VK} {D : Ends} {K : PySem.W.Frag}
/-- a comprehension over anything that leaves what stands; S tells the slots of a turn -/
theorem lc_gen {J : It} {n : Nat} {G : Hp → Prop} {g : TG} {vs : List Nat} {tt : TT} {te : TE} {E : Addr} (Y : Nat → V → Hp → Prop) (S : Nat → L2.St → Hp → Prop)
    (stop : ∀ H', G H' → J.stop n H') (go : ∀ i H', G H' → i < n → J.go i H') (yld : ∀ i H' x H'', G H' → i < n → J.yld i H' x H'' → Same H' H'' ∧ Y i x H'')
    (hn : n ≤ 1000) (hE : H1 E = none) (hG : ∀ H', Same H1 H' → G H') (b : Nat → Bool) (f : Nat → V)
    (hg : ∀ j x H', j < n → Same H1 H' → Y j x H' → ∀ R : L2.St → Hp → Prop, (∀ σ2, wipe σ2 vs = wipe σ vs → S j σ2 H' → R σ2 H') → g x (wipe σ vs) H' R)
    (ht : ∀ j σ2 H', j < n → Same H1 H' → S j σ2 H' → ∀ R : Bool → Hp → Prop, (∀ H'', Same H' H'' → R (b j) H'') → tt σ2 H' R)
    (he : ∀ j σ2 H' H0, j < n → b j = true → S j σ2 H0 → Same H1 H' → Same H0 H' → ∀ R : VK, (∀ H'', Same H' H'' → R (f j) H'') → te σ2 H' R)
    (hd : ∀ H', Same H1 H' → H' E = some (.lst (((List.range n).filter b).map f)) → Q (.ref E) H') : LcAt J g tt te vs σ E H1 Q := by
  have small : ∀ m, m ≤ n → ((((List.range m).filter b).map f)).length ≤ m := fun m _ => by
    rw [List.length_map]
    exact Nat.le_trans (List.length_filter_le _ _) (Nat.le_of_eq List.length_range)
  refine ⟨fun k m H' => m = n - k ∧ k ≤ n ∧ Same H1 H' ∧ H' E = some (.lst (((List.range k).filter b).map f)), ⟨n, rfl, Nat.zero_le _, same_up hE (Same.refl H1), upd_same⟩, ?_⟩
  rintro k m H' ⟨rfl, hk, hs, hl⟩
  by_cases hlt : k < n
  · refine Or.inr ⟨go k H' (hG H' hs) hlt, fun H'' => Same H1 H'' ∧ H'' E = some (.lst (((List.range (k + 1)).filter b).map f)), fun H'' h => ⟨n - (k + 1), by omega, rfl, hlt, h.1, h.2⟩, fun x H2 hy => ?_⟩
    obtain ⟨s2, y2⟩ := yld k H' x H2 (hG H' hs) hlt hy
    refine hg k x H2 hlt (hs.trans s2) y2 _ fun σ2 hw hS => ⟨hw, ?_⟩
    refine ht k σ2 H2 hlt (hs.trans s2) hS _ fun H3 s3 => ?_
    refine rd_ifb (fun hb => ?_) (fun hb => ?_)
    · refine he k σ2 H3 H2 hlt hb hS ((hs.trans s2).trans s3) s3 _ fun H4 s4 => ?_
      refine ⟨_, s4 _ _ (s3 _ _ (s2 _ _ hl)), Nat.lt_of_le_of_lt (Nat.le_trans (small k (by omega)) (by omega : k ≤ 1000)) (by decide), same_up hE (((hs.trans s2).trans s3).trans s4), ?_⟩
      rw [upd_same, List.range_succ, List.filter_append, List.map_append]
      simp [hb]
    · refine ⟨(hs.trans s2).trans s3, ?_⟩
      rw [s3 _ _ (s2 _ _ hl), List.range_succ, List.filter_append]
      simp [hb]
  · have e : k = n := by omega
    subst e
    exact Or.inl ⟨stop H' (hG H' hs), hd H' hs hl⟩
/-! data -/
theorem dp_all {f : V → PyData} : ∀ {xs : List V}, (∀ x ∈ xs, Dp K H x (f x)) → DpAll K H xs (xs.map f)
  | [], _ => .nil
  | x :: xs, h => .cons (h x List.mem_cons_self) (dp_all fun y hy => h y (List.mem_cons_of_mem _ hy))
theorem rd_eqD {x y : V} {d e : PyData} (hd : Dp K H x d) (he : Dp K H y e) (sd : SeqAt.shaped d = true) (se : SeqAt.shaped e = true) (q : Q (.bl (PyData.eqv d e)) H) : rEqD K x y H Q := ⟨d, e, hd, he, sd, se, q⟩
end
theorem canAll_of {ds : List PyData} (h : ∀ d ∈ ds, d.canLay0 = true) : PyData.canLayAll0 ds = true := by
  induction ds with
  | nil => rfl
  | cons a l ih =>
    show (a.canLay0 && PyData.canLayAll0 l) = true
    rw [h a List.mem_cons_self, ih fun d hd => h d (List.mem_cons_of_mem _ hd)]
    rfl
theorem depthAll_of {ds : List PyData} {n : Nat} (h : ∀ d ∈ ds, d.depth ≤ n) : PyData.depthAll ds ≤ n := by
  induction ds with
  | nil => exact Nat.zero_le _
  | cons a l ih =>
    show max a.depth (PyData.depthAll l) ≤ n
    exact Nat.max_le.mpr ⟨h a List.mem_cons_self, ih fun d hd => h d (List.mem_cons_of_mem _ hd)⟩
/-- a list of flat data -/
theorem shaped_list {ds : List PyData} (h : ∀ d ∈ ds, d.canLay0 = true ∧ d.depth = 0) : SeqAt.shaped (.list ds) = true := by
  show (PyData.canLayAll0 ds && decide (PyData.depthAll ds + 1 ≤ 64)) = true
  rw [canAll_of fun d hd => (h d hd).1]
  have := depthAll_of (n := 0) fun d hd => Nat.le_of_eq (h d hd).2
  rw [decide_eq_true (by omega)]
  rfl
/-- the signs of a text are signs -/
def Sok (z : Str) : Prop := ∀ c ∈ z.cps.toList, c < 1114112
theorem Sok.ok {z : Str} (h : Sok z) : (PyData.str z).canLay0 = true := by
  show z.cps.all (· < 0x110000) = true
  rw [Array.all_eq_true_iff_forall_mem]
  intro c hc
  exact decide_eq_true (h c (Array.mem_toList_iff.mpr hc))
theorem sok_one {c : Nat} (h : c < 1114112) : Sok ⟨#[c]⟩ := fun x hx => by
  have e : x = c := by simpa using hx
  rw [e]
  exact h
theorem eqv_nil (ds : List PyData) : PyData.eqv (.list ds) (.list []) = ds.isEmpty := by
  cases ds <;> rfl
end Lay
namespace Lay
open PySem PySem.Spec PyProof.Rows L2
section
variable {K : PySem.W.Frag} {H H' : Hp}
theorem sqT_same {a : Addr} {xs : List V} (e : Same H H') (h : SqT K H a xs) : SqT K H' a xs := by
  rcases h with (h | ⟨o, h⟩) | h
  · exact Or.inl (Or.inl (e _ _ h))
  · exact Or.inl (Or.inr ⟨o, e _ _ h⟩)
  · exact Or.inr h
mutual
theorem dp_same (s : Same H H') : ∀ (d : PyData) (v : V), Dp K H v d → Dp K H' v d
  | .none, _, h => by cases h; exact .non
  | .bool b, _, h => by cases h; exact .bl b
  | .int i, _, h => by cases h; exact .int i
  | .str x, _, h => by cases h; exact .str x
  | .list ds, _, h => by
    cases h with
    | lst hs ha => exact .lst (s.seq hs) (dpAll_same s ds _ ha)
  | .tuple ds, _, h => by
    cases h with
    | tup hs ha => exact .tup (sqT_same s hs) (dpAll_same s ds _ ha)
  | .dict _, _, h => by cases h
theorem dpAll_same (s : Same H H') : ∀ (ds : List PyData) (vs : List V), DpAll K H vs ds → DpAll K H' vs ds
  | [], _, h => by cases h; exact .nil
  | d :: ds, _, h => by
    cases h with
    | cons h1 h2 => exact .cons (dp_same s d _ h1) (dpAll_same s ds _ h2)
end
theorem dp_allJ {α : Type} {f : α → V} {g : α → PyData} : ∀ {l : List α}, (∀ j ∈ l, Dp K H (f j) (g j)) → DpAll K H (l.map f) (l.map g)
  | [], _ => .nil
  | x :: xs, h => .cons (h x List.mem_cons_self) (dp_allJ fun y hy => h y (List.mem_cons_of_mem _ hy))
theorem dpAll_len : ∀ {vs : List V} {ds : List PyData}, DpAll K H vs ds → vs.length = ds.length
  | _, _, .nil => rfl
  | _, _, .cons _ t => congrArg (· + 1) (dpAll_len t)
theorem dpAll_get : ∀ {vs : List V} {ds : List PyData}, DpAll K H vs ds → ∀ i, i < vs.length → Dp K H (vs.getD i .non) (ds.getD i .none) ∧ ds.getD i .none ∈ ds
  | _, _, .cons h t, 0, _ => ⟨h, List.mem_cons_self⟩
  | _, _, .cons h t, i + 1, hi => by
    have z := dpAll_get t i (Nat.lt_of_succ_lt_succ hi)
    exact ⟨z.1, List.mem_cons_of_mem _ z.2⟩
end
theorem shaped_listN {ds : List PyData} {n : Nat} (hn : n ≤ 60) (h : ∀ d ∈ ds, d.canLay0 = true ∧ d.depth ≤ n) : SeqAt.shaped (.list ds) = true := by
  show (PyData.canLayAll0 ds && decide (PyData.depthAll ds + 1 ≤ 64)) = true
  rw [canAll_of fun d hd => (h d hd).1]
  have := depthAll_of (n := n) fun d hd => (h d hd).2
  rw [decide_eq_true (by omega)]
  rfl
end Lay
namespace Lay
open PySem PySem.Spec PyProof.Rows L2
def rJoin (K : PySem.W.Frag) : V → List V → Hp → VK → Prop := fun x xs H Q => ∃ a p, ∃ ys : List Str, x = .str a ∧ xs = [.ref p] ∧ (SqL K H p (ys.map V.str) ∨ SqT K H p (ys.map V.str)) ∧
      (ys.map (·.length)).sum + ys.length * a.length ≤ 16777216 ∧ Q (.str (Txt.join a ys)) H
theorem q_join {X : Cx} {o e : Expr} {to te : TE} {apos pos : Pos} (ho : PE X o to) (he : PE X e te) (hs : starEach [e] X.env = [(false, eval e X.env)] := by rfl) (hbase : attributeBase o "join" X.env (eval o X.env) = eval o X.env := by rfl) (hline : (apos.endLine == pos.line) = true := by rfl) :
    PE X (.Call (.Attribute o "join" apos) [e] [] pos) (tM1 (rJoin X.K) to te) := pe_join ho he hs hbase hline
section
variable {σ : L2.St} {H : Hp} {Q : VK} {K : PySem.W.Frag}
theorem rd_M1 {r : V → List V → Hp → VK → Prop} {to te : TE} (q : to σ H (fun x H1 => (∃ a, x = .str a) ∧ te σ H1 fun y H2 => r x [y] H2 Q)) : tM1 r to te σ H Q := q
theorem rd_isS {z : Str} {B : Prop} (q : B) : (∃ a, V.str z = V.str a) ∧ B := ⟨⟨z, rfl⟩, q⟩
theorem rd_join {a : Str} {p : Addr} {ys : List Str} (h : SqL K H p (ys.map V.str)) (hz : (ys.map (·.length)).sum + ys.length * a.length ≤ 16777216) (q : Q (.str (Txt.join a ys)) H) : rJoin K (.str a) [.ref p] H Q := ⟨a, p, ys, rfl, rfl, Or.inl h, hz, q⟩
end
/-- texts of one sign each, glued -/
theorem join_ones {ys : List Str} (h : ∀ y ∈ ys, y.length = 1 ∧ Sok y) : (ys.map (·.length)).sum = ys.length ∧ (Txt.join ("" : Str) ys).length = ys.length ∧ Sok (Txt.join ("" : Str) ys) := by
  have e0 : TL.tl ("" : Str) = [] := by decide +kernel
  have key : TL.tl (Txt.join ("" : Str) ys) = (ys.map TL.tl).flatten := by
    rw [TL.join_eq, TL.tl_join, e0]
    clear h
    induction ys with
    | nil => rfl
    | cons y r ih =>
      cases r with
      | nil =>
        show TL.tl y = TL.tl y ++ []
        rw [List.append_nil]
      | cons z r =>
        show TL.tl y ++ ([] ++ TL.joinL [] ((z :: r).map TL.tl)) = TL.tl y ++ ((z :: r).map TL.tl).flatten
        rw [← ih]
        rfl
  refine ⟨?_, ?_, ?_⟩
  · clear key
    induction ys with
    | nil => rfl
    | cons y r ih =>
      rw [List.map_cons, List.sum_cons, ih fun z hz => h z (List.mem_cons_of_mem _ hz), (h y List.mem_cons_self).1, List.length_cons]
      omega
  · have e : (Txt.join ("" : Str) ys).length = (TL.tl (Txt.join ("" : Str) ys)).length := by simp [Str.length, TL.tl]
    rw [e, key]
    clear key e
    induction ys with
    | nil => rfl
    | cons y r ih =>
      have e1 : (TL.tl y).length = 1 := by
        have := (h y List.mem_cons_self).1
        simpa [Str.length, TL.tl] using this
      rw [List.map_cons, List.flatten_cons, List.length_append, ih fun z hz => h z (List.mem_cons_of_mem _ hz), e1, List.length_cons]
      omega
  · intro c hc
    have hc : c ∈ TL.tl (Txt.join ("" : Str) ys) := hc
    rw [key] at hc
    obtain ⟨l, hl, hcl⟩ := List.mem_flatten.mp hc
    obtain ⟨y, hy, rfl⟩ := List.mem_map.mp hl
    exact (h y hy).2 c hcl
end Lay
namespace Lay
open PySem PySem.Spec PyProof.Rows L2
theorem rd_disp1 {σ : L2.St} {H : Hp} {Q : VK} {tk tv : TE} (q : ∀ p, H p = none → tk σ (upd H p (.dK [])) fun kx H1 => tv σ H1 fun vx H2 => H2 p = some (.dK []) ∧ ∃ kvs : List (Key × V), [(kx, vx)] = kvs.map (fun kv => (kV kv.1, kv.2)) ∧ kvs.length ≤ 15 ∧ Q (.ref p) (upd H2 p (.dK (mergeK [] kvs)))) : tDisp [(tk, tv)] σ H Q := q
theorem rd_dnew {σ : L2.St} {H : Hp} {Q : VK} (q : ∀ p, H p = none → Q (.ref p) (upd H p (.dK []))) : tDNewK σ H Q := q
end Lay
namespace Lay
open PySem PySem.Spec PyProof.Rows L2
section
variable {σ : L2.St} {H : Hp} {Q : VK} {K : PySem.W.Frag}
theorem rd_zipA {ta : TA} {R : It → Hp → Prop} (q : ta σ H (fun vs H1 => ∃ a b xs ys, vs = [.ref a, .ref b] ∧ ((SqL K H1 a xs ∧ SqL K H1 b ys ∧ R (Itz K a b) H1) ∨ (SqT K H1 a xs ∧ SqT K H1 b ys ∧ R (RZ.ItzT K a b) H1)))) : RZ.iZipA K ta σ H R := q
theorem rd_BM {T : String} {r : V → List V → Hp → VK → Prop} {to : TE} {t : TA} (q : to σ H (fun x H1 => tyV K T x H1 ∧ t σ H1 fun xs H2 => r x xs H2 Q)) : tBM K T r to t σ H Q := q
theorem rd_tyL {p : Addr} {xs : List V} {B : Prop} (h : H p = some (.lst xs)) (q : B) : tyV K "list" (.ref p) H ∧ B := ⟨Or.inl ⟨rfl, xs, SqL.of h⟩, q⟩
theorem rd_app {l : Addr} {xs : List V} {y : V} (h : H l = some (.lst xs)) (hl : xs.length ≤ 1000) (q : Q .non (upd H l (.lst (xs ++ [y])))) : rAppend (.ref l) [y] H Q := ⟨l, xs, y, rfl, rfl, h, Nat.lt_of_le_of_lt hl (by decide), q⟩
theorem rd_repr {a : Addr} {d : PyData} (hd : Dp K H (.ref a) d) (h1 : d.showable = true) (h2 : d.hasDict = false) (h3 : d.depth ≤ 20) (h4 : d.shown.length ≤ sizeLine) (q : Q (.str d.shown) H) : rRepr K [.ref a] H Q := ⟨a, d, rfl, hd, h1, h2, h3, h4, q⟩
theorem rd_inT {x : V} {p : Addr} {xs : List V} (h : SqT K H p xs) (h1 : flatV x = true) (h2 : xs.all flatV = true) (q : Q (.bl (inV x xs)) H) : rIn K false x (.ref p) H Q := ⟨p, xs, rfl, Or.inr h, h1, h2, q⟩
end
theorem cut_drop1 (xs : List V) : cutV xs (some 1) none = xs.drop 1 := by
  have e0 : HT.sIx xs.length 0 (some 1) = min 1 xs.length := HT.sIx_nat xs.length 0 1
  have e1 : HT.sIx xs.length xs.length none = xs.length := HT.sIx_none _ _
  unfold cutV
  rw [e0, e1]
  cases xs with
  | nil => rfl
  | cons x r =>
    have e2 : min 1 (x :: r).length = 1 := by rw [List.length_cons]; omega
    rw [e2, List.length_cons]
    show (r.take (r.length + 1 - 1)) = r
    rw [Nat.add_sub_cancel, List.take_length]
/-- t[1:], a tuple -/
theorem rd_slA1 {K : PySem.W.Frag} {H : Hp} {Q : VK} {a : Addr} {xs : List V} (h : H a = some (.tup xs)) (q : ∀ p H', Same H H' → H' p = some (.tup (xs.drop 1)) → Q (.ref p) H') : rSlA K (.ref a) (some 1) none H Q := by
  refine ⟨a, xs, rfl, SqT.of h, fun c => ?_, fun c p hp => ?_⟩
  · refine q a H (Same.refl H) ?_
    have e0 : HT.sIx xs.length 0 (some 1) = min 1 xs.length := HT.sIx_nat xs.length 0 1
    rw [e0] at c
    have : xs = [] := by
      cases xs with
      | nil => rfl
      | cons x r =>
        rw [List.length_cons] at c
        omega
    subst this
    exact h
  · rw [cut_drop1]
    exact q p _ (fun b o e => up_old hp e) upd_same
end Lay
/-! LayE: several clauses `except X as n`, the exception's context kept as None (so that defs may be called in the suites). -/
namespace Lay
open PySem PySem.Spec PyProof.Rows L2
/-- what the clauses wish, one behind the other; the name stands in slot i -/
def wAll (K : PySem.W.Frag) (i : Nat) (Wout : WX) (D : Ends) : List (Value × (Addr → Value → Option Addr → TS)) → WX
  | [] => Wout
  | (c, ts) :: r => wAs K c i ts (wAll K i Wout D r) D
/-- the clauses, each with its class and the reading of its suite -/
inductive Clauses (X : Cx) (n : Str) : List ExceptHandler → List (Value × (Addr → Value → Option Addr → TS)) → Prop
  | nil : Clauses X n [] []
  | cons {x : Str} {c : Value} {ts : Addr → Value → Option Addr → TS} {s₀ : Stmt} {ss : List Stmt} {p1 p2 : Pos} {hs : List ExceptHandler} {l : List (Value × (Addr → Value → Option Addr → TS))} (nm : Names X x c)
      (su : ∀ (a : Addr) (oe : Obj) (cls : Value) (d : Option Addr) (pn : List (Addr × Obj)), L2N.Zn cls d oe → (∃ vs, oe.data = .fields vs) → PSs (X.suite a ((a, oe) :: pn)) (s₀ :: ss) (ts a cls d)) (r : Clauses X n hs l) :
      Clauses X n (.ExceptHandler (some (.Name x p1)) (some n) (s₀ :: ss) p2 :: hs) ((c, ts) :: l)
section
variable {X : Cx} {n : Str} {i : Nat} {Wout : WX}
/-- one clause after the other is asked; a is the exception, h3 the heap in which it has landed -/
theorem clauses_run (hst : X.stack = X.env :: X.outer) (hfm : X.env.frame = some X.env.locals) (hN : X.N.Nodup) (hi : X.N[i]? = some n) (hln : X.env.kindOf n = some .local) (tk : L2N.Takes X Wout) {D : Ends} {pins : List (Addr × Obj)} {σ' : L2.St} {H' : Hp} {sI s' : Shared} {a : Addr} {B : Heap} {cls : Value} {d : Option Addr} {h3 : Heap}
    (J : Inv X pins σ' H' sI) (nb : ∀ b o, sI.heap.get? b = some o → b ∉ frs X.stack → B.get? b = some o) (up : sI.heap.UpToSlots s'.heap) (up3 : s'.heap.UpToSlots h3) (fl : HandSPX.FlyingZ B (X.env :: X.outer) a (L2N.Zn cls d) h3) (na : H' a = none) (os : s'.os = sI.os) (ag : AllBare s'.gens)
    (nL : a ≠ X.env.locals) (nF : a ∉ X.fs) : ∀ {hs : List ExceptHandler} {l : List (Value × (Addr → Value → Option Addr → TS))}, Clauses X n hs l → wAll X.K i Wout D l cls d σ' H' →
      wpAny (model X.prog X.w) X.A (handleBy (.ref a) X.env hs) (SP X pins D) X.xe { s' with heap := h3 } := by
  have ok := J.ok
  obtain ⟨o3, v3, g3, z3, f3⟩ := fl.there
  have Jl : ∀ {h : Heap}, B.StaysIn h → s'.heap.UpToSlots h → Inv X pins σ' H' { s' with heap := h } := fun {h} st u => J.landed (s' := { s' with heap := h }) nb st (up.trans u) os ag
  have S := (Jl fl.1 up3).suite g3 f3 na nL nF
  have what : PySem.W.Looks (model X.prog X.w) h3 (typeOf (.ref a)) cls := fun _ _ _ _ keep q => wpAny_typeOf_ref (keep _ _ g3) (by rw [z3.1]; exact q)
  intro hs l cl
  induction cl with
  | nil =>
    intro wish
    refine wpAny_handleBy_nil ?_
    obtain ⟨_, _, _, oe, vs, T, oT, tsx, he, hz, hd, h1, hr⟩ := id fl
    unfold PySem.passOn
    refine wpAny_bind (wpAny_field he hd h1 ?_)
    rw [if_neg (show ¬((Value.ref T == Value.none) = true) by simp)]
    have out : wpAny (model X.prog X.w) X.A (setFlight (.ref a) X.env.frame) (fun _ s4 => wpAny (model X.prog X.w) X.A (throw (.ref a) : Sem Flow) (SP X pins D) X.xe s4) X.xe { s' with heap := h3 } := by
      rw [hfm]
      exact HandSPX.setFlight_upZ fl fun h4 hh4 up4 => wpAny_throw (tk _ _ ⟨a, B, sI, pins, σ', H', cls, d, rfl, J, nb, (up.trans up3).trans up4, .inr (.inr (by rw [hst]; exact hh4)), na, os, ag, wish⟩)
    first | exact wpAny_bind (wpAny_pure (wpAny_bind out)) | exact wpAny_bind out
  | @cons x c ts s₀ ss p1 p2 hs2 l2 nm su r ih =>
    intro wish
    obtain ⟨b, e, yes, no⟩ := wish
    refine wpAny_handleBy_cons (codeAny_handlers_test ?_) (by intro q; cases q)
    have look := PySem.W.exm_one (M := model X.prog X.w) (Jl fl.1 up3).kIn what e
    have ask : ∀ {Q E : Value → Shared → Prop}, Q c { s' with heap := h3 } → wpAny (model X.prog X.w) (X.A.mark (some (.ref a))) (eval (.Name x p1) X.env) Q E { s' with heap := h3 } := fun {Q E} q => by
      obtain ⟨hg, hdb, hm | ⟨hm, hv, hne⟩⟩ := nm
      · exact ld_glob (X := X.suite a ((a, o3) :: (X.pn ++ pins))) S hg hm q hdb
      · exact ld_blt (X := X.suite a ((a, o3) :: (X.pn ++ pins))) S hg hm hv q hne hdb
    refine ask (look.here ?_)
    cases b with
    | false => exact ih (no rfl)
    | true =>
      refine codeAny_handlers_suite_as (HandSPX.lands_againZ fl fun h4 fl4 up4 => ?_)
      obtain ⟨o4, v4, g4, z4, f4⟩ := fl4.there
      have S4 := (Jl fl4.1 (up3.trans up4)).suite g4 f4 na nL nF
      refine store_ok (X := X.suite a ((a, o4) :: (X.pn ++ pins))) (v := .ref a) S4 hN hi (.inl hln) rfl (fun s5 S5 => ?_) (.inr hln)
      refine wpAny_mono ((su a o4 cls d (X.pn ++ pins) z4 ⟨_, f4⟩).run [] s5 _ H' _ S5 (yes rfl a na)) (fun f s6 sp => ?_) (fun _ _ z => z.elim)
      have gone : ∀ {σ6 : L2.St} {H6 : Hp} {Q : Shared → Prop}, Inv (X.suite a ((a, o4) :: (X.pn ++ pins))) [] σ6 H6 s6 → (∀ s7, Inv X pins (σ6.set i none) H6 s7 → Q s7) →
          wpAny (model X.prog X.w) X.A (do bindName X.env n .none; unbindBehindTheSuite X.env n p2) (fun _ s7 => Q s7) X.xe s6 := fun S6 hq => gone_ok (S6.unsuite ok) hN hi hln hq
      cases f with
      | next => exact match sp with | ⟨_, _, S6, q6⟩ => gone S6 fun s7 J7 => ⟨_, _, J7, q6⟩
      | brk => exact match sp with | ⟨_, _, S6, q6⟩ => gone S6 fun s7 J7 => ⟨_, _, J7, q6⟩
      | cont => exact match sp with | ⟨_, _, S6, q6⟩ => gone S6 fun s7 J7 => ⟨_, _, J7, q6⟩
      | ret u => exact match sp with | ⟨_, _, _, S6, r6, q6⟩ => gone S6 fun s7 J7 => ⟨_, _, _, J7, r6, q6⟩
/-- try: .. except X as n: .. except Y as n: .. -/
theorem ps_try_all {body : List Stmt} {h₀ : ExceptHandler} {hds : List ExceptHandler} {l : List (Value × (Addr → Value → Option Addr → TS))} {pos : Pos} {tb : WX → TS} (hst : X.stack = X.env :: X.outer) (hfm : X.env.frame = some X.env.locals) (hN : X.N.Nodup) (hi : X.N[i]? = some n) (hln : X.env.kindOf n = some .local) (tk : L2N.Takes X Wout)
    (hb : ∀ (W : WX) (pn : List (Addr × Obj)) (xe : Value → Shared → Prop), L2N.Takes (X.tr pn xe) W → PassesOwn (model X.prog X.w) X.A X.env xe → PSs (X.tr pn xe) body (tb W))
    (hh : Clauses X n (h₀ :: hds) l) : PS X (.Try body (h₀ :: hds) [] [] pos) (fun D σ H => tb (wAll X.K i Wout D l) D σ H) := by
  refine ⟨fun pins s σ H D I h => wpAny_Try_except ?_⟩
  have ok := I.ok
  have hfr : X.A.frames = some (X.env :: X.outer) := by rw [ok.frames, hst]
  have B1 := hb (wAll X.K i Wout D l) (X.pn ++ pins) (fun e s₁ => wpAny (model X.prog X.w) X.A (noteFrame e X.env) (fun _ s₂ => wpAny (model X.prog X.w) X.A (setFlight e none) (fun _ s₃ => wpAny (model X.prog X.w) X.A (handleBy e X.env (h₀ :: hds)) (SP X pins D) X.xe s₃) X.xe s₂) X.xe s₁)
    (fun u s' xx => ?_) PassesOwn.looking
  · refine wpAny_mono (B1.run [] s σ H D (I.toTry _) h) (fun f s1 sp => ?_) (fun _ _ z => z)
    cases f with
    | next => exact match sp with | ⟨_, _, J', q⟩ => wpAny_execs_nil ⟨_, _, J'.ofTry ok, q⟩
    | brk => exact match sp with | ⟨_, _, J', q⟩ => ⟨_, _, J'.ofTry ok, q⟩
    | cont => exact match sp with | ⟨_, _, J', q⟩ => ⟨_, _, J'.ofTry ok, q⟩
    | ret u => exact match sp with | ⟨_, _, _, J', r, q⟩ => ⟨_, _, _, J'.ofTry ok, r, q⟩
  · obtain ⟨a, B, sI, pins', σ', H', cls, d, rfl, J', nb, up, sky, na, os, ag, wish⟩ := xx
    have J := J'.ofTry (pins := pins) ok
    have sky' : Sky B (X.env :: X.outer) a (L2N.Zn cls d) X.env.locals s'.heap := by rw [← hst]; exact sky
    refine L2N.Sky.land L2N.Zn.steady hfr hfm sky' fun h3 fl up3 => ?_
    obtain ⟨oe, vs, he, hz, hd⟩ := fl.there
    have away : a ∉ frs (X.env :: X.outer) := fun hm => by
      obtain ⟨_, o', e', hnf⟩ := fl.2.2.1.mem hm
      rw [he] at e'
      cases e'
      exact hnf _ hd
    refine clauses_run hst hfm hN hi hln tk J nb up up3 fl na os ag (fun z => away (List.mem_filterMap.mpr ⟨X.env, List.mem_cons_self, by rw [hfm, z]⟩)) (fun hm => ?_) hh wish
    obtain ⟨e, he2, q⟩ := List.mem_filterMap.mp hm
    exact away (List.mem_filterMap.mpr ⟨e, List.mem_cons_of_mem _ he2, q⟩)
end
end Lay
/-! LayF: a def that is given the exception at hand, from an except suite. -/
namespace Lay
open PySem PySem.Spec PyProof.Rows L2 L2H
/-- the exception at hand as an argument: sp is told which object it is -/
structure FnE (P : Program) (w : World) (K : PySem.W.Frag) (mg : Str → Option Value) (base : Heap) (k : Nat) (f : Addr) (fd : FuncData) (ps : List Str) (sp : Addr → Value → Option Addr → Sp) : Prop where
  many : ∀ a cls d vs H Q E, sp a cls d vs H Q E → vs.length = ps.length
  goes : ∀ (A : Around) (outer : List Env) (s : Shared) (H : Hp) (args : Args) (us : List Value) (vs : List V) (Q : VK) (p : Addr × Obj) (cls : Value) (d : Option Addr), RoomH k A → Hot1 A p → L2N.Zn cls d p.2 → (∃ vs, p.2.data = .fields vs) → PinOk outer H s p → Env0 P w K mg base A outer s H → BindsTo s fd args (ps.zip us) → Vals vs us → sp p.1 cls d vs H Q E0 →
    codeAny (model P w) A (.call (.ref f) args) (CR CX0 outer P w H s Q E0) s
theorem hot_def {P : Program} {w : World} {K : PySem.W.Frag} {mg : Str → Option Value} {base : Heap} {x qual : Str} {st : Stmt} {f : Addr} {fd : FuncData} {N ps : List Str} {k : Nat} {sp : Addr → Value → Option Addr → Sp} (F : Fun K x qual st f fd) (S : FnScope N ps (defScope st))
    (many : ∀ a cls d vs H Q E, sp a cls d vs H Q E → vs.length = ps.length)
    (body : ∀ (cdv : Value) (A : Around) (outer : List Env) (s : Shared) (H : Hp) (vs : List V) (Q : VK) (p : Addr × Obj) (cls : Value) (d : Option Addr), Hot1 A p → L2N.Zn cls d p.2 → (∃ vs, p.2.data = .fields vs) → RoomH k (A.deeper (envOfC qual (defScope st) s.heap.objs.size f cdv)) → sp p.1 cls d vs H Q E0 →
      ∃ t, PSs (cxH CX0 P w K mg base N qual (defScope st) f cdv A outer s H E0 p).nox (defBody st) t ∧ t { nx := fun _ H' => Q .non H', rt := Q } (start N vs) H) :
    FnE P w K mg base (k + 1) f fd ps sp := by
  obtain ⟨oc, od, kV, doc, pm, an, cdv, ct, osl, rfl, lk, hcd⟩ := F.ex
  refine ⟨many, fun A outer s H args us vs Q p cls d hr hot hz hf pin he hb hv hs => ?_⟩
  have hl := many _ _ _ _ _ _ _ hs
  have KX : K.In s.heap := he.mod.kin.keeps fun b o e => (he.bs b o e).1
  have lim : s.heap.NoLimit := he.mod.nolimit.keeps fun b o e => (he.bs b o e).1
  have kinds : ∀ y ∈ ps.zip us, (defScope st).names.lookup y.1 = some .local ∨ ((defScope st).names.lookup y.1 = some .cell ∧ ((cellsFrom (s.heap.objs.size + 1) (defScope st).names []).lookup y.1).isSome = true) := by
    intro y hy
    rcases S.par y.1 (List.of_mem_zip hy).1 with q | q
    · exact Or.inl q
    · exact Or.inr ⟨q, PySem.W.cellsFrom_some _ _ _ (Or.inl q)⟩
  apply codeAny_call_function hr.depth (KX _ _ lk) rfl S.co S.gen rfl (PySem.W.codeRec_of KX hcd)
  apply hb
  apply wpAny_newFunctionEnv_cells S.kind kinds
  intro env henv s1 x1
  subst henv
  refine ⟨lim.keeps x1.toInCall.keep, ?_⟩
  apply codeAny_func
  obtain ⟨t, ht, q0⟩ := body cdv A outer s H vs Q p cls d hot hz hf (hr.deeper _) hs
  have I : Inv (cxH CX0 P w K mg base N qual (defScope st) f cdv A outer s H E0 p) [] (start N vs) H s1 := inv_startH S pin he hl hv x1
  refine wpAny_mono (ht.nox.run [] s1 (start N vs) H _ I q0) (fun fl s2 h2 => ?_) (fun e s2 h2 => h2)
  cases fl with
  | next =>
    obtain ⟨a, b, J, z⟩ := h2
    exact ⟨V.non, b, J.os, J.bare, J.base, J.hok, rfl, z⟩
  | ret u =>
    obtain ⟨v, a, b, J, rv, z⟩ := h2
    exact ⟨v, b, J.os, J.bare, J.base, J.hok, rv, z⟩
  | brk => exact match h2 with | ⟨_, _, _, z⟩ => z.elim
  | cont => exact match h2 with | ⟨_, _, _, z⟩ => z.elim
section
variable {X : Cx} {k : Nat} {f : Addr} {fd : FuncData} {ps : List Str} {sp : Addr → Value → Option Addr → Sp} {x : Str} {p : Addr × Obj} {cls : Value} {d : Option Addr} {q pos : Pos} {e : Expr} {es : List Expr} {t : TA}
/-- f(e, ..) in a suite, p the exception at hand -/
theorem hcall (F : FnE X.prog X.w X.K X.mg X.base k f fd ps sp) (hr : RoomH k X.A) (hot : Hot1 X.A p) (hz : L2N.Zn cls d p.2) (hf : ∃ vs, p.2.data = .fields vs) (hp : p ∈ X.pn) (hg : Gl X x) (hm : X.mg x = some (.ref f)) (hk : PySem.W.keepIn X.K (.ref f) = true) (hb : Binds X.K fd ps [])
    (ha : PA X (e :: es) t) (hdb : (x == ("__debug__" : Str)) = false := by decide) (he : starEach (e :: es) X.env = (false, eval e X.env) :: starEach es X.env := by rfl) (hpl : (backTo pos (starEach es X.env)).any (·.1) = false := by rfl) :
    PE X (.Call (.Name x q) (e :: es) [] pos) (tCl (sp p.1 cls d) t) := by
  refine ⟨fun pins s σ H Q I h => wpAny_Call_Name_kw (ld_glob I hg hm ?_ hdb)⟩
  refine PySem.W.callWith_K (h₀ := X.base) I.ok.mod.kin hk (thn (ha.run pos pins s σ H _ I h) ?_) he hpl
  rintro us s1 ⟨vs, H1, I1, r, z⟩
  refine ⟨I1.kIn, ?_⟩
  have hl : (us ++ []).length = ps.length := by
    rw [List.append_nil, ← r.length]
    exact F.many _ _ _ _ _ _ _ z
  have bb := hb s1 us I1.kIn hl
  rw [List.append_nil] at bb
  have P1 := I1.pin p (List.mem_append_left _ hp)
  have pin : PinOk X.stack H1 s1 p := ⟨P1.1, P1.2.1, fun hm2 => (List.mem_cons.mp (I1.stkSub p.1 hm2)).elim P1.2.2.1 P1.2.2.2.1, P1.2.2.2.2⟩
  refine wpAny_call (codeAny_mono (F.goes X.A X.stack s1 H1 ⟨us, []⟩ us vs Q p cls d hr hot hz hf pin I1.env0 bb r z) fun res s2 hh => ?_)
  cases res with
  | error z => exact False.elim hh
  | ok fl =>
    cases fl with
    | ret u => exact I1.after hh
    | next => exact False.elim hh
    | brk => exact False.elim hh
    | cont => exact False.elim hh
/-- isinstance(e, C), e the exception at hand: its class is at D, its dict at d or it has none -/
def rIsP (K : PySem.W.Frag) (a : Addr) (cls : Value) (d : Option Addr) : List V → Hp → VK → Prop := fun xs H Q => ∃ (c : V) (cv : Value) (D : Addr) (b : Bool), xs = [.ref a, c] ∧ ClsV c cv ∧ ExcC K D ∧ cls = .ref D ∧
  (∀ dd, d = some dd → ∃ fs, H dd = some (.xd fs)) ∧ PySem.W.kitOne K (.ref D) cv = some b ∧ Q (.bl b) H
theorem call_isP (hp : p ∈ X.pn) (hz : L2N.Zn cls d p.2) (hf : ∃ vs, p.2.data = .fields vs) : CallR X (.builtin "isinstance") (rIsP X.K p.1 cls d) := by
  intro pins s σ H xs us Q I r h
  obtain ⟨c, cv, D, b, rfl, hcv, T, ec, hd, e, z⟩ := h
  obtain ⟨vs, hv⟩ := hf
  have hcl : p.2.cls = .ref D := hz.1.trans ec
  have hdi : p.2.dict = d := hz.2.1
  obtain ⟨u1, u2, rfl, r1, r2⟩ := vals2 r
  have e2 := hcv.eq r2
  subst e2
  cases (show u1 = Value.ref p.1 from r1)
  have get := (I.pin p (List.mem_append_left _ hp)).1
  have no : PySem.W.notCls p.2 = true := by
    unfold PySem.W.notCls
    rw [hv]
  have isc : (PySem.W.clsIn X.K D).isSome = true := by
    obtain ⟨cd, hc, _⟩ := PySem.W.any_some T.hd
    rw [hc]
    rfl
  have J : ∃ od, PySem.W.InstAt s.heap p.1 p.2 D od := by
    cases hx : p.2.dict with
    | none => exact ⟨none, get, hcl, no, by rw [hx]; exact True.intro⟩
    | some d0 =>
      obtain ⟨fs, hf⟩ := hd d0 (hdi.symm.trans hx)
      obtain ⟨mA, hns, _⟩ := (show ObjOk X.prog X.w H s.heap d0 (.xd fs) from I.hok d0 _ hf)
      obtain ⟨od, ho, _⟩ := lookIn_ns hns
      exact ⟨some od, get, hcl, no, by rw [hx]; exact ho⟩
  obtain ⟨od, J⟩ := J
  exact PySem.W.kia_one (PySem.W.kitx_exc isc T.hg T.hk T.hs T.ha T.hn T.ht T.hm) I.kIn J e (fun z => nomatch z) fun tk => ⟨.bl b, H, I.tok tk, rfl, z⟩
end
theorem hot_suite {X : Cx} {a : Addr} {oe : Obj} {cls : Value} {d : Option Addr} {pn : List (Addr × Obj)} (hz : L2N.Zn cls d oe) (hf : ∃ vs, oe.data = .fields vs) : Hot1 (X.suite a pn).A (a, oe) := by
  obtain ⟨vs, hv⟩ := hf
  exact ⟨rfl, vs, hv, hz.2.2 vs hv⟩
end Lay
/-! LayG: making an error of an own class, over any of the built-in bases. -/
namespace PySem
namespace XG
open HandSPX
open Builtin Builtin.ObjectAttr
/-- the classes behind an own one: further own ones, then a built-in base's -/
structure Tail (B : String) (l : List Value) : Prop where
  pass : ∀ self : Value, refuseLoop self "__setattr__" l = pure ()
  full : l.isEmpty = false
  hasB : l.contains (.type B) = true
  obj : l.contains (.type "object") = true
  noA : l.contains (.type "AttributeError") = false
  noN : l.contains (.type "NameError") = false
theorem Tail.own {B : String} {l : List Value} (t : Tail B l) (c : Addr) : Tail B (.ref c :: l) := by
  refine ⟨fun self => ?_, rfl, ?_, ?_, ?_, ?_⟩
  · rw [refuseLoop_ref]
    exact t.pass self
  all_goals rw [List.contains_cons]
  · rw [t.hasB, Bool.or_true]
  · rw [t.obj, Bool.or_true]
  · rw [t.noA]; rfl
  · rw [t.noN]; rfl
theorem tail_VE : Tail "ValueError" [.type "ValueError", .type "Exception", .type "BaseException", .type "object"] := ⟨F.store_ValueError.passes, rfl, by decide +kernel, by decide +kernel, by decide +kernel, by decide +kernel⟩
theorem tail_IE : Tail "IndexError" [.type "IndexError", .type "LookupError", .type "Exception", .type "BaseException", .type "object"] := ⟨F.store_IndexError.passes, rfl, by decide +kernel, by decide +kernel, by decide +kernel, by decide +kernel⟩
theorem tail_OE : Tail "OverflowError" [.type "OverflowError", .type "ArithmeticError", .type "Exception", .type "BaseException", .type "object"] := ⟨F.store_OverflowError.passes, rfl, by decide +kernel, by decide +kernel, by decide +kernel, by decide +kernel⟩
theorem tail_AE : Tail "ArithmeticError" [.type "ArithmeticError", .type "Exception", .type "BaseException", .type "object"] := ⟨F.store_ArithmeticError.passes, rfl, by decide +kernel, by decide +kernel, by decide +kernel, by decide +kernel⟩
theorem tail_LE : Tail "LookupError" [.type "LookupError", .type "Exception", .type "BaseException", .type "object"] := ⟨F.store_LookupError.passes, rfl, by decide +kernel, by decide +kernel, by decide +kernel, by decide +kernel⟩
/-- KeyError is made by LookupError's maker -/
theorem tail_KE : Tail "LookupError" [.type "KeyError", .type "LookupError", .type "Exception", .type "BaseException", .type "object"] := ⟨fun self => by kernel_rfl, rfl, by decide +kernel, by decide +kernel, by decide +kernel, by decide +kernel⟩
section
variable {prog : Program} {w : World} {A : Around} {E : Value → Shared → Prop} {R : Result → Shared → Prop} {h : Heap} {g : Array GenState} {d : Drawn} {t : Nat} {os : OsState}
variable {nm q : Str} {C N : Addr} {bs bm bmB : List Value} {hdct : Bool} {sn : List Str} {sub : List Value} {ab : Bool} {col : Option Bool} {dd : Option Addr} {k0 k1 k2 k3 k5 : Option Value} {B newId initId : String}
theorem check_make {M : Model} (F : ExcBaseFacts B newId initId bmB) (T : Tail B bm) {args : List Value} {Q : Unit → Shared → Prop}
    (hC : h.get? C = some (excClassObj nm q C N bs bm hdct sn sub ab col dd k0 k1 k2 k3 k5 newId)) (z : Q () ⟨h, g, d, t, os⟩) : wpAny M A (checkBuiltinCall newId ⟨.ref C :: args, []⟩) Q E ⟨h, g, d, t, os⟩ := by
  have e1 : (Value.ref C :: bm).contains (.type B) = true := (T.own C).hasB
  have e2 := F.noStar
  simp only [checkBuiltinCall, F.newKind, F.newSplit, F.newRow]
  repeat (first | refine wpAny_loadPart_at hC ?_ | (refine wpAny_isSubtype_exc hC ?_; rw [e1]) | refine wpAny_staticBase_exc hC ?_ | refine wpAny_madeBy_exc hC ?_ | (simp only [bne_self_eq_false, Bool.false_eq_true, if_false]) | wp_step)
  exact z
theorem make_raw (F : ExcBaseFacts B newId initId bmB) (T : Tail B bm) {args : List Value} (hC : h.get? C = some (excClassObj nm q C N bs bm hdct sn sub ab col dd k0 k1 k2 k3 k5 newId)) (hl : args.length ≤ sizeLine)
    (z : R (.ok (.ret (.ref (h.objs.size + 1)))) ⟨(h.push (W.kdv_tup args)).push (excO C h.objs.size), g, d, t, os⟩) : codeAny (model prog w) A (.builtin newId ⟨.ref C :: args, []⟩) R ⟨h, g, d, t, os⟩ := by
  have e0 := F.ends
  have e1 : (Value.ref C :: bm).contains (.type B) = true := (T.own C).hasB
  have e2 : (Value.ref C :: bm).contains (.type "AttributeError") = false := (T.own C).noA
  have e3 : (Value.ref C :: bm).contains (.type "NameError") = false := (T.own C).noN
  refine codeAny_builtinAt F.entry ?_
  unfold Builtin.«BaseException.__new__»
  refine wpAt_bind ?_
  show wpAt _ _ _ (stack >>= _) _ _ _
  refine wpAt_bind (wpAt_stack fun p below => wpAt_of_wpAny ?_)
  wp_walk
  refine wpAt_of_wpAny ?_
  rw [F.owner]
  repeat (first | with_reducible refine wpAny_madeHere_exc F.canon hC ?_ | with_reducible refine wpAny_loadPart_at hC ?_ | (with_reducible refine wpAny_isSubtype_exc hC ?_; (first | rw [e1] | rw [e2] | rw [e3])) | wp_step)
  show R _ _
  rw [Heap.size_push]
  exact z
theorem make_in (F : ExcBaseFacts B newId initId bmB) (T : Tail B bm) {args : List Value} {fI : Addr} {Q : Fin → Shared → Prop} (hC : h.get? C = some (excClassObj nm q C N bs bm hdct sn sub ab col dd k0 k1 k2 k3 k5 newId))
    (hi : W.Looks (model prog w) h (typeLookup (.ref C) "__init__") (some (.ref fI))) (hb : ∀ self, W.Looks (model prog w) h (bindSpecial (.ref fI) self) (.ref fI, [self])) (hl : args.length ≤ sizeLine)
    (z : codeAny (model prog w) A (.call (.ref fI) ⟨.ref (h.objs.size + 1) :: args, []⟩) (fun r s' => match r with | .ok (.ret v) => v = .none ∧ Q (.done (.ret (.ref (h.objs.size + 1)))) s' | .ok _ => False | .error e => E e s') ⟨(h.push (W.kdv_tup args)).push (excO C h.objs.size), g, d, t, os⟩) :
    wpAny (model prog w) A (Builtin.«type.__call__» ⟨.ref C :: args, []⟩) Q E ⟨h, g, d, t, os⟩ := by
  repeat (first | with_reducible refine wpAny_loadPart_at hC ?_ | with_reducible refine wpAny_madeBy_exc hC ?_ | wp_step)
  refine codeAny_call_builtin_code (Code.quiet_builtin _ F.quiet) (check_make F T hC (make_raw F T hC hl ?_))
  show wpAny _ _ _ _ _ _
  have up : ∀ b o, h.get? b = some o → ((h.push (W.kdv_tup args)).push (excO C h.objs.size)).get? b = some o := fun b o e => Heap.get?_push_of_some _ (Heap.get?_push_of_some _ e)
  have atC := up _ _ hC
  have atE : ((h.push (W.kdv_tup args)).push (excO C h.objs.size)).get? (h.objs.size + 1) = some (excO C h.objs.size) := by heap_get
  have self1 : (Value.ref C :: bm).contains (.ref C) = true := by simp
  have j1 := hi.keeps up
  have j2 := (hb (.ref (h.objs.size + 1))).keeps up
  unfold isInstance
  repeat (first | with_reducible refine wpAny_loadPart_at atE ?_ | (with_reducible refine wpAny_isSubtype_exc atC ?_; rw [self1]) | wp_step)
  show wpAny _ _ (typeLookup (.ref C) _) _ _ _
  refine j1.at (wpAny_holding (wpAny_bind (j2.at (wpAny_bind (wpAny_call (codeAny_mono z fun r s' y => ?_))))))
  rcases r with e | (v | _ | _ | _) <;> first | exact y | exact y.elim | skip
  obtain ⟨rfl, y⟩ := y
  first | exact wpAny_pure (wpAny_pure y) | (wp_walk; exact y)
/-- C(..), C an own class of errors with its own __init__ -/
theorem make_call (F : ExcBaseFacts B newId initId bmB) (T : Tail B bm) {args : List Value} {fI : Addr} (hC : h.get? C = some (excClassObj nm q C N bs bm hdct sn sub ab col dd k0 k1 k2 k3 k5 newId))
    (hi : W.Looks (model prog w) h (typeLookup (.ref C) "__init__") (some (.ref fI))) (hb : ∀ self, W.Looks (model prog w) h (bindSpecial (.ref fI) self) (.ref fI, [self])) (hl : args.length ≤ sizeLine)
    (z : codeAny (model prog w) (A.under (.builtin "type.__call__" ⟨.ref C :: args, []⟩)) (.call (.ref fI) ⟨.ref (h.objs.size + 1) :: args, []⟩) (W.InitBack (h.objs.size + 1) R) ⟨(h.push (W.kdv_tup args)).push (excO C h.objs.size), g, d, t, os⟩) :
    codeAny (model prog w) A (.call (.ref C) ⟨args, []⟩) R ⟨h, g, d, t, os⟩ := by
  have l1 := tc_lookup
  have l2 := tc_bind (.ref C)
  have ty : (⟨h, g, d, t, os⟩ : Shared).TypeIs (.ref C) "type" := ⟨_, hC, rfl⟩
  refine codeAny_of_tree ?_
  show wpAny _ _ (callAny (.ref C) _) _ _ _
  repeat (any_goals (first | assumption | with_reducible refine wpAny_loadPart_at hC ?_ | wp_step))
  refine ⟨rfl, codeAny_call_builtin_at (Code.quiet_builtin _ (by decide +kernel)) entry_typeCall (wpAny_check_type_call_sub hC (make_in F T hC hi hb hl (codeAny_mono z fun r s' y => ?_)))⟩
  rcases r with e | (v | _ | _ | _) <;> exact y
/-- the first field of such an error -/
theorem store_first {K : W.Frag} {f : Str} {tk : Tok} {v : Value} {x : Addr} {fv : Array Value} {cd : ClassData} {bm : List Value} {B : String} (T : Tail B bm) (X : K.In h) (hx : h.get? x = some { cls := .ref C, data := .fields fv }) (hcd : W.clsIn K C = some cd) (hm : cd.mro = .ref C :: bm) (hh : cd.hasDict = true)
    (no : W.findIn K (.ref C) f = some none)
    (z : ∀ h' tk' dx, (∀ b o, b ≠ x → h.get? b = some o → h'.get? b = some o) → h.objs.size ≤ dx → dx ≠ x → h'.get? x = some { cls := .ref C, dict := some dx, data := .fields fv } → h'.Ns1 dx (fun y => if y = f then some v else none) → R (.ok (.ret .none)) ⟨h', g, d, tk', os⟩) :
    codeAny (model prog w) A (.call (.builtin "object.__setattr__") ⟨[.ref x, .str f tk, v], []⟩) R ⟨h, g, d, t, os⟩ := by
  have T1 := T.own C
  rw [← hm] at T1
  have I : W.InstAt h x { cls := .ref C, data := .fields fv } C none := ⟨hx, rfl, rfl, trivial⟩
  have SF := F.store_object
  have apart : x ≠ h.objs.size := Nat.ne_of_lt (Heap.lt_size hx)
  have isObj : W.Looks (model prog w) h (isInstance (.ref x) (.type "object")) true := I.type.andThen (W.looks_mroIn X (by unfold W.mroIn; rw [hcd, Option.bind_some, if_neg (by rw [T1.full]; decide), T1.obj]))
  refine codeAny_call_builtin SF.slot.plain SF.entry (@W.check_slot (model prog w) _ _ ⟨h, g, d, t, os⟩ "object.__setattr__" "object" "__setattr__" (.ref x) [.str f tk, v] [] _ SF.kind SF.split isObj (SF.args (.ref x) (.str f tk) v) ?_)
  have chain : W.Looks (model prog w) h (mroOf (.ref C)) cd.mro := (W.looks_clsIn X hcd).andThen .now
  have taker : W.Looks (model prog w) h (storeTaker? none) none := .now
  have data : W.Looks (model prog w) h (classData C) cd := W.looks_clsIn X hcd
  rw [W.osa_eq, refuse_eq]
  refine wpAny_bind (wpAny_bind (I.type.at (wpAny_bind (chain.at ?_))))
  rw [T1.pass]
  refine wpAny_pure (wpAny_bind (I.type.at (wpAny_bind ((W.looks_findIn X no).at (wpAny_bind (taker.at ?_))))))
  show wpAny _ _ (storeInOwnDict (.ref x) (.ref C) (.str f tk) f v false) _ _ _
  clear chain T1 isObj
  obtain ⟨c1, c2, c3, c4, c5, c6, c7, c8, c9, c10, c11⟩ := cd
  dsimp only at hh
  subst hh
  unfold storeInOwnDict ownDictForStores
  repeat (first | with_reducible refine store_in_new ?_ ?_ | with_reducible refine wpAny_loadPart_at hx ?_ | with_reducible refine data.at ?_ | wp_step)
  · exact ⟨_, #[], _, (Heap.get?_update_ne _ _ _ _ apart.symm).trans (Heap.get?_push_at rfl rfl), rfl, (fun e he => absurd he (by simp)), fun _ => rfl⟩
  · intro h' tk' hn' hs
    have there : (h.push { cls := .type "dict", data := .dict #[] }).get? x = some { cls := .ref C, data := .fields fv } := Heap.get?_push_of_some _ hx
    refine z h' tk' h.objs.size (fun b o hb ho => ?_) (Nat.le_refl _) apart.symm ((hs.2 x apart).trans (Heap.get?_update_self _ there rfl)) hn'
    exact (hs.2 b (Nat.ne_of_lt (Heap.lt_size ho))).trans ((Heap.get?_update_ne _ _ _ _ hb).trans (Heap.get?_push_of_some _ ho))
end
end XG
end PySem
/-! LayH: the rules for such errors: self.f = e in __init__, C(e) made (its context None). -/
namespace Lay
open PySem PySem.Spec PyProof.Rows L2
/-- what the written part says of the class at C, an own one over the built-in B -/
structure Xc (K : PySem.W.Frag) (C : Addr) (B newId : String) : Prop where
  cls : ∃ nm q N bs bm sn sub ab col dd k0 k1 k2 k3 k5, K.lookup C = some (excClassObj nm q C N bs bm true sn sub ab col dd k0 k1 k2 k3 k5 newId) ∧ PySem.XG.Tail B bm
  sa : PySem.W.findIn K (.ref C) "__setattr__" = some (some (.builtin "object.__setattr__"))
  exC : PySem.W.subIn K (.ref C) (.type "BaseException") = some true
  tyC : PySem.W.typeIn K (.ref C) = some (.type "type")
  kC : PySem.W.keepIn K (.ref C) = true
section
variable {X : Cx} {pins : List (Addr × Obj)} {σ : L2.St} {H : Hp} {s : Shared} {a C dx : Addr} {f : Str} {y : V} {u : Value} {Q : Unit → Shared → Prop} {E : Value → Shared → Prop} {A : Around} {B newId : String}
theorem set_first (T : Xc X.K C B newId) (I : Inv X pins σ H s) (e : H a = some (exo a C none)) (no : PySem.W.findIn X.K (.ref C) f = some none) (ry : RelV y u)
    (z : ∀ dx s', H dx = none → dx ≠ a → Inv X pins σ (upd (upd H dx (exd dx [(f, y)])) a (exo a C (some dx))) s' → Q () s') : wpAny (model X.prog X.w) A (setAttr (.ref a) f u) Q E s := by
  obtain ⟨nm, q, N, bs, bm, sn, sub, ab, col, dd, k0, k1, k2, k3, k5, hC, hbm⟩ := T.cls
  have hcl : PySem.W.clsIn X.K C = some { name := nm, bases := bs, mro := .ref C :: bm, ns := N, qualname := q, hasDict := true, slotNames := sn, subclasses := sub, abstract := ab, collection := col, hasDel := false } := by
    unfold PySem.W.clsIn
    rw [hC]
  obtain ⟨t1, ho⟩ := exo_at I.hok e
  obtain ⟨hp, g, d, t, os⟩ := s
  refine PySem.W.set_plain I.kIn (ox := { cls := .ref C, dict := none, data := .fields #[.ref t1, .none, .none, .none, .bool false, .none] }) (od := none) ⟨ho, rfl, rfl, trivial⟩ T.sa ?_
  refine PySem.XG.store_first hbm I.kIn ho hcl rfl rfl no (fun h' tk' dx kp dn dne hx hn => ?_)
  have new : H dx = none := I.hok.fresh dn
  have below : ∀ {b : Addr} {o : Obj}, hp.get? b = some o → b ≠ dx := fun q => Nat.ne_of_lt (Nat.lt_of_lt_of_le (Heap.lt_size q) dn)
  have nota : ∀ {b : Addr}, H b = none → b ≠ a := fun n z => by
    rw [z, e] at n
    cases n
  -- what is tracked and is neither the error nor its dict stands as before
  have stay : ∀ {b : Addr} {u : HO}, H b = some u → (exo a C none) ≠ u → upd (upd H dx (exd dx [(f, y)])) a (exo a C (some dx)) b = some u := fun {b u} hb ne => by
    rw [upd_ne (at_ne e hb ne), upd_ne (ne_of_none hb new)]
    exact hb
  have U : Un X.fs [] H (upd (upd H dx (exd dx [(f, y)])) a (exo a C (some dx))) hp h' :=
    { keep := fun b o q n _ _ => kp b o (nota n) q,
      slot := fun b o q n _ _ => ⟨o.slots, kp b o (nota n) q⟩,
      free := fun b o q n _ => by
        rw [upd_ne (nota n), upd_ne (below q)]
        exact n,
      there := fun b o q _ => by
        by_cases hb : b = a
        · exact ⟨_, by rw [hb]; exact hx⟩
        · exact ⟨o, kp b o hb q⟩,
      tups := fun b xs q => stay q exo_tup,
      frzs := fun b o v q => stay q exo_frz,
      tbls := fun b ps q => ⟨#[], by rw [stay q exo_tbl]; simp⟩ }
  refine z dx _ new dne (I.un (t' := tk') U fun b o q => ?_)
  by_cases hb : b = a
  · subst hb
    rw [upd_same] at q
    cases q
    exact exo_ok hx
  rw [upd_ne hb] at q
  by_cases hd : b = dx
  · subst hd
    rw [upd_same] at q
    cases q
    exact exd_ok hn (relO_put (fs := []) ry fun g => True.intro)
  rw [upd_ne hd] at q
  refine (I.hok b o q).stay (fun c v hc z => kp c v ?_ z) (fun c hc => stay hc exo_own) (fun c xs hc => stay hc exo_tup)
  rcases hc with hc | hc
  · rw [hc]
    exact hb
  · exact at_ne e hc exo_own
end
/-- self.f = e, the only field -/
def tSet1 (K : PySem.W.Frag) (B newId : String) (f : Str) (to te : TE) : TS := fun D σ H => te σ H fun y H1 => to σ H1 fun x H2 => ∃ a C : Addr, x = .ref a ∧ Xc K C B newId ∧ PySem.W.findIn K (.ref C) f = some none ∧
  H2 a = some (exo a C none) ∧ ∀ dx, H2 dx = none → dx ≠ a → D.nx σ (upd (upd H2 dx (exd dx [(f, y)])) a (exo a C (some dx)))
theorem ps_set1 {X : Cx} {o e : Expr} {to te : TE} {f : Str} {p' pos : Pos} {B newId : String} (ho : PE X o to) (he : PE X e te) (hs : swapsWith e (some (.Attribute o f p')) pos.line X.env = pure false := by rfl) : PS X (.Assign [.Attribute o f p'] e pos) (tSet1 X.K B newId f to te) := by
  refine ⟨fun pins s σ H D I h => plainObj_wpAny_Assign_Attribute (thn (he.run pins s σ H _ I h) ?_) hs⟩
  rintro v s1 ⟨y, H1, I1, r1, q1⟩
  refine thn (ho.run pins s1 σ H1 _ I1 q1) ?_
  rintro u s2 ⟨x, H2, I2, r2, a, C, rfl, T, no, ea, q⟩
  cases (show u = Value.ref a from r2)
  exact set_first T I2 ea no r1 fun dx s' n ne J => ⟨σ, _, J, q dx n ne⟩
/-- what __init__(self, v) of such a class promises -/
def spIni (K : PySem.W.Frag) (B newId : String) (f : Str) : Sp := fun vs H Q _ => ∃ (a C : Addr) (v : V), vs = [.ref a, v] ∧ Xc K C B newId ∧ PySem.W.findIn K (.ref C) f = some none ∧ H a = some (exo a C none) ∧
  ∀ dx, H dx = none → dx ≠ a → Q .non (upd (upd H dx (exd dx [(f, v)])) a (exo a C (some dx)))
/-- C(e): an error whose own dict, new, holds f -/
def tMk1 (C : Addr) (f : Str) (ta : TA) : L2.St → Hp → XK → Prop := fun σ H Q => ta σ H fun vs H1 => ∃ v, vs = [v] ∧ ∀ d, H1 d = none → Q (.ref C) (some d) (upd H1 d (.xd [(f, v)]))
section
variable {X : Cx} {B newId initId : String} {bmB : List Value} {x f : Str} {C fI : Addr} {k : Nat} {fd : FuncData} {ps : List Str} {e : Expr} {es : List Expr} {ta : TA} {p pos : Pos}
theorem del_upd {H : Hp} {a d : Addr} {o u : HO} (hd : d ≠ a) (ha : H a = none) : upd (del (upd (upd H d o) a u) a) d o = upd H d o := by
  funext b
  by_cases h1 : b = d
  · rw [h1, upd_same, upd_same]
  · rw [upd_ne h1, upd_ne h1]
    by_cases h2 : b = a
    · rw [h2, del_same, ha]
    · rw [del_ne h2, upd_ne h2, upd_ne h1]
theorem pmk_init (F : ExcBaseFacts B newId initId bmB) (T : Xc X.K C B newId) (no : PySem.W.findIn X.K (.ref C) f = some none) (iC : PySem.W.findIn X.K (.ref C) "__init__" = some (some (.ref fI))) (tI : PySem.W.typeIn X.K (.ref fI) = some (.type "function"))
    (F1 : FnOk X.prog X.w X.K X.mg X.base CX0 k fI fd ps (spIni X.K B newId f)) (hr : Room (k + 1) X.A) (hb : Binds X.K fd ps []) (hg : Gl X x) (hm : X.mg x = some (.ref C)) (ha : PA X (e :: es) ta)
    (hdb : (x == ("__debug__" : Str)) = false := by decide) (he : starEach (e :: es) X.env = (false, eval e X.env) :: starEach es X.env := by rfl) (hpl : (backTo pos (starEach es X.env)).any (·.1) = false := by rfl) :
    L2N.PMk X (.Call (.Name x p) (e :: es) [] pos) (tMk1 C f ta) := by
  intro pins s σ H Q I h
  obtain ⟨nm, q, N, bs, bm, sn, sub, ab, col, dd, k0, k1, k2, k3, k5, hC, hbm⟩ := T.cls
  refine wpAny_Call_Name_kw (ld_glob I hg hm ?_ hdb)
  refine PySem.W.callWith_K (h₀ := X.base) I.ok.mod.kin T.kC (thn (ha.run pos pins s σ H _ I h) ?_) he hpl
  rintro us s1 ⟨vs, H1, I1, r1, v, rfl, q1⟩
  refine ⟨I1.kIn, ?_⟩
  show wpAny _ _ (call (.ref C) us) _ _ _
  obtain ⟨hp, g, dr, tk, os⟩ := s1
  have above : hp.objs.size ≤ hp.objs.size + 1 := Nat.le_succ _
  have free : H1 (hp.objs.size + 1) = none := I1.hok.fresh above
  have up : ∀ b o, hp.get? b = some o → ((hp.push (PySem.W.kdv_tup us)).push (PySem.HandSPX.excO C hp.objs.size)).get? b = some o := fun b o e => Heap.get?_push_of_some _ (Heap.get?_push_of_some _ e)
  have at1 : ((hp.push (PySem.W.kdv_tup us)).push (PySem.HandSPX.excO C hp.objs.size)).get? (hp.objs.size + 1) = some (PySem.HandSPX.excO C hp.objs.size) := by heap_get
  have I2 : Inv X pins σ (upd H1 (hp.objs.size + 1) (exo (hp.objs.size + 1) C none)) ⟨(hp.push (PySem.W.kdv_tup us)).push (PySem.HandSPX.excO C hp.objs.size), g, dr, tk, os⟩ := I1.laid (t' := tk) up above (exo_ok at1)
  have r2 : Vals [V.ref (hp.objs.size + 1), v] (Value.ref (hp.objs.size + 1) :: us) := .cons rfl r1
  -- the promise of __init__ at hand, with the end that is wanted
  have wish : spIni X.K B newId f [V.ref (hp.objs.size + 1), v] (upd H1 (hp.objs.size + 1) (exo (hp.objs.size + 1) C none))
      (fun w2 H2 => w2 = .non ∧ ∃ d, H1 d = none ∧ d ≠ hp.objs.size + 1 ∧ H2 = upd (upd (upd H1 (hp.objs.size + 1) (exo (hp.objs.size + 1) C none)) d (exd d [(f, v)])) (hp.objs.size + 1) (exo (hp.objs.size + 1) C (some d))) E0 :=
    ⟨_, C, v, rfl, T, no, upd_same, fun d hd hne => ⟨rfl, d, by rw [upd_ne hne] at hd; exact hd, hne, rfl⟩⟩
  have hl : (Value.ref (hp.objs.size + 1) :: us ++ []).length = ps.length := by
    rw [List.append_nil, ← r2.length]
    exact F1.len _ _ _ _ wish
  have b2 := hb _ (Value.ref (hp.objs.size + 1) :: us) I2.kIn hl
  rw [List.append_nil] at b2
  have small : us.length ≤ sizeLine := by
    rw [← Paired.length r1]
    exact (by decide : 1 ≤ sizeLine)
  refine wpAny_call (PySem.XG.make_call F hbm (I1.kIn _ _ hC) (PySem.W.looks_findIn I1.kIn iC) (fun self => PySem.W.bind_fn I1.kIn self tI) small
    (codeAny_mono (F1.run _ X.stack _ _ ⟨Value.ref (hp.objs.size + 1) :: us, []⟩ (Value.ref (hp.objs.size + 1) :: us) _ _ E0 (hr.make C us []) (I2.env0.make C us []) b2 r2 wish) fun r s' hq' => ?_))
  cases r with
  | error er => exact False.elim hq'
  | ok fl =>
    cases fl with
    | next => exact False.elim hq'
    | brk => exact False.elim hq'
    | cont => exact False.elim hq'
    | ret u =>
      obtain ⟨w2, H2, os2, bare2, un2, hok2, rv, rfl, d, hd1, hdn, rfl⟩ := hq'
      obtain ⟨h2, g2, d2, t2, os'⟩ := s'
      obtain ⟨t0, G, J, kG, ge, hoe, na⟩ := mk_end0 (d2 := d2) (t2 := t2) I1 above up un2 hok2 os2 bare2 (d := d) (fs := [(f, v)]) upd_same (by rw [upd_ne hdn, upd_same]) hd1
      have eH : upd (del (upd (upd (upd H1 (hp.objs.size + 1) (exo (hp.objs.size + 1) C none)) d (exd d [(f, v)])) (hp.objs.size + 1) (exo (hp.objs.size + 1) C (some d))) (hp.objs.size + 1)) d (.xd [(f, v)]) = upd H1 d (.xd [(f, v)]) := by
        funext b
        by_cases h1 : b = d
        · rw [h1, upd_same, upd_same]
        · rw [upd_ne h1, upd_ne h1]
          by_cases h2 : b = hp.objs.size + 1
          · rw [h2, del_same, free]
          · rw [del_ne h2, upd_ne h2, upd_ne h1, upd_ne h2]
      rw [eH] at J na
      refine ⟨rv, hp.objs.size + 1, _, _, ⟨G, g2, d2, t2, os'⟩, _, .ref C, some d, rfl, J, kG, ge, hoe, ⟨rfl, rfl, fun vs hv => ?_⟩, rfl, rfl, na, rfl, bare2, raises_own T.exC T.tyC, q1 d hd1⟩
      cases hv
      rfl
/-- C(e), C an own class of errors without an own __init__ -/
theorem pmk_text (F : ExcBaseFacts B newId initId bmB) (q : PySem.W.excIn X.K C bmB newId = true) (gC : X.mg x = some (.ref C)) (kC : PySem.W.keepIn X.K (.ref C) = true) (r : Raises X (.ref C)) (hg : Gl X x) (ha : PA X (e :: es) ta)
    (hdb : (x == ("__debug__" : Str)) = false := by decide) (he : starEach (e :: es) X.env = (false, eval e X.env) :: starEach es X.env := by rfl) (hpl : (backTo pos (starEach es X.env)).any (·.1) = false := by rfl) :
    L2N.PMk X (.Call (.Name x p) (e :: es) [] pos) (fun σ H Q => ta σ H fun vs H1 => vs.length ≤ 1000 ∧ Q (.ref C) none H1) := by
  intro pins s σ H Q I h
  refine wpAny_Call_Name_kw (ld_glob I hg gC ?_ hdb)
  refine PySem.W.callWith_K (h₀ := X.base) I.ok.mod.kin kC (thn (ha.run pos pins s σ H _ I h) ?_) he hpl
  rintro us s1 ⟨vs, H1, I1, r1, hl, q1⟩
  refine ⟨I1.kIn, ?_⟩
  show wpAny _ _ (call (.ref C) us) _ _ _
  obtain ⟨bm, N, nm, qn, bs, hdct, sn, sub, ab, col, dd, k0, k1, k2, k3, k5, mN, hC, hN, hni, T⟩ := exc_obj I1.kIn q
  have small : us.length ≤ sizeLine := by
    rw [← Paired.length r1]
    exact Nat.le_trans hl (by decide)
  exact wpAny_call_exc_subT F T hC hN hni (fun h' e hm => L2N.mk_of I1 hm r q1 (I1.hok.gone hm.new)) small
end
end Lay
/-! LayI: repr of a value of any kind; a text times a number. -/
namespace Lay
open PySem PySem.Spec PyProof.Rows L2
/-- the value v is shown as z -/
inductive Sh (K : PySem.W.Frag) (H : Hp) : V → Str → Prop
  | int (i : Int) (h : i.natAbs.log2 < 1920) : Sh K H (.int i) (toString i)
  | str (x : Str) (h : (reprText x).length ≤ sizeLine) : Sh K H (.str x) (reprText x)
  | bl (b : Bool) : Sh K H (.bl b) (if b then "True" else "False")
  | non : Sh K H .non "None"
  | dat {a : Addr} {d : PyData} (h : Dp K H (.ref a) d) (h1 : d.showable = true) (h2 : d.hasDict = false) (h3 : d.depth ≤ 20) (h4 : d.shown.length ≤ sizeLine) : Sh K H (.ref a) d.shown
  | dct {p t : Addr} {k : Str} {is : List Int} (h : H p = some (.dK [(.inr k, .ref t)])) (ht : H t = some (.tup (is.map V.int))) (h1 : (PyData.dict [(.str k, .tuple (is.map PyData.int))]).showable = true)
      (h4 : (PyData.dict [(.str k, .tuple (is.map PyData.int))]).shown.length ≤ sizeLine) (h3 : (PyData.dict [(.str k, .tuple (is.map PyData.int))]).depth ≤ 20) : Sh K H (.ref p) (PyData.dict [(.str k, .tuple (is.map PyData.int))]).shown
theorem reads_ints {h : Heap} : ∀ {is : List Int} {us : List Value}, Vals (is.map V.int) us → ReadsAll h us (is.map PyData.int) []
  | [], _, .nil => .nil
  | i :: r, _, .cons (b := u) hu ht => by
    obtain ⟨t, rfl⟩ := hu
    exact ReadsAll.cons (as := []) (bs := []) (Reads.int i t) (reads_ints ht)
def rShow (K : PySem.W.Frag) : List V → Hp → VK → Prop := fun xs H Q => ∃ v z, xs = [v] ∧ Sh K H v z ∧ Q (.str z) H
section
variable {X : Cx}
theorem call_show (hq : Quiet X.A) (hu : X.A.units + 64 < cLine) : CallR X (.builtin "repr") (rShow X.K) := by
  intro pins s σ H xs us Q I r h
  obtain ⟨v, z, rfl, hs, q⟩ := h
  obtain ⟨u, rfl, ru⟩ := vals1 r
  cases hs with
  | int i hi =>
    obtain ⟨t, rfl⟩ := ru
    exact PySem.P.repr_of_int hi ⟨.str _, H, I.tok _, ⟨_, rfl⟩, q⟩
  | str x hx =>
    obtain ⟨t, rfl⟩ := ru
    exact PySem.P.repr_of_str ⟨.str _, H, I.tok _, ⟨_, rfl⟩, q⟩ hx
  | bl b =>
    cases (show u = Value.bool b from ru)
    exact PySem.P.repr_of_bool ⟨.str _, H, I.tok _, ⟨_, rfl⟩, q⟩
  | non =>
    cases (show u = Value.none from ru)
    exact PySem.P.repr_of_none ⟨.str _, H, I.tok _, ⟨_, rfl⟩, q⟩
  | @dat a d hd h1 h2 h3 h4 =>
    cases (show u = Value.ref a from ru)
    obtain ⟨as, rd⟩ := Dp.reads I d (.ref a) (.ref a) hd rfl
    exact repr_of_reads' rd h1 (fun z => by rw [h2] at z; cases z) hq (by omega) (fun _ _ z => z) (fun h' u tk hk => ⟨.str d.shown, H, I.kept hk, ⟨u, rfl⟩, q⟩) h4
  | @dct p t k is hp ht h1 h4 h3 =>
    cases (show u = Value.ref p from ru)
    obtain ⟨_, nosys, vs, kv, o, es, ep, ho, hex, hd, _, hpr, _⟩ := (show ObjOk X.prog X.w H s.heap p (.dK [(.inr k, .ref t)]) from I.hok p _ hp)
    obtain ⟨_, its, rv, hT⟩ := (show ObjOk X.prog X.w H s.heap t (.tup (is.map V.int)) from I.hok t _ ht)
    obtain ⟨ot, hot, hct, n, hdt⟩ := hT
    cases kv with
    | @cons _ q2 _ _ e1 e2 =>
      cases e2
      obtain ⟨ky, w2⟩ := q2
      obtain ⟨e1, e3⟩ := e1
      cases e1
      cases (show w2 = Value.ref t from e3)
      generalize hl : es.toList = l at hpr
      cases hpr with
      | @cons e kv es2 kvs2 hk hv hr =>
        cases hr
        obtain ⟨eh, ek, ev⟩ := e
        have hk' : Value.isStrOf k ek = true := hk
        obtain ⟨tk, rfl⟩ : ∃ tk, ek = .str k tk := by
          cases ek with
          | str y u =>
            have e9 : (y == k) = true := hk'
            rw [beq_iff_eq] at e9
            exact ⟨u, by rw [e9]⟩
          | _ => cases hk'
        cases hv
        have rt : Reads s.heap (.ref t) (.tuple (is.map PyData.int)) [] := Reads.tuple hot hct hdt (reads_ints rv)
        have rd : Reads s.heap (.ref p) (.dict [(.str k, .tuple (is.map PyData.int))]) (p :: ([] ++ []) ++ ([] ++ [])) := by
          refine Reads.dict ho hex.1 hd ?_ ?_
          · rw [hl]
            exact ReadsAll.cons (Reads.str k tk) ReadsAll.nil
          · rw [hl]
            exact ReadsAll.cons rt ReadsAll.nil
        refine repr_of_reads' rd h1 (fun _ z => ?_) hq (by omega) (fun _ _ z => z) (fun h' u tk hk => ⟨.str _, H, I.kept hk, ⟨u, rfl⟩, q⟩) h4
        have e0 : sysModules = p := by simpa using z
        rw [← e0] at nosys
        exact absurd nosys (by decide)
theorem times_size (c : Array Nat) : ∀ (n : Nat) (a : Array Nat), (List.foldl (fun x1 x2 => x1 ++ x2) a (List.replicate n c)).size = a.size + n * c.size
  | 0, a => by simp
  | n + 1, a => by
    rw [List.replicate_succ, List.foldl_cons, times_size c n (a ++ c), Array.size_append, Nat.succ_mul]
    omega
/-- a text times a number: which text it is is not told -/
def rTimes : R2 := fun x y H Q => ∃ z n, x = .str z ∧ y = .int n ∧ 1 ≤ n ∧ n ≤ 1000 ∧ 1 ≤ z.length ∧ z.length ≤ 1000 ∧ ∀ w : Str, Q (.str w) H
theorem op_times : OpR X (binaryOp .Mult) rTimes := by
  intro pins s σ H x y v u Q I rx ry h
  obtain ⟨z, n, rfl, rfl, h1, h2, h3, h4, q⟩ := h
  obtain ⟨t, rfl⟩ := rx
  obtain ⟨t', rfl⟩ := ry
  have e1 : decide (n < -(2 ^ 63 : Int)) = false := decide_eq_false (by omega)
  have e2 : decide (n ≥ 2 ^ 63) = false := decide_eq_false (by omega)
  have big : z.length * n.toNat ≤ 1000 * 1000 := Nat.mul_le_mul h4 (by omega)
  refine PySem.P.mul_str (by rw [e1, e2]; rfl) (fun _ _ => ?_) (fun _ _ => ?_) ?_
  · have : (1000 : Int) ≤ (2 ^ 63 - 1) / n := (Int.le_ediv_iff_mul_le (by omega)).mpr (by omega)
    omega
  · unfold Builtin.Str.tooLong
    refine decide_eq_false ?_
    have : 1000 * 1000 ≤ sizeLine := by decide
    omega
  · rw [if_neg (by omega : ¬ n < 1)]
    by_cases hz : (n == 1 || z.length == 0) = true
    · rw [if_pos hz]
      exact ⟨.str z, H, I, ⟨t, rfl⟩, q z⟩
    · rw [if_neg hz]
      refine ⟨?_, ⟨.str _, H, I.tok _, ⟨_, rfl⟩, q _⟩⟩
      show (List.foldl (fun x1 x2 => x1 ++ x2) #[] (List.replicate n.toNat z.cps)).size ≤ sizeLine
      rw [times_size]
      have e3 : z.cps.size = z.length := rfl
      have : 1000 * 1000 ≤ sizeLine := by decide
      have e4 : (#[] : Array Nat).size = 0 := rfl
      have e5 : n.toNat * z.cps.size = z.length * n.toNat := by rw [e3, Nat.mul_comm]
      omega
end
end Lay
namespace K00
open PySem PySem.Spec PyProof.Rows L2 Lay

def top (i : Nat) : Stmt := PySem.Challenge.pw_lengthstell_k00_whole_errors.main.body.getD i (.Pass ⟨0, 0, 0, 0⟩)
abbrev s_law_bag : Stmt := top 19
theorem sc_law_bag : FnScope ["_law_script", "_law_at", "_law_cell", "_law_great", "_law_mixed"] ["_law_script", "_law_at"] (defScope s_law_bag) := ⟨rfl, rfl, rfl, by decide +kernel, rfl, by decide +kernel, by decide +kernel⟩
abbrev s_law_draw : Stmt := top 20
theorem sc_law_draw : FnScope ["_law_bag_here", "_law_total", "_law_found", "_law_one", "_law_two"] ["_law_bag_here", "_law_total"] (defScope s_law_draw) := ⟨rfl, rfl, rfl, by decide +kernel, rfl, by decide +kernel, by decide +kernel⟩
abbrev s_law_one_of : Stmt := top 21
theorem sc_law_one_of : FnScope ["_law_bag_here", "_law_items"] ["_law_bag_here", "_law_items"] (defScope s_law_one_of) := ⟨rfl, rfl, rfl, by decide +kernel, rfl, by decide +kernel, by decide +kernel⟩
abbrev s_law_raised : Stmt := top 22
theorem sc_law_raised : FnScope ["_law_which", "_law_text", "_law_value"] ["_law_which", "_law_text", "_law_value"] (defScope s_law_raised) := ⟨rfl, rfl, rfl, by decide +kernel, rfl, by decide +kernel, by decide +kernel⟩
abbrev s_law_flags : Stmt := top 23
theorem sc_law_flags : FnScope ["_law_error", "_law_found"] ["_law_error"] (defScope s_law_flags) := ⟨rfl, rfl, rfl, by decide +kernel, rfl, by decide +kernel, by decide +kernel⟩
abbrev s_law_told : Stmt := top 24
theorem sc_law_told : FnScope ["_law_which", "_law_text", "_law_value", "e"] ["_law_which", "_law_text", "_law_value"] (defScope s_law_told) := ⟨rfl, rfl, rfl, by decide +kernel, rfl, by decide +kernel, by decide +kernel⟩
abbrev s_law_due : Stmt := top 25
theorem sc_law_due : FnScope ["_law_which", "_law_spots", "_law_at"] ["_law_which"] (defScope s_law_due) := ⟨rfl, rfl, rfl, by decide +kernel, rfl, by decide +kernel, by decide +kernel⟩
abbrev slaw : Stmt := top 26
theorem sclaw : FnScope ["_law_script", "_law_at", "_law_bag_here", "_law_values", "_law_text", "_law_which", "_law_value", "_law_told_here"] ["_law_script"] (defScope slaw) := ⟨rfl, rfl, rfl, by decide +kernel, rfl, by decide +kernel, by decide +kernel⟩
structure Bi (mg : Str → Option Value) : Prop where
  b_ArithmeticError : mg "ArithmeticError" = none
  b_IndexError : mg "IndexError" = none
  b_KeyError : mg "KeyError" = none
  b_LookupError : mg "LookupError" = none
  b_OverflowError : mg "OverflowError" = none
  b_ValueError : mg "ValueError" = none
  b_abs : mg "abs" = none
  b_int : mg "int" = none
  b_isinstance : mg "isinstance" = none
  b_len : mg "len" = none
  b_max : mg "max" = none
  b_min : mg "min" = none
  b_range : mg "range" = none
  b_repr : mg "repr" = none
  b_sum : mg "sum" = none
/-- which of the 23 classes an error of the w-th class is of -/
def spots (w : Nat) : List Nat := if w ≤ 11 then [0, w, 17] else w :: [[18, 22], [19, 22], [20, 21], [21], [22]].getD (w - 12) []
def flag (w c : Nat) : Bool := (spots w).contains c
def flags (w : Nat) : List Bool := (List.range 23).map (flag w)
def spDue : Sp := fun vs H Q _ => ∃ w : Nat, vs = [.int (w : Int)] ∧ w ≤ 16 ∧ ∀ H' q, Same H H' → H q = none → H' q = some (.lst ((flags w).map V.bl)) → Q (.ref q) H'
def spTold : Sp := fun vs H Q _ => ∃ (w : Nat) (z : Str) (v : V), vs = [.int (w : Int), .str z, v] ∧ w ≤ 16 ∧ ∀ H' q t, Same H H' → H' q = some (.lst ((flags w).map V.bl)) → H' t = some (.tup [.ref q, if w < 11 then .non else v]) → Q (.ref t) H'
def spLaw (K : PySem.W.Frag) : Sp := fun vs H Q _ => ∃ (a : Addr) (ns : List Int), vs = [.ref a] ∧ SqL K H a (ns.map V.int) ∧ ns.length ≤ 63 ∧ ∀ H', Q (.bl true) H'
theorem sq_kept {K : PySem.W.Frag} {H H' H'' : Hp} {a p : Addr} {xs : List V} (hp : H p = none) (s : Same H H') (b : But p H' H'') (h : SqL K H a xs) : SqL K H'' a xs := by
  rcases h with (h | ⟨o, h⟩) | h
  · exact Or.inl (Or.inl (b _ _ (fun z => by rw [z, hp] at h; cases h) (s _ _ h)))
  · exact Or.inl (Or.inr ⟨o, b _ _ (fun z => by rw [z, hp] at h; cases h) (s _ _ h)⟩)
  · exact Or.inr h
theorem inV_nat (j : Nat) : ∀ l : List Nat, inV (.int (j : Int)) (l.map fun n : Nat => V.int (n : Int)) = l.contains j
  | [] => rfl
  | n :: r => by
    rw [List.map_cons, List.contains_cons, ← inV_nat j r]
    show (((n : Int) == (j : Int)) || inV (.int (j : Int)) (r.map fun n : Nat => V.int (n : Int))) = _
    congr 1
    by_cases h : n = j
    · subst h; simp
    · rw [beq_eq_false_iff_ne.mpr (fun z => h (by omega)), beq_eq_false_iff_ne.mpr (fun z => h z.symm)]
theorem flat_nat : ∀ l : List Nat, (l.map fun n : Nat => V.int (n : Int)).all flatV = true
  | [] => rfl
  | _ :: r => flat_nat r
theorem spots_hi (w : Nat) (h : 11 < w) : spots w = w :: [[18, 22], [19, 22], [20, 21], [21], [22]].getD (w - 12) [] := if_neg (by omega)
theorem spots_lo (w : Nat) (h : w ≤ 11) : spots w = [0, w, 17] := if_pos h
/-- the values that errors keep, as the law lays them -/
def vlist (t1 t3 t4 t6 : Addr) : List V := [.int 0, .int (-7), .non, .bl true, .str "ab", .ref t1, .ref t3, .ref t4, .ref t6, .int (10 ^ (60 : Int).toNat), .str ""]
structure Va (H : Hp) (p t1 t2 t3 t4 t5 t6 tl : Addr) : Prop where
  e1 : H t1 = some (.tup [.str "loose", .int 3])
  e2 : H t2 = some (.tup [.str "a", .str "b"])
  e3 : H t3 = some (.tup [.str "weight", .ref t2])
  e4 : H t4 = some (.lst [.int 1, .str "x"])
  e5 : H t5 = some (.tup [.int 1, .int 2])
  e6 : H t6 = some (.dK [(.inr "a", .ref t5)])
  e7 : H tl = some (.lst (vlist t1 t3 t4 t6))
  ne : t1 ≠ p ∧ t2 ≠ p ∧ t3 ≠ p ∧ t4 ≠ p ∧ t5 ≠ p ∧ t6 ≠ p ∧ tl ≠ p
theorem Va.but {H H' : Hp} {p t1 t2 t3 t4 t5 t6 tl : Addr} (v : Va H p t1 t2 t3 t4 t5 t6 tl) (b : But p H H') : Va H' p t1 t2 t3 t4 t5 t6 tl :=
  ⟨b _ _ v.ne.1 v.e1, b _ _ v.ne.2.1 v.e2, b _ _ v.ne.2.2.1 v.e3, b _ _ v.ne.2.2.2.1 v.e4, b _ _ v.ne.2.2.2.2.1 v.e5, b _ _ v.ne.2.2.2.2.2.1 v.e6, b _ _ v.ne.2.2.2.2.2.2 v.e7, v.ne⟩
theorem same_but {H H' : Hp} (p : Addr) (s : Same H H') : But p H H' := fun b o _ e => s b o e
theorem Va.sh {K : PySem.W.Frag} {H : Hp} {p t1 t2 t3 t4 t5 t6 tl : Addr} (v : Va H p t1 t2 t3 t4 t5 t6 tl) : ∀ x ∈ vlist t1 t3 t4 t6, ∃ z, Sh K H x z := by
  intro x hx
  unfold vlist at hx
  simp only [List.mem_cons, List.not_mem_nil, or_false] at hx
  rcases hx with rfl | rfl | rfl | rfl | rfl | rfl | rfl | rfl | rfl | rfl | rfl
  · exact ⟨_, .int _ (by decide +kernel)⟩
  · exact ⟨_, .int _ (by decide +kernel)⟩
  · exact ⟨_, .non⟩
  · exact ⟨_, .bl _⟩
  · exact ⟨_, .str _ (by decide +kernel)⟩
  · exact ⟨_, .dat (.tup (SqT.of v.e1) (.cons (.str _) (.cons (.int _) .nil))) (by decide +kernel) (by decide +kernel) (by decide +kernel) (by decide +kernel)⟩
  · exact ⟨_, .dat (.tup (SqT.of v.e3) (.cons (.str _) (.cons (.tup (SqT.of v.e2) (.cons (.str _) (.cons (.str _) .nil))) .nil))) (by decide +kernel) (by decide +kernel) (by decide +kernel) (by decide +kernel)⟩
  · exact ⟨_, .dat (.lst (SqL.of v.e4) (.cons (.int _) (.cons (.str _) .nil))) (by decide +kernel) (by decide +kernel) (by decide +kernel) (by decide +kernel)⟩
  · exact ⟨_, .dct (is := [1, 2]) v.e6 v.e5 (by decide +kernel) (by decide +kernel) (by decide +kernel)⟩
  · exact ⟨_, .int _ (by decide +kernel)⟩
  · exact ⟨_, .str _ (by decide +kernel)⟩
theorem flags_eqv : ∀ w, w ≤ 16 → PyData.eqv (.list ((flags w).map PyData.bool)) (.list ((flags w).map PyData.bool)) = true := by decide +kernel
theorem dp_bools {K : PySem.W.Frag} {H : Hp} : ∀ l : List Bool, DpAll K H (l.map V.bl) (l.map PyData.bool)
  | [] => .nil
  | b :: r => .cons (.bl b) (dp_bools r)
theorem flags_shaped (w : Nat) : SeqAt.shaped (.list ((flags w).map PyData.bool)) = true := shaped_list fun d hd => by
  obtain ⟨b, _, rfl⟩ := List.mem_map.mp hd
  exact ⟨rfl, rfl⟩
theorem new_ne {H : Hp} {l a : Addr} (hl : H l = none) (hb : BagAt H a) : l ≠ a := fun z => by
  obtain ⟨_, _, _, e, _⟩ := hb
  rw [← z, hl] at e
  cases e

end K00
namespace K00
open PySem PySem.Spec PyProof.Rows L2 Lay
local macro_rules | `(tactic| walk_at "rd1") => `(tactic| (first
  | with_reducible refine rd_seq ?_
  | with_reducible refine rd_next ?_
  | with_reducible refine rd_asg ?_
  | with_reducible refine rd_name ?_
  | with_reducible refine rd_ret ?_
  | with_reducible refine rd_drop ?_
  | with_reducible refine rd_ifS ?_
  | with_reducible refine rd_c ?_
  | ((with_reducible refine rd_var (v := ?vv) ?hv ?_); (case hv => exact rfl))
  | with_reducible refine rd_op ?_
  | with_reducible refine rd_un ?_
  | with_reducible refine rd_CB ?_
  | with_reducible refine rd_Cl ?_
  | with_reducible refine rd_nil ?_
  | with_reducible refine rd_cons ?_
  | with_reducible refine rd_test ?_
  | with_reducible refine rd_B ?_
  | with_reducible refine rd_bl ?_
  | with_reducible refine rd_not ?_
  | with_reducible refine rd_and ?_
  | with_reducible refine rd_or ?_
  | with_reducible refine rd_andV ?_
  | with_reducible refine rd_orV ?_
  | with_reducible refine rd_notV ?_
  | with_reducible refine rd_ifE ?_
  | with_reducible refine rd_chain ?_
  | with_reducible refine rd_tup ?_
  | with_reducible refine rd_lst ?_
  | with_reducible refine rd_add ?_
  | with_reducible refine rd_sub ?_
  | with_reducible refine rd_lt ?_
  | with_reducible refine rd_le ?_
  | with_reducible refine rd_gt ?_
  | with_reducible refine rd_ge ?_
  | with_reducible refine rd_neg ?_
  | with_reducible refine rd_eqI ?_
  | with_reducible refine rd_neI ?_
  | with_reducible refine rd_int1 ?_
  | with_reducible refine rd_int1b ?_
  | with_reducible refine rd_abs ?_
  | with_reducible refine rd_max2 ?_
  | with_reducible refine rd_min2 ?_
  | with_reducible refine rd_ltZ ?_
  | with_reducible refine rd_leZ ?_
  | with_reducible refine rd_gtZ ?_
  | with_reducible refine rd_geZ ?_
  | with_reducible refine rd_gsub ?_
  | with_reducible refine rd_for ?_
  | with_reducible refine rd_rng1 ?_
  | with_reducible refine rd_iTup ?_
  | with_reducible refine rd_iList ?_
  | with_reducible refine rd_iStr ?_
  | with_reducible refine rd_lc ?_
  | with_reducible refine rd_bits ?_
  | with_reducible refine rd_yes ?_
  | with_reducible refine rd_sl ?_
  | with_reducible refine rd_noP ?_
  | with_reducible refine rd_part ?_
  | with_reducible refine rd_i ?_
  | with_reducible refine rd_s ?_
  | with_reducible refine rd_disp1 ?_
  | with_reducible refine rd_dnew ?_
  | with_reducible refine rd_M1 ?_
  | with_reducible refine rd_isS ?_
  | with_reducible refine rd_r ?_
  | with_reducible refine iteT ?_
  | with_reducible refine iteF ?_
  | ((with_reducible refine rd_new ?hn ?_); (case hn => exact Nat.le_of_ble_eq_true rfl))
  | ((with_reducible refine rd_mod ?hm ?_); (case hm => decide))
  | ((with_reducible refine rd_fdivW ?hm ?_); (case hm => exact wide_div (by decide) (b := 20) (by decide) (by decide) (by decide)))
  | ((with_reducible refine rd_mul ?hm ?_); (case hm => first | exact mul_lit ⟨by decide, by decide⟩ | exact mul_rit ⟨by decide, by decide⟩ | exact mul_lit ⟨by omega, by omega⟩ | exact mul_rit ⟨by omega, by omega⟩))
  | ((with_reducible refine rd_pow ?hm ?_); (case hm => exact ⟨by decide, by decide, by decide⟩))))
local macro_rules | `(tactic| walk_at "rd") => `(tactic| (repeat (walk_at "rd1")))
local macro_rules | `(tactic| walk_at "hp") => `(tactic| (first | assumption | exact upd_same | (refine up_old (by assumption) ?_; walk_at "hp")))
/-- the field of an error of the w-th class -/
def fld (w : Nat) : Str := (["spot", "given", "wanted", "most", "reason", "count"] : List Str).getD (w - 11) ""
/-- what the top has written of the classes; C tells where they stand -/
structure Er (K : PySem.W.Frag) (mg : Str → Option Value) (C : Nat → Addr) : Prop where
  n0 : mg "FrameError" = some (.ref (C 0))
  n1 : mg "InvalidName" = some (.ref (C 1))
  n2 : mg "InvalidFrame" = some (.ref (C 2))
  n3 : mg "InvalidRod" = some (.ref (C 3))
  n4 : mg "InvalidPlacing" = some (.ref (C 4))
  n5 : mg "InvalidWeights" = some (.ref (C 5))
  n6 : mg "InvalidStep" = some (.ref (C 6))
  n7 : mg "InvalidStand" = some (.ref (C 7))
  n8 : mg "InvalidDirections" = some (.ref (C 8))
  n9 : mg "InvalidPromise" = some (.ref (C 9))
  n10 : mg "InvalidOperation" = some (.ref (C 10))
  n11 : mg "ParseError" = some (.ref (C 11))
  n12 : mg "InvalidNumber" = some (.ref (C 12))
  n13 : mg "UnknownName" = some (.ref (C 13))
  n14 : mg "TooMany" = some (.ref (C 14))
  n15 : mg "Refused" = some (.ref (C 15))
  n16 : mg "NothingToUndo" = some (.ref (C 16))
  kp : ∀ j, j < 17 → PySem.W.keepIn K (.ref (C j)) = true
  rs : ∀ j, j < 17 → PySem.W.subIn K (.ref (C j)) (.type "BaseException") = some true ∧ PySem.W.typeIn K (.ref (C j)) = some (.type "type")
  ex : ∀ j, j < 11 → PySem.W.excIn K (C j) [.type "ValueError", .type "Exception", .type "BaseException", .type "object"] "ValueError.__new__" = true
  ec : ∀ j, j < 17 → ExcC K (C j)
  xf : ∀ j, j < 17 → XfC K (C j)
  ko : ∀ j c, j < 17 → c < 17 → PySem.W.kitOne K (.ref (C j)) (.ref (C c)) = some (flag j c)
  em : ∀ j c, j < 17 → c < 17 → PySem.W.exmOne K (.ref (C j)) (.ref (C c)) = some (flag j c)
  kb17 : ∀ j, j < 17 → PySem.W.kitOne K (.ref (C j)) (.type "ValueError") = some (flag j 17)
  kb18 : ∀ j, j < 17 → PySem.W.kitOne K (.ref (C j)) (.type "IndexError") = some (flag j 18)
  kb19 : ∀ j, j < 17 → PySem.W.kitOne K (.ref (C j)) (.type "KeyError") = some (flag j 19)
  kb20 : ∀ j, j < 17 → PySem.W.kitOne K (.ref (C j)) (.type "OverflowError") = some (flag j 20)
  kb21 : ∀ j, j < 17 → PySem.W.kitOne K (.ref (C j)) (.type "ArithmeticError") = some (flag j 21)
  kb22 : ∀ j, j < 17 → PySem.W.kitOne K (.ref (C j)) (.type "LookupError") = some (flag j 22)
  xc11 : Xc K (C 11) "ValueError" "ValueError.__new__"
  no11 : PySem.W.findIn K (.ref (C 11)) "spot" = some none
  xc12 : Xc K (C 12) "IndexError" "IndexError.__new__"
  no12 : PySem.W.findIn K (.ref (C 12)) "given" = some none
  xc13 : Xc K (C 13) "LookupError" "LookupError.__new__"
  no13 : PySem.W.findIn K (.ref (C 13)) "wanted" = some none
  xc14 : Xc K (C 14) "OverflowError" "OverflowError.__new__"
  no14 : PySem.W.findIn K (.ref (C 14)) "most" = some none
  xc15 : Xc K (C 15) "ArithmeticError" "ArithmeticError.__new__"
  no15 : PySem.W.findIn K (.ref (C 15)) "reason" = some none
  xc16 : Xc K (C 16) "LookupError" "LookupError.__new__"
  no16 : PySem.W.findIn K (.ref (C 16)) "count" = some none
/-- __init__ of such a class -/
structure Ini (P : Program) (w : World) (K : PySem.W.Frag) (mg : Str → Option Value) (base : Heap) (C : Addr) (B newId : String) (f : Str) : Prop where
  ex : ∃ (fI : Addr) (fd : FuncData), PySem.W.findIn K (.ref C) "__init__" = some (some (.ref fI)) ∧ PySem.W.typeIn K (.ref fI) = some (.type "function") ∧ FnOk P w K mg base CX0 1 fI fd ["self", f] (spIni K B newId f) ∧ Binds K fd ["self", f] []
section
variable {P : Program} {w : World} {K : PySem.W.Frag} {mg : Str → Option Value} {base : Heap} {C : Nat → Addr}
/-- a def that may let an error out, its context None -/
theorem okN {x qual : Str} {st : Stmt} {f : Addr} {fd : FuncData} {N ps : List Str} {k : Nat} {sp : Sp} (F : Fun K x qual st f fd) (S : FnScope N ps (defScope st)) (len : ∀ vs H Q E, sp vs H Q E → vs.length = ps.length)
    (body : ∀ (cdv : Value) (A : Around) (outer : List Env) (s : Shared) (H : Hp) (vs : List V) (Q : VK) (E : XK), Room k (A.deeper (envOfC qual (defScope st) s.heap.objs.size f cdv)) → sp vs H Q E →
      ∃ t, PSs (cxOf (L2N.CX P w) P w K mg base N qual (defScope st) f cdv A outer s H E) (defBody st) t ∧ t { nx := fun _ H' => Q .non H', rt := Q } (start N vs) H) : FnOk P w K mg base (L2N.CX P w) (k + 1) f fd ps sp := by
  obtain ⟨oc, od, kV, doc, pm, an, cdv, ct, osl, rfl, lk, hcd⟩ := F.ex
  exact fn_of lk hcd S len fun A outer s H vs Q E hr hsp => body cdv A outer s H vs Q E hr hsp
abbrev si11 : Stmt := inClass (top 12) 0
theorem sci11 : FnScope ["self", "spot"] ["self", "spot"] (defScope si11) := ⟨rfl, rfl, rfl, by decide +kernel, rfl, by decide +kernel, by decide +kernel⟩
theorem oki11 {f : Addr} {fd : FuncData} (F : Fun K "__init__" "ParseError.__init__" si11 f fd) : FnOk P w K mg base CX0 1 f fd ["self", "spot"] (spIni K "ValueError" "ValueError.__new__" "spot") := by
  refine F.ok sci11 (fun vs H Q E h => ?_) (fun cdv A outer s H vs Q E hr h => ?_)
  · obtain ⟨a, C, v, rfl, _⟩ := h
    rfl
  · obtain ⟨a, C, v, rfl, T, no, ea, k⟩ := h
    exact ⟨_, pss_one (ps_set1 (B := "ValueError") (newId := "ValueError.__new__") (pv 0) (pv 1)), _, rfl, _, rfl, a, C, rfl, T, no, ea, fun dx n ne => k dx n ne⟩
abbrev si12 : Stmt := inClass (top 13) 0
theorem sci12 : FnScope ["self", "given"] ["self", "given"] (defScope si12) := ⟨rfl, rfl, rfl, by decide +kernel, rfl, by decide +kernel, by decide +kernel⟩
theorem oki12 {f : Addr} {fd : FuncData} (F : Fun K "__init__" "InvalidNumber.__init__" si12 f fd) : FnOk P w K mg base CX0 1 f fd ["self", "given"] (spIni K "IndexError" "IndexError.__new__" "given") := by
  refine F.ok sci12 (fun vs H Q E h => ?_) (fun cdv A outer s H vs Q E hr h => ?_)
  · obtain ⟨a, C, v, rfl, _⟩ := h
    rfl
  · obtain ⟨a, C, v, rfl, T, no, ea, k⟩ := h
    exact ⟨_, pss_one (ps_set1 (B := "IndexError") (newId := "IndexError.__new__") (pv 0) (pv 1)), _, rfl, _, rfl, a, C, rfl, T, no, ea, fun dx n ne => k dx n ne⟩
abbrev si13 : Stmt := inClass (top 14) 0
theorem sci13 : FnScope ["self", "wanted"] ["self", "wanted"] (defScope si13) := ⟨rfl, rfl, rfl, by decide +kernel, rfl, by decide +kernel, by decide +kernel⟩
theorem oki13 {f : Addr} {fd : FuncData} (F : Fun K "__init__" "UnknownName.__init__" si13 f fd) : FnOk P w K mg base CX0 1 f fd ["self", "wanted"] (spIni K "LookupError" "LookupError.__new__" "wanted") := by
  refine F.ok sci13 (fun vs H Q E h => ?_) (fun cdv A outer s H vs Q E hr h => ?_)
  · obtain ⟨a, C, v, rfl, _⟩ := h
    rfl
  · obtain ⟨a, C, v, rfl, T, no, ea, k⟩ := h
    exact ⟨_, pss_one (ps_set1 (B := "LookupError") (newId := "LookupError.__new__") (pv 0) (pv 1)), _, rfl, _, rfl, a, C, rfl, T, no, ea, fun dx n ne => k dx n ne⟩
abbrev si14 : Stmt := inClass (top 15) 0
theorem sci14 : FnScope ["self", "most"] ["self", "most"] (defScope si14) := ⟨rfl, rfl, rfl, by decide +kernel, rfl, by decide +kernel, by decide +kernel⟩
theorem oki14 {f : Addr} {fd : FuncData} (F : Fun K "__init__" "TooMany.__init__" si14 f fd) : FnOk P w K mg base CX0 1 f fd ["self", "most"] (spIni K "OverflowError" "OverflowError.__new__" "most") := by
  refine F.ok sci14 (fun vs H Q E h => ?_) (fun cdv A outer s H vs Q E hr h => ?_)
  · obtain ⟨a, C, v, rfl, _⟩ := h
    rfl
  · obtain ⟨a, C, v, rfl, T, no, ea, k⟩ := h
    exact ⟨_, pss_one (ps_set1 (B := "OverflowError") (newId := "OverflowError.__new__") (pv 0) (pv 1)), _, rfl, _, rfl, a, C, rfl, T, no, ea, fun dx n ne => k dx n ne⟩
abbrev si15 : Stmt := inClass (top 16) 0
theorem sci15 : FnScope ["self", "reason"] ["self", "reason"] (defScope si15) := ⟨rfl, rfl, rfl, by decide +kernel, rfl, by decide +kernel, by decide +kernel⟩
theorem oki15 {f : Addr} {fd : FuncData} (F : Fun K "__init__" "Refused.__init__" si15 f fd) : FnOk P w K mg base CX0 1 f fd ["self", "reason"] (spIni K "ArithmeticError" "ArithmeticError.__new__" "reason") := by
  refine F.ok sci15 (fun vs H Q E h => ?_) (fun cdv A outer s H vs Q E hr h => ?_)
  · obtain ⟨a, C, v, rfl, _⟩ := h
    rfl
  · obtain ⟨a, C, v, rfl, T, no, ea, k⟩ := h
    exact ⟨_, pss_one (ps_set1 (B := "ArithmeticError") (newId := "ArithmeticError.__new__") (pv 0) (pv 1)), _, rfl, _, rfl, a, C, rfl, T, no, ea, fun dx n ne => k dx n ne⟩
abbrev si16 : Stmt := inClass (top 17) 0
theorem sci16 : FnScope ["self", "count"] ["self", "count"] (defScope si16) := ⟨rfl, rfl, rfl, by decide +kernel, rfl, by decide +kernel, by decide +kernel⟩
theorem oki16 {f : Addr} {fd : FuncData} (F : Fun K "__init__" "NothingToUndo.__init__" si16 f fd) : FnOk P w K mg base CX0 1 f fd ["self", "count"] (spIni K "LookupError" "LookupError.__new__" "count") := by
  refine F.ok sci16 (fun vs H Q E h => ?_) (fun cdv A outer s H vs Q E hr h => ?_)
  · obtain ⟨a, C, v, rfl, _⟩ := h
    rfl
  · obtain ⟨a, C, v, rfl, T, no, ea, k⟩ := h
    exact ⟨_, pss_one (ps_set1 (B := "LookupError") (newId := "LookupError.__new__") (pv 0) (pv 1)), _, rfl, _, rfl, a, C, rfl, T, no, ea, fun dx n ne => k dx n ne⟩
def spRaised (C : Nat → Addr) : Sp := fun vs H _ E => ∃ (w : Nat) (z : Str) (v : V), vs = [.int (w : Int), .str z, v] ∧ w ≤ 16 ∧ (w < 11 → E (.ref (C w)) none H) ∧ (11 ≤ w → ∀ d, H d = none → E (.ref (C w)) (some d) (upd H d (.xd [(fld w, v)])))
theorem ok_raised {f : Addr} {fd : FuncData} (R : Er K mg C) (F : Fun K "_law_raised" "_law_raised" s_law_raised f fd) (I11 : Ini P w K mg base (C 11) "ValueError" "ValueError.__new__" "spot") (I12 : Ini P w K mg base (C 12) "IndexError" "IndexError.__new__" "given") (I13 : Ini P w K mg base (C 13) "LookupError" "LookupError.__new__" "wanted") (I14 : Ini P w K mg base (C 14) "OverflowError" "OverflowError.__new__" "most") (I15 : Ini P w K mg base (C 15) "ArithmeticError" "ArithmeticError.__new__" "reason") (I16 : Ini P w K mg base (C 16) "LookupError" "LookupError.__new__" "count") : FnOk P w K mg base (L2N.CX P w) 3 f fd ["_law_which", "_law_text", "_law_value"] (spRaised C) := by
  refine okN F sc_law_raised (fun vs H Q E h => ?_) (fun cdv A outer s H vs Q E hr h => ?_)
  · obtain ⟨w, z, v, rfl, _⟩ := h
    rfl
  · obtain ⟨fI11, fd11, iC11, tI11, fn11, bi11⟩ := I11.ex
    obtain ⟨fI12, fd12, iC12, tI12, fn12, bi12⟩ := I12.ex
    obtain ⟨fI13, fd13, iC13, tI13, fn13, bi13⟩ := I13.ex
    obtain ⟨fI14, fd14, iC14, tI14, fn14, bi14⟩ := I14.ex
    obtain ⟨fI15, fd15, iC15, tI15, fn15, bi15⟩ := I15.ex
    obtain ⟨fI16, fd16, iC16, tI16, fn16, bi16⟩ := I16.ex
    refine ⟨_, (pss_cons (ps_if (pt_cmpR op_eq (pv 0) pe_int (nomark _)) (pss_one (L2N.ps_raise rfl (L2N.takes_of rfl rfl rfl rfl) (pmk_text PySem.F.excBase_ValueError (R.ex 0 (by decide)) R.n0 (R.kp 0 (by decide)) (raises_own (R.rs 0 (by decide)).1 (R.rs 0 (by decide)).2) (by rfl) (pa_cons (pv 1) pa_nil)))) pss_nil)
      (pss_cons (ps_if (pt_cmpR op_eq (pv 0) pe_int (nomark _)) (pss_one (L2N.ps_raise rfl (L2N.takes_of rfl rfl rfl rfl) (pmk_text PySem.F.excBase_ValueError (R.ex 1 (by decide)) R.n1 (R.kp 1 (by decide)) (raises_own (R.rs 1 (by decide)).1 (R.rs 1 (by decide)).2) (by rfl) (pa_cons (pv 1) pa_nil)))) pss_nil)
      (pss_cons (ps_if (pt_cmpR op_eq (pv 0) pe_int (nomark _)) (pss_one (L2N.ps_raise rfl (L2N.takes_of rfl rfl rfl rfl) (pmk_text PySem.F.excBase_ValueError (R.ex 2 (by decide)) R.n2 (R.kp 2 (by decide)) (raises_own (R.rs 2 (by decide)).1 (R.rs 2 (by decide)).2) (by rfl) (pa_cons (pv 1) pa_nil)))) pss_nil)
      (pss_cons (ps_if (pt_cmpR op_eq (pv 0) pe_int (nomark _)) (pss_one (L2N.ps_raise rfl (L2N.takes_of rfl rfl rfl rfl) (pmk_text PySem.F.excBase_ValueError (R.ex 3 (by decide)) R.n3 (R.kp 3 (by decide)) (raises_own (R.rs 3 (by decide)).1 (R.rs 3 (by decide)).2) (by rfl) (pa_cons (pv 1) pa_nil)))) pss_nil)
      (pss_cons (ps_if (pt_cmpR op_eq (pv 0) pe_int (nomark _)) (pss_one (L2N.ps_raise rfl (L2N.takes_of rfl rfl rfl rfl) (pmk_text PySem.F.excBase_ValueError (R.ex 4 (by decide)) R.n4 (R.kp 4 (by decide)) (raises_own (R.rs 4 (by decide)).1 (R.rs 4 (by decide)).2) (by rfl) (pa_cons (pv 1) pa_nil)))) pss_nil)
      (pss_cons (ps_if (pt_cmpR op_eq (pv 0) pe_int (nomark _)) (pss_one (L2N.ps_raise rfl (L2N.takes_of rfl rfl rfl rfl) (pmk_text PySem.F.excBase_ValueError (R.ex 5 (by decide)) R.n5 (R.kp 5 (by decide)) (raises_own (R.rs 5 (by decide)).1 (R.rs 5 (by decide)).2) (by rfl) (pa_cons (pv 1) pa_nil)))) pss_nil)
      (pss_cons (ps_if (pt_cmpR op_eq (pv 0) pe_int (nomark _)) (pss_one (L2N.ps_raise rfl (L2N.takes_of rfl rfl rfl rfl) (pmk_text PySem.F.excBase_ValueError (R.ex 6 (by decide)) R.n6 (R.kp 6 (by decide)) (raises_own (R.rs 6 (by decide)).1 (R.rs 6 (by decide)).2) (by rfl) (pa_cons (pv 1) pa_nil)))) pss_nil)
      (pss_cons (ps_if (pt_cmpR op_eq (pv 0) pe_int (nomark _)) (pss_one (L2N.ps_raise rfl (L2N.takes_of rfl rfl rfl rfl) (pmk_text PySem.F.excBase_ValueError (R.ex 7 (by decide)) R.n7 (R.kp 7 (by decide)) (raises_own (R.rs 7 (by decide)).1 (R.rs 7 (by decide)).2) (by rfl) (pa_cons (pv 1) pa_nil)))) pss_nil)
      (pss_cons (ps_if (pt_cmpR op_eq (pv 0) pe_int (nomark _)) (pss_one (L2N.ps_raise rfl (L2N.takes_of rfl rfl rfl rfl) (pmk_text PySem.F.excBase_ValueError (R.ex 8 (by decide)) R.n8 (R.kp 8 (by decide)) (raises_own (R.rs 8 (by decide)).1 (R.rs 8 (by decide)).2) (by rfl) (pa_cons (pv 1) pa_nil)))) pss_nil)
      (pss_cons (ps_if (pt_cmpR op_eq (pv 0) pe_int (nomark _)) (pss_one (L2N.ps_raise rfl (L2N.takes_of rfl rfl rfl rfl) (pmk_text PySem.F.excBase_ValueError (R.ex 9 (by decide)) R.n9 (R.kp 9 (by decide)) (raises_own (R.rs 9 (by decide)).1 (R.rs 9 (by decide)).2) (by rfl) (pa_cons (pv 1) pa_nil)))) pss_nil)
      (pss_cons (ps_if (pt_cmpR op_eq (pv 0) pe_int (nomark _)) (pss_one (L2N.ps_raise rfl (L2N.takes_of rfl rfl rfl rfl) (pmk_text PySem.F.excBase_ValueError (R.ex 10 (by decide)) R.n10 (R.kp 10 (by decide)) (raises_own (R.rs 10 (by decide)).1 (R.rs 10 (by decide)).2) (by rfl) (pa_cons (pv 1) pa_nil)))) pss_nil)
      (pss_cons (ps_if (pt_cmpR op_eq (pv 0) pe_int (nomark _)) (pss_one (L2N.ps_raise rfl (L2N.takes_of rfl rfl rfl rfl) (pmk_init PySem.F.excBase_ValueError R.xc11 R.no11 iC11 tI11 fn11 hr bi11 (by rfl) R.n11 (pa_cons (pv 2) pa_nil)))) pss_nil)
      (pss_cons (ps_if (pt_cmpR op_eq (pv 0) pe_int (nomark _)) (pss_one (L2N.ps_raise rfl (L2N.takes_of rfl rfl rfl rfl) (pmk_init PySem.F.excBase_IndexError R.xc12 R.no12 iC12 tI12 fn12 hr bi12 (by rfl) R.n12 (pa_cons (pv 2) pa_nil)))) pss_nil)
      (pss_cons (ps_if (pt_cmpR op_eq (pv 0) pe_int (nomark _)) (pss_one (L2N.ps_raise rfl (L2N.takes_of rfl rfl rfl rfl) (pmk_init PySem.F.excBase_LookupError R.xc13 R.no13 iC13 tI13 fn13 hr bi13 (by rfl) R.n13 (pa_cons (pv 2) pa_nil)))) pss_nil)
      (pss_cons (ps_if (pt_cmpR op_eq (pv 0) pe_int (nomark _)) (pss_one (L2N.ps_raise rfl (L2N.takes_of rfl rfl rfl rfl) (pmk_init PySem.F.excBase_OverflowError R.xc14 R.no14 iC14 tI14 fn14 hr bi14 (by rfl) R.n14 (pa_cons (pv 2) pa_nil)))) pss_nil)
      (pss_cons (ps_if (pt_cmpR op_eq (pv 0) pe_int (nomark _)) (pss_one (L2N.ps_raise rfl (L2N.takes_of rfl rfl rfl rfl) (pmk_init PySem.F.excBase_ArithmeticError R.xc15 R.no15 iC15 tI15 fn15 hr bi15 (by rfl) R.n15 (pa_cons (pv 2) pa_nil)))) pss_nil)
      (pss_one (L2N.ps_raise rfl (L2N.takes_of rfl rfl rfl rfl) (pmk_init PySem.F.excBase_LookupError R.xc16 R.no16 iC16 tI16 fn16 hr bi16 (by rfl) R.n16 (pa_cons (pv 2) pa_nil)))))))))))))))))))), ?_⟩
    obtain ⟨w, z, v, rfl, hw, k1, k2⟩ := h
    refine rd_at [some (.int (w : Int)), some (.str z), some v] rfl ?_
    walk_at "rd"
    refine rd_ite (fun h0 => ?_) (fun h0 => ?_)
    · obtain rfl : w = 0 := by omega
      exact ⟨_, rfl, Nat.le_of_ble_eq_true rfl, k1 (by decide)⟩
    walk_at "rd"
    refine rd_ite (fun h1 => ?_) (fun h1 => ?_)
    · obtain rfl : w = 1 := by omega
      exact ⟨_, rfl, Nat.le_of_ble_eq_true rfl, k1 (by decide)⟩
    walk_at "rd"
    refine rd_ite (fun h2 => ?_) (fun h2 => ?_)
    · obtain rfl : w = 2 := by omega
      exact ⟨_, rfl, Nat.le_of_ble_eq_true rfl, k1 (by decide)⟩
    walk_at "rd"
    refine rd_ite (fun h3 => ?_) (fun h3 => ?_)
    · obtain rfl : w = 3 := by omega
      exact ⟨_, rfl, Nat.le_of_ble_eq_true rfl, k1 (by decide)⟩
    walk_at "rd"
    refine rd_ite (fun h4 => ?_) (fun h4 => ?_)
    · obtain rfl : w = 4 := by omega
      exact ⟨_, rfl, Nat.le_of_ble_eq_true rfl, k1 (by decide)⟩
    walk_at "rd"
    refine rd_ite (fun h5 => ?_) (fun h5 => ?_)
    · obtain rfl : w = 5 := by omega
      exact ⟨_, rfl, Nat.le_of_ble_eq_true rfl, k1 (by decide)⟩
    walk_at "rd"
    refine rd_ite (fun h6 => ?_) (fun h6 => ?_)
    · obtain rfl : w = 6 := by omega
      exact ⟨_, rfl, Nat.le_of_ble_eq_true rfl, k1 (by decide)⟩
    walk_at "rd"
    refine rd_ite (fun h7 => ?_) (fun h7 => ?_)
    · obtain rfl : w = 7 := by omega
      exact ⟨_, rfl, Nat.le_of_ble_eq_true rfl, k1 (by decide)⟩
    walk_at "rd"
    refine rd_ite (fun h8 => ?_) (fun h8 => ?_)
    · obtain rfl : w = 8 := by omega
      exact ⟨_, rfl, Nat.le_of_ble_eq_true rfl, k1 (by decide)⟩
    walk_at "rd"
    refine rd_ite (fun h9 => ?_) (fun h9 => ?_)
    · obtain rfl : w = 9 := by omega
      exact ⟨_, rfl, Nat.le_of_ble_eq_true rfl, k1 (by decide)⟩
    walk_at "rd"
    refine rd_ite (fun h10 => ?_) (fun h10 => ?_)
    · obtain rfl : w = 10 := by omega
      exact ⟨_, rfl, Nat.le_of_ble_eq_true rfl, k1 (by decide)⟩
    walk_at "rd"
    refine rd_ite (fun h11 => ?_) (fun h11 => ?_)
    · obtain rfl : w = 11 := by omega
      exact ⟨_, rfl, _, rfl, fun d hd => k2 (by decide) d hd⟩
    walk_at "rd"
    refine rd_ite (fun h12 => ?_) (fun h12 => ?_)
    · obtain rfl : w = 12 := by omega
      exact ⟨_, rfl, _, rfl, fun d hd => k2 (by decide) d hd⟩
    walk_at "rd"
    refine rd_ite (fun h13 => ?_) (fun h13 => ?_)
    · obtain rfl : w = 13 := by omega
      exact ⟨_, rfl, _, rfl, fun d hd => k2 (by decide) d hd⟩
    walk_at "rd"
    refine rd_ite (fun h14 => ?_) (fun h14 => ?_)
    · obtain rfl : w = 14 := by omega
      exact ⟨_, rfl, _, rfl, fun d hd => k2 (by decide) d hd⟩
    walk_at "rd"
    refine rd_ite (fun h15 => ?_) (fun h15 => ?_)
    · obtain rfl : w = 15 := by omega
      exact ⟨_, rfl, _, rfl, fun d hd => k2 (by decide) d hd⟩
    walk_at "rd"
    obtain rfl : w = 16 := by omega
    exact ⟨_, rfl, _, rfl, fun d hd => k2 (by decide) d hd⟩
def spFlags (C : Nat → Addr) : Addr → Value → Option Addr → Sp := fun a cls d vs H Q _ => ∃ j, vs = [.ref a] ∧ j < 17 ∧ cls = .ref (C j) ∧ (∀ dd, d = some dd → ∃ fs, H dd = some (.xd fs)) ∧ ∀ H' q, Same H H' → H' q = some (.lst ((flags j).map V.bl)) → Q (.ref q) H'
theorem ok_flags {f : Addr} {fd : FuncData} (B : Bi mg) (R : Er K mg C) (F : Fun K "_law_flags" "_law_flags" s_law_flags f fd) : FnE P w K mg base 1 f fd ["_law_error"] (spFlags C) := by
  refine hot_def F sc_law_flags (fun a cls d vs H Q E h => ?_) (fun cdv A outer s H vs Q p cls d hot hz hf hr h => ?_)
  · obtain ⟨j, rfl, _⟩ := h
    rfl
  · have hp : p ∈ [p] := List.mem_cons_self
    refine ⟨_, (pss_cons (ps_set (i := 1) sc_law_flags.nd rfl (Or.inl rfl) (pe_lst (pa_cons (pe_callB (r := rIsP K p.1 cls d) (by exact call_isP hp hz hf) (by rfl) B.b_isinstance (by decide +kernel) (pa_cons (pv 0) (pa_cons (pe_glob (v := .ref (C 0)) (by rfl) R.n0 rfl) pa_nil))) (pa_cons (pe_callB (r := rIsP K p.1 cls d) (by exact call_isP hp hz hf) (by rfl) B.b_isinstance (by decide +kernel) (pa_cons (pv 0) (pa_cons (pe_glob (v := .ref (C 1)) (by rfl) R.n1 rfl) pa_nil))) (pa_cons (pe_callB (r := rIsP K p.1 cls d) (by exact call_isP hp hz hf) (by rfl) B.b_isinstance (by decide +kernel) (pa_cons (pv 0) (pa_cons (pe_glob (v := .ref (C 2)) (by rfl) R.n2 rfl) pa_nil))) pa_nil)))))
      (pss_cons (ps_set (i := 1) sc_law_flags.nd rfl (Or.inl rfl) (pe_op op_cat (pv 1) (pe_lst (pa_cons (pe_callB (r := rIsP K p.1 cls d) (by exact call_isP hp hz hf) (by rfl) B.b_isinstance (by decide +kernel) (pa_cons (pv 0) (pa_cons (pe_glob (v := .ref (C 3)) (by rfl) R.n3 rfl) pa_nil))) (pa_cons (pe_callB (r := rIsP K p.1 cls d) (by exact call_isP hp hz hf) (by rfl) B.b_isinstance (by decide +kernel) (pa_cons (pv 0) (pa_cons (pe_glob (v := .ref (C 4)) (by rfl) R.n4 rfl) pa_nil))) (pa_cons (pe_callB (r := rIsP K p.1 cls d) (by exact call_isP hp hz hf) (by rfl) B.b_isinstance (by decide +kernel) (pa_cons (pv 0) (pa_cons (pe_glob (v := .ref (C 5)) (by rfl) R.n5 rfl) pa_nil))) pa_nil))))))
      (pss_cons (ps_set (i := 1) sc_law_flags.nd rfl (Or.inl rfl) (pe_op op_cat (pv 1) (pe_lst (pa_cons (pe_callB (r := rIsP K p.1 cls d) (by exact call_isP hp hz hf) (by rfl) B.b_isinstance (by decide +kernel) (pa_cons (pv 0) (pa_cons (pe_glob (v := .ref (C 6)) (by rfl) R.n6 rfl) pa_nil))) (pa_cons (pe_callB (r := rIsP K p.1 cls d) (by exact call_isP hp hz hf) (by rfl) B.b_isinstance (by decide +kernel) (pa_cons (pv 0) (pa_cons (pe_glob (v := .ref (C 7)) (by rfl) R.n7 rfl) pa_nil))) (pa_cons (pe_callB (r := rIsP K p.1 cls d) (by exact call_isP hp hz hf) (by rfl) B.b_isinstance (by decide +kernel) (pa_cons (pv 0) (pa_cons (pe_glob (v := .ref (C 8)) (by rfl) R.n8 rfl) pa_nil))) pa_nil))))))
      (pss_cons (ps_set (i := 1) sc_law_flags.nd rfl (Or.inl rfl) (pe_op op_cat (pv 1) (pe_lst (pa_cons (pe_callB (r := rIsP K p.1 cls d) (by exact call_isP hp hz hf) (by rfl) B.b_isinstance (by decide +kernel) (pa_cons (pv 0) (pa_cons (pe_glob (v := .ref (C 9)) (by rfl) R.n9 rfl) pa_nil))) (pa_cons (pe_callB (r := rIsP K p.1 cls d) (by exact call_isP hp hz hf) (by rfl) B.b_isinstance (by decide +kernel) (pa_cons (pv 0) (pa_cons (pe_glob (v := .ref (C 10)) (by rfl) R.n10 rfl) pa_nil))) (pa_cons (pe_callB (r := rIsP K p.1 cls d) (by exact call_isP hp hz hf) (by rfl) B.b_isinstance (by decide +kernel) (pa_cons (pv 0) (pa_cons (pe_glob (v := .ref (C 11)) (by rfl) R.n11 rfl) pa_nil))) pa_nil))))))
      (pss_cons (ps_set (i := 1) sc_law_flags.nd rfl (Or.inl rfl) (pe_op op_cat (pv 1) (pe_lst (pa_cons (pe_callB (r := rIsP K p.1 cls d) (by exact call_isP hp hz hf) (by rfl) B.b_isinstance (by decide +kernel) (pa_cons (pv 0) (pa_cons (pe_glob (v := .ref (C 12)) (by rfl) R.n12 rfl) pa_nil))) (pa_cons (pe_callB (r := rIsP K p.1 cls d) (by exact call_isP hp hz hf) (by rfl) B.b_isinstance (by decide +kernel) (pa_cons (pv 0) (pa_cons (pe_glob (v := .ref (C 13)) (by rfl) R.n13 rfl) pa_nil))) (pa_cons (pe_callB (r := rIsP K p.1 cls d) (by exact call_isP hp hz hf) (by rfl) B.b_isinstance (by decide +kernel) (pa_cons (pv 0) (pa_cons (pe_glob (v := .ref (C 14)) (by rfl) R.n14 rfl) pa_nil))) pa_nil))))))
      (pss_cons (ps_set (i := 1) sc_law_flags.nd rfl (Or.inl rfl) (pe_op op_cat (pv 1) (pe_lst (pa_cons (pe_callB (r := rIsP K p.1 cls d) (by exact call_isP hp hz hf) (by rfl) B.b_isinstance (by decide +kernel) (pa_cons (pv 0) (pa_cons (pe_glob (v := .ref (C 15)) (by rfl) R.n15 rfl) pa_nil))) (pa_cons (pe_callB (r := rIsP K p.1 cls d) (by exact call_isP hp hz hf) (by rfl) B.b_isinstance (by decide +kernel) (pa_cons (pv 0) (pa_cons (pe_glob (v := .ref (C 16)) (by rfl) R.n16 rfl) pa_nil))) (pa_cons (pe_callB (r := rIsP K p.1 cls d) (by exact call_isP hp hz hf) (by rfl) B.b_isinstance (by decide +kernel) (pa_cons (pv 0) (pa_cons (pe_bltn (v := .ty "ValueError") (u := .type "ValueError") (by rfl) B.b_ValueError (by decide +kernel) rfl) pa_nil))) pa_nil))))))
      (pss_cons (ps_set (i := 1) sc_law_flags.nd rfl (Or.inl rfl) (pe_op op_cat (pv 1) (pe_lst (pa_cons (pe_callB (r := rIsP K p.1 cls d) (by exact call_isP hp hz hf) (by rfl) B.b_isinstance (by decide +kernel) (pa_cons (pv 0) (pa_cons (pe_bltn (v := .ty "IndexError") (u := .type "IndexError") (by rfl) B.b_IndexError (by decide +kernel) rfl) pa_nil))) (pa_cons (pe_callB (r := rIsP K p.1 cls d) (by exact call_isP hp hz hf) (by rfl) B.b_isinstance (by decide +kernel) (pa_cons (pv 0) (pa_cons (pe_bltn (v := .ty "KeyError") (u := .type "KeyError") (by rfl) B.b_KeyError (by decide +kernel) rfl) pa_nil))) (pa_cons (pe_callB (r := rIsP K p.1 cls d) (by exact call_isP hp hz hf) (by rfl) B.b_isinstance (by decide +kernel) (pa_cons (pv 0) (pa_cons (pe_bltn (v := .ty "OverflowError") (u := .type "OverflowError") (by rfl) B.b_OverflowError (by decide +kernel) rfl) pa_nil))) pa_nil))))))
      (pss_one (ps_ret (pe_op op_cat (pv 1) (pe_lst (pa_cons (pe_callB (r := rIsP K p.1 cls d) (by exact call_isP hp hz hf) (by rfl) B.b_isinstance (by decide +kernel) (pa_cons (pv 0) (pa_cons (pe_bltn (v := .ty "ArithmeticError") (u := .type "ArithmeticError") (by rfl) B.b_ArithmeticError (by decide +kernel) rfl) pa_nil))) (pa_cons (pe_callB (r := rIsP K p.1 cls d) (by exact call_isP hp hz hf) (by rfl) B.b_isinstance (by decide +kernel) (pa_cons (pv 0) (pa_cons (pe_bltn (v := .ty "LookupError") (u := .type "LookupError") (by rfl) B.b_LookupError (by decide +kernel) rfl) pa_nil))) pa_nil))))))))))))), ?_⟩
    obtain ⟨j, rfl, hj, hc, hd, k⟩ := h
    refine rd_at [some (.ref p.1), none] rfl ?_
    have own : ∀ (H1 : Hp) (Q1 : VK) (c : Nat), c < 17 → Same H H1 → Q1 (.bl (flag j c)) H1 → rIsP K p.1 cls d [.ref p.1, .ref (C c)] H1 Q1 := fun H1 Q1 c hcc s1 q => ⟨_, _, _, _, rfl, ClsV.own _, R.ec j hj, hc, fun dd e => (hd dd e).imp fun fs h => s1 _ _ h, R.ko j c hj hcc, q⟩
    have blt : ∀ (H1 : Hp) (Q1 : VK) (T : String) (b : Bool), PySem.W.kitOne K (.ref (C j)) (.type T) = some b → Same H H1 → Q1 (.bl b) H1 → rIsP K p.1 cls d [.ref p.1, .ty T] H1 Q1 := fun H1 Q1 T b e s1 q => ⟨_, _, _, _, rfl, ClsV.ty _, R.ec j hj, hc, fun dd e => (hd dd e).imp fun fs h => s1 _ _ h, e, q⟩
    walk_at "rd"
    refine own _ _ 0 (by decide) (fun b o e => by walk_at "hp") ?_
    walk_at "rd"
    refine own _ _ 1 (by decide) (fun b o e => by walk_at "hp") ?_
    walk_at "rd"
    refine own _ _ 2 (by decide) (fun b o e => by walk_at "hp") ?_
    walk_at "rd"
    intro p1 hp1
    walk_at "rd"
    refine own _ _ 3 (by decide) (fun b o e => by walk_at "hp") ?_
    walk_at "rd"
    refine own _ _ 4 (by decide) (fun b o e => by walk_at "hp") ?_
    walk_at "rd"
    refine own _ _ 5 (by decide) (fun b o e => by walk_at "hp") ?_
    walk_at "rd"
    intro p2 hp2
    walk_at "rd"
    refine ⟨p1, p2, _, _, rfl, rfl, by walk_at "hp", by walk_at "hp", Nat.le_trans (Nat.le_of_ble_eq_true rfl) (show 30 ≤ sizeLine by decide), fun p3 hp3 => ?_⟩
    walk_at "rd"
    refine own _ _ 6 (by decide) (fun b o e => by walk_at "hp") ?_
    walk_at "rd"
    refine own _ _ 7 (by decide) (fun b o e => by walk_at "hp") ?_
    walk_at "rd"
    refine own _ _ 8 (by decide) (fun b o e => by walk_at "hp") ?_
    walk_at "rd"
    intro p4 hp4
    walk_at "rd"
    refine ⟨p3, p4, _, _, rfl, rfl, by walk_at "hp", by walk_at "hp", Nat.le_trans (Nat.le_of_ble_eq_true rfl) (show 30 ≤ sizeLine by decide), fun p5 hp5 => ?_⟩
    walk_at "rd"
    refine own _ _ 9 (by decide) (fun b o e => by walk_at "hp") ?_
    walk_at "rd"
    refine own _ _ 10 (by decide) (fun b o e => by walk_at "hp") ?_
    walk_at "rd"
    refine own _ _ 11 (by decide) (fun b o e => by walk_at "hp") ?_
    walk_at "rd"
    intro p6 hp6
    walk_at "rd"
    refine ⟨p5, p6, _, _, rfl, rfl, by walk_at "hp", by walk_at "hp", Nat.le_trans (Nat.le_of_ble_eq_true rfl) (show 30 ≤ sizeLine by decide), fun p7 hp7 => ?_⟩
    walk_at "rd"
    refine own _ _ 12 (by decide) (fun b o e => by walk_at "hp") ?_
    walk_at "rd"
    refine own _ _ 13 (by decide) (fun b o e => by walk_at "hp") ?_
    walk_at "rd"
    refine own _ _ 14 (by decide) (fun b o e => by walk_at "hp") ?_
    walk_at "rd"
    intro p8 hp8
    walk_at "rd"
    refine ⟨p7, p8, _, _, rfl, rfl, by walk_at "hp", by walk_at "hp", Nat.le_trans (Nat.le_of_ble_eq_true rfl) (show 30 ≤ sizeLine by decide), fun p9 hp9 => ?_⟩
    walk_at "rd"
    refine own _ _ 15 (by decide) (fun b o e => by walk_at "hp") ?_
    walk_at "rd"
    refine own _ _ 16 (by decide) (fun b o e => by walk_at "hp") ?_
    walk_at "rd"
    refine blt _ _ _ _ (R.kb17 j hj) (fun b o e => by walk_at "hp") ?_
    walk_at "rd"
    intro p10 hp10
    walk_at "rd"
    refine ⟨p9, p10, _, _, rfl, rfl, by walk_at "hp", by walk_at "hp", Nat.le_trans (Nat.le_of_ble_eq_true rfl) (show 30 ≤ sizeLine by decide), fun p11 hp11 => ?_⟩
    walk_at "rd"
    refine blt _ _ _ _ (R.kb18 j hj) (fun b o e => by walk_at "hp") ?_
    walk_at "rd"
    refine blt _ _ _ _ (R.kb19 j hj) (fun b o e => by walk_at "hp") ?_
    walk_at "rd"
    refine blt _ _ _ _ (R.kb20 j hj) (fun b o e => by walk_at "hp") ?_
    walk_at "rd"
    intro p12 hp12
    walk_at "rd"
    refine ⟨p11, p12, _, _, rfl, rfl, by walk_at "hp", by walk_at "hp", Nat.le_trans (Nat.le_of_ble_eq_true rfl) (show 30 ≤ sizeLine by decide), fun p13 hp13 => ?_⟩
    walk_at "rd"
    refine blt _ _ _ _ (R.kb21 j hj) (fun b o e => by walk_at "hp") ?_
    walk_at "rd"
    refine blt _ _ _ _ (R.kb22 j hj) (fun b o e => by walk_at "hp") ?_
    walk_at "rd"
    intro p14 hp14
    walk_at "rd"
    refine ⟨p13, p14, _, _, rfl, rfl, by walk_at "hp", by walk_at "hp", Nat.le_trans (Nat.le_of_ble_eq_true rfl) (show 30 ≤ sizeLine by decide), fun p15 hp15 => ?_⟩
    exact k _ _ (fun b o e => by walk_at "hp") upd_same
end
theorem takesN0 {X : Cx} : L2N.Takes X (fun _ _ _ _ => False) := fun _ _ ⟨_, _, _, _, _, _, _, _, _, _, _, _, _, _, _, _, q⟩ => q.elim
theorem room_mark {k : Nat} {A : Around} (r : Room k A) (h : Option Value) : L2H.RoomH k (A.mark h) := ⟨r.dp, r.un⟩
theorem flag_lo : ∀ w, w < 11 → flag w 11 = false ∧ flag w 0 = true := by decide
theorem tup2 : (2 : Nat) ≤ sizeLine := by decide
section
variable {P : Program} {w : World} {K : PySem.W.Frag} {mg : Str → Option Value} {base : Heap} {C : Nat → Addr}
/-- the suite of a clause: the flags, the field -/

def sField (C : Nat → Addr) (c : Nat) (f : Str) : Addr → Value → Option Addr → TS := fun a cls d => tRet (tTup (tCons (tCl (spFlags C a cls d) (tCons (tVar 3) tNil)) (tCons (tXf a cls d (C c) f (tVar 3)) tNil)))
def sNone (C : Nat → Addr) : Addr → Value → Option Addr → TS := fun a cls d => tRet (tTup (tCons (tCl (spFlags C a cls d) (tCons (tVar 3) tNil)) (tCons (tC .non) tNil)))
theorem rd_field {C : Nat → Addr} {j : Nat} {f : Str} {a dd : Addr} {v x0 x1 x2 : V} {D : Ends} {H : Hp} (hj : j < 17) (h : H dd = some (.xd [(f, v)]))
    (k : ∀ H' q t, Same H H' → H' q = some (.lst ((flags j).map V.bl)) → H' t = some (.tup [.ref q, v]) → D.rt (.ref t) H') : sField C j f a (.ref (C j)) (some dd) D [some x0, some x1, some x2, some (.ref a)] H := by
  refine ⟨_, rfl, j, rfl, hj, rfl, (fun d e => by cases e; exact ⟨_, h⟩), fun H' q s1 hq => ?_⟩
  refine ⟨_, rfl, rfl, rfl, dd, _, v, rfl, s1 _ _ h, by simp [List.lookup], tup2, fun p hp => ?_⟩
  exact k _ q p (fun b o e => up_old hp (s1 _ _ e)) (up_old hp hq) upd_same
theorem rd_none {C : Nat → Addr} {j : Nat} {a : Addr} {x0 x1 x2 : V} {D : Ends} {H : Hp} (hj : j < 17)
    (k : ∀ H' q t, Same H H' → H' q = some (.lst ((flags j).map V.bl)) → H' t = some (.tup [.ref q, .non]) → D.rt (.ref t) H') : sNone C a (.ref (C j)) none D [some x0, some x1, some x2, some (.ref a)] H := by
  refine ⟨_, rfl, j, rfl, hj, rfl, (fun d e => nomatch e), fun H' q s1 hq => ?_⟩
  refine ⟨tup2, fun p hp => ?_⟩
  exact k _ q p (fun b o e => up_old hp (s1 _ _ e)) (up_old hp hq) upd_same
theorem ok_told {fr ff : Addr} {fdr fdf : FuncData} (R : Er K mg C) (GR : FnOk P w K mg base (L2N.CX P w) 3 fr fdr ["_law_which", "_law_text", "_law_value"] (spRaised C)) (mr : mg "_law_raised" = some (.ref fr)) (kr : PySem.W.keepIn K (.ref fr) = true) (br : Binds K fdr ["_law_which", "_law_text", "_law_value"] [])
    (GF : FnE P w K mg base 1 ff fdf ["_law_error"] (spFlags C)) (mf : mg "_law_flags" = some (.ref ff)) (kf : PySem.W.keepIn K (.ref ff) = true) (bf : Binds K fdf ["_law_error"] []) (D : DefAt K mg "_law_told" s_law_told ["_law_which", "_law_text", "_law_value"]) :
    Cal P w K mg base "_law_told" 4 ["_law_which", "_law_text", "_law_value"] spTold := by
  refine cal_of D sc_law_told (fun vs H Q E h => ?_) (fun f cdv A outer s H vs Q E hq hr h => ?_)
  · obtain ⟨w, z, v, rfl, _⟩ := h
    rfl
  · have hr1 := hr.mono (show 1 ≤ 3 by decide)
    refine ⟨_, pss_cons (ps_try_all (i := 3) (l := [(.ref (C 11), sField C 11 "spot"), (.ref (C 0), sNone C), (.ref (C 12), sField C 12 "given"), (.ref (C 13), sField C 13 "wanted"), (.ref (C 14), sField C 14 "most"), (.ref (C 15), sField C 15 "reason"), (.ref (C 16), sField C 16 "count")]) (tb := fun W => tDrop (tCallS (spRaised C) (WE W) (tCons (tVar 0) (tCons (tVar 1) (tCons (tVar 2) tNil))))) rfl rfl sc_law_told.nd rfl rfl takesN0
      (fun W pn xe tk _ => pss_one (ps_expr (by exact (pe_callS GR hr (by rfl) mr kr br (fun σ => L2N.passAt tk σ) (pa_cons (pv 0) (pa_cons (pv 1) (pa_cons (pv 2) pa_nil)))))))
      (Clauses.cons ⟨rfl, by decide, Or.inl R.n11⟩ (fun a oe cls d pn hz hf => pss_one (ps_ret (by exact pe_tup (pa_cons (hcall GF (room_mark hr1 _) (hot_suite hz hf) hz hf List.mem_cons_self (by rfl) mf kf bf (pa_cons (pv 3) pa_nil)) (pa_cons (pe_xf (R.xf 11 (by decide)) R.no11 hz.zc hf (pv 3)) pa_nil)))))
      (Clauses.cons ⟨rfl, by decide, Or.inl R.n0⟩ (fun a oe cls d pn hz hf => pss_one (ps_ret (by exact pe_tup (pa_cons (hcall GF (room_mark hr1 _) (hot_suite hz hf) hz hf List.mem_cons_self (by rfl) mf kf bf (pa_cons (pv 3) pa_nil)) (pa_cons pe_non pa_nil)))))
      (Clauses.cons ⟨rfl, by decide, Or.inl R.n12⟩ (fun a oe cls d pn hz hf => pss_one (ps_ret (by exact pe_tup (pa_cons (hcall GF (room_mark hr1 _) (hot_suite hz hf) hz hf List.mem_cons_self (by rfl) mf kf bf (pa_cons (pv 3) pa_nil)) (pa_cons (pe_xf (R.xf 12 (by decide)) R.no12 hz.zc hf (pv 3)) pa_nil)))))
      (Clauses.cons ⟨rfl, by decide, Or.inl R.n13⟩ (fun a oe cls d pn hz hf => pss_one (ps_ret (by exact pe_tup (pa_cons (hcall GF (room_mark hr1 _) (hot_suite hz hf) hz hf List.mem_cons_self (by rfl) mf kf bf (pa_cons (pv 3) pa_nil)) (pa_cons (pe_xf (R.xf 13 (by decide)) R.no13 hz.zc hf (pv 3)) pa_nil)))))
      (Clauses.cons ⟨rfl, by decide, Or.inl R.n14⟩ (fun a oe cls d pn hz hf => pss_one (ps_ret (by exact pe_tup (pa_cons (hcall GF (room_mark hr1 _) (hot_suite hz hf) hz hf List.mem_cons_self (by rfl) mf kf bf (pa_cons (pv 3) pa_nil)) (pa_cons (pe_xf (R.xf 14 (by decide)) R.no14 hz.zc hf (pv 3)) pa_nil)))))
      (Clauses.cons ⟨rfl, by decide, Or.inl R.n15⟩ (fun a oe cls d pn hz hf => pss_one (ps_ret (by exact pe_tup (pa_cons (hcall GF (room_mark hr1 _) (hot_suite hz hf) hz hf List.mem_cons_self (by rfl) mf kf bf (pa_cons (pv 3) pa_nil)) (pa_cons (pe_xf (R.xf 15 (by decide)) R.no15 hz.zc hf (pv 3)) pa_nil)))))
      (Clauses.cons ⟨rfl, by decide, Or.inl R.n16⟩ (fun a oe cls d pn hz hf => pss_one (ps_ret (by exact pe_tup (pa_cons (hcall GF (room_mark hr1 _) (hot_suite hz hf) hz hf List.mem_cons_self (by rfl) mf kf bf (pa_cons (pv 3) pa_nil)) (pa_cons (pe_xf (R.xf 16 (by decide)) R.no16 hz.zc hf (pv 3)) pa_nil)))))
      Clauses.nil)))))))) (pss_one (ps_ret pe_non)), ?_⟩
    obtain ⟨w, z, v, rfl, hw, k⟩ := h
    refine rd_at [some (.int (w : Int)), some (.str z), some v, none] rfl ?_
    refine rd_seq ?_
    refine ⟨_, rfl, _, rfl, _, rfl, w, z, v, rfl, hw, fun h1 => ?_, fun h2 d hd => ?_⟩
    · obtain ⟨e1, e2⟩ := flag_lo w h1
      refine ⟨false, (R.em w 11 (by omega) (by decide)).trans (congrArg some e1), (fun z => nomatch z), fun _ => ?_⟩
      refine ⟨true, (R.em w 0 (by omega) (by decide)).trans (congrArg some e2), fun _ a ha => ?_, (fun z => nomatch z)⟩
      refine rd_none (by omega) fun H' q t s1 h3 h4 => k H' q t s1 h3 ?_
      rw [if_pos h1]
      exact h4
    · have old : Same H (upd H d (.xd [(fld w, v)])) := fun b o e => up_old hd e
      obtain rfl | rfl | rfl | rfl | rfl | rfl : w = 11 ∨ w = 12 ∨ w = 13 ∨ w = 14 ∨ w = 15 ∨ w = 16 := by omega
      · refine ⟨true, R.em 11 11 (by decide) (by decide), fun _ a ha => ?_, (fun z => nomatch z)⟩
        exact rd_field (by decide) upd_same fun H' q t s1 h3 h4 => k H' q t (old.trans s1) h3 h4
      · refine ⟨false, R.em 12 11 (by decide) (by decide), (fun z => nomatch z), fun _ => ?_⟩
        refine ⟨false, R.em 12 0 (by decide) (by decide), (fun z => nomatch z), fun _ => ?_⟩
        refine ⟨true, R.em 12 12 (by decide) (by decide), fun _ a ha => ?_, (fun z => nomatch z)⟩
        exact rd_field (by decide) upd_same fun H' q t s1 h3 h4 => k H' q t (old.trans s1) h3 h4
      · refine ⟨false, R.em 13 11 (by decide) (by decide), (fun z => nomatch z), fun _ => ?_⟩
        refine ⟨false, R.em 13 0 (by decide) (by decide), (fun z => nomatch z), fun _ => ?_⟩
        refine ⟨false, R.em 13 12 (by decide) (by decide), (fun z => nomatch z), fun _ => ?_⟩
        refine ⟨true, R.em 13 13 (by decide) (by decide), fun _ a ha => ?_, (fun z => nomatch z)⟩
        exact rd_field (by decide) upd_same fun H' q t s1 h3 h4 => k H' q t (old.trans s1) h3 h4
      · refine ⟨false, R.em 14 11 (by decide) (by decide), (fun z => nomatch z), fun _ => ?_⟩
        refine ⟨false, R.em 14 0 (by decide) (by decide), (fun z => nomatch z), fun _ => ?_⟩
        refine ⟨false, R.em 14 12 (by decide) (by decide), (fun z => nomatch z), fun _ => ?_⟩
        refine ⟨false, R.em 14 13 (by decide) (by decide), (fun z => nomatch z), fun _ => ?_⟩
        refine ⟨true, R.em 14 14 (by decide) (by decide), fun _ a ha => ?_, (fun z => nomatch z)⟩
        exact rd_field (by decide) upd_same fun H' q t s1 h3 h4 => k H' q t (old.trans s1) h3 h4
      · refine ⟨false, R.em 15 11 (by decide) (by decide), (fun z => nomatch z), fun _ => ?_⟩
        refine ⟨false, R.em 15 0 (by decide) (by decide), (fun z => nomatch z), fun _ => ?_⟩
        refine ⟨false, R.em 15 12 (by decide) (by decide), (fun z => nomatch z), fun _ => ?_⟩
        refine ⟨false, R.em 15 13 (by decide) (by decide), (fun z => nomatch z), fun _ => ?_⟩
        refine ⟨false, R.em 15 14 (by decide) (by decide), (fun z => nomatch z), fun _ => ?_⟩
        refine ⟨true, R.em 15 15 (by decide) (by decide), fun _ a ha => ?_, (fun z => nomatch z)⟩
        exact rd_field (by decide) upd_same fun H' q t s1 h3 h4 => k H' q t (old.trans s1) h3 h4
      · refine ⟨false, R.em 16 11 (by decide) (by decide), (fun z => nomatch z), fun _ => ?_⟩
        refine ⟨false, R.em 16 0 (by decide) (by decide), (fun z => nomatch z), fun _ => ?_⟩
        refine ⟨false, R.em 16 12 (by decide) (by decide), (fun z => nomatch z), fun _ => ?_⟩
        refine ⟨false, R.em 16 13 (by decide) (by decide), (fun z => nomatch z), fun _ => ?_⟩
        refine ⟨false, R.em 16 14 (by decide) (by decide), (fun z => nomatch z), fun _ => ?_⟩
        refine ⟨false, R.em 16 15 (by decide) (by decide), (fun z => nomatch z), fun _ => ?_⟩
        refine ⟨true, R.em 16 16 (by decide) (by decide), fun _ a ha => ?_, (fun z => nomatch z)⟩
        exact rd_field (by decide) upd_same fun H' q t s1 h3 h4 => k H' q t (old.trans s1) h3 h4
end
section
variable {P : Program} {w : World} {K : PySem.W.Frag} {mg : Str → Option Value} {base : Heap}
theorem ok_law_bag (B : Bi mg) (D : DefAt K mg "_law_bag" s_law_bag ["_law_script", "_law_at"])  : Cal P w K mg base "_law_bag" 1 ["_law_script", "_law_at"] (spBag K) := by
  refine cal_of D sc_law_bag (fun vs H Q E h => ?_) (fun f cdv A outer s H vs Q E hq hr h => ?_)
  · obtain ⟨a, ns, i, rfl, _⟩ := h; rfl
  · have hu := hr.units
    replace hq := Quiet.deeper hq (envOfC "_law_bag" (defScope s_law_bag) s.heap.objs.size f cdv)
    skip
    refine ⟨_, (pss_cons (ps_set (i := 2) sc_law_bag.nd rfl (by first | exact Or.inl rfl | exact Or.inr rfl) (pe_ifExp (pt_cmpR op_lt (pv 1) (pe_callB (r := rLenQ K) (by exact q_lenQ) (by rfl) B.b_len (by decide +kernel) (pa_cons (pv 0) pa_nil)) (nomark _)) (pe_ix (r := rIxL K) (by exact ix_list) (pv 0) (pv 1) (fun _ _ => rfl)) (pe_op op_add (pe_op op_add (pe_callB (r := rSum K) (by exact (cr_sum rfl)) (by rfl) B.b_sum (by decide +kernel) (pa_cons (pe_slice (r := rSlL K) (by exact sl_list) (pv 0) po_none (po_some pe_int)) pa_nil)) (pe_op op_mul pe_int (pv 1))) pe_int)))
        (pss_cons (ps_set (i := 3) sc_law_bag.nd rfl (by first | exact Or.inl rfl | exact Or.inr rfl) (pe_op op_mod (pe_callTy q_int (by rfl) B.b_int (by decide +kernel) (pa_cons (pe_callB q_abs (by rfl) B.b_abs (by decide +kernel) (pa_cons (pv 2) pa_nil)) pa_nil)) (pe_op op_powW (pe_op op_pow pe_int pe_int) pe_int)))
        (pss_cons (ps_set (i := 4) sc_law_bag.nd rfl (by first | exact Or.inl rfl | exact Or.inr rfl) (pe_op op_add (pe_op op_add (pe_op op_add (pe_op op_mul (pe_op op_mod (pe_callTy q_int (by rfl) B.b_int (by decide +kernel) (pa_cons (pv 3) pa_nil)) pe_int) pe_int) (pe_op op_mul pe_int (pv 1))) (pe_op op_mul pe_int (pe_callTy q_int (by rfl) B.b_int (by decide +kernel) (pa_cons (pe_cmpR op_lt (pv 2) pe_int (nomark _)) pa_nil)))) pe_int))
        (pss_one (ps_ret (pe_lst (pa_cons (pe_callB (q_max2 rfl) (by rfl) B.b_max (by decide +kernel) (pa_cons pe_int (pa_cons (pe_op op_sub (pv 3) (pe_op op_pow pe_int pe_int)) pa_nil))) (pa_cons (pe_op op_mod (pe_callTy q_int (by rfl) B.b_int (by decide +kernel) (pa_cons (pv 4) pa_nil)) pe_int) (pa_cons pe_int pa_nil))))))))), ?_⟩
    obtain ⟨a, ns, i, rfl, hS, k⟩ := h
    refine rd_at [some (.ref a), some (.int i), none, none, none] rfl ?_
    refine rd_seq (rd_asg ?_)
    refine rd_with (fun v H1 => ∃ z : Int, v = .int z ∧ Same H H1) (fun Q' k' => ?_) ?_
    · walk_at "rd"
      refine rd_lenL hS ?_
      walk_at "rd"
      refine rd_ite (fun hi => ?_) (fun hi => ?_)
      · rw [List.length_map] at hi
        have hi2 : i < ns.length := by omega
        walk_at "rd"
        refine rd_ixL hS (at_nat (j := i) (v := .int ns[i]) (by rw [List.getElem?_map, List.getElem?_eq_getElem hi2]; rfl)) ?_
        exact k' _ _ ⟨_, rfl, Same.refl H⟩
      · walk_at "rd"
        refine rd_slL hS (fun p hp => ?_)
        obtain ⟨ms, hms⟩ := cut_ints ns none (some 1)
        rw [hms]
        walk_at "rd"
        refine rd_sum (SqL.of upd_same) ?_
        walk_at "rd"
        exact k' _ _ ⟨_, rfl, fun b o e => up_old hp e⟩
    rintro v H1 ⟨z, rfl, hs⟩
    walk_at "rd"
    refine rd_powW ⟨by decide, by decide +kernel⟩ ?_
    refine rd_mod (by decide +kernel) ?_
    have g1 := Int.emod_nonneg (if z < 0 then -z else z) (show ((10 : Int) ^ (47 : Int).toNat) ^ (13 : Int).toNat ≠ 0 by decide +kernel)
    generalize (if z < 0 then -z else z) % ((10 : Int) ^ (47 : Int).toNat) ^ (13 : Int).toNat = g at g1
    walk_at "rd"
    have m1 := Int.emod_nonneg g (show (2305843009213693669 : Int) ≠ 0 by decide)
    have m2 := Int.emod_lt_of_pos g (show (0 : Int) < 2305843009213693669 by decide)
    generalize g % 2305843009213693669 = m at m1 m2
    walk_at "rd"
    intro p hp
    refine k p _ (hs.free hp) (fun b o e => up_old hp (hs b o e)) ⟨_, _, _, upd_same, ?_, Int.emod_nonneg _ (by decide), by decide⟩
    split <;> omega
end
section
variable {P : Program} {w : World} {K : PySem.W.Frag} {mg : Str → Option Value} {base : Heap}
theorem ok_law_draw (B : Bi mg) (D : DefAt K mg "_law_draw" s_law_draw ["_law_bag_here", "_law_total"])  : Cal P w K mg base "_law_draw" 1 ["_law_bag_here", "_law_total"] (spDraw) := by
  refine cal_of D sc_law_draw (fun vs H Q E h => ?_) (fun f cdv A outer s H vs Q E hq hr h => ?_)
  · obtain ⟨a, n, rfl, _⟩ := h; rfl
  · have hu := hr.units
    replace hq := Quiet.deeper hq (envOfC "_law_draw" (defScope s_law_draw) s.heap.objs.size f cdv)
    skip
    refine ⟨_, (pss_cons (ps_if (pt_cmpR op_gt (pe_ix (r := rIxL K) (by exact ix_list) (pv 0) pe_int (fun _ _ => rfl)) pe_int (nomark _)) (pss_cons (ps_set (i := 2) sc_law_draw.nd rfl (by first | exact Or.inl rfl | exact Or.inr rfl) (pe_op op_mod (pe_callTy q_int (by rfl) B.b_int (by decide +kernel) (pa_cons (pe_ix (r := rIxL K) (by exact ix_list) (pv 0) pe_int (fun _ _ => rfl)) pa_nil)) (pv 1)))
        (pss_cons (ps_asg (pe_op op_fdivW (pe_ix (r := rIxL K) (by exact ix_list) (pv 0) pe_int (fun _ _ => rfl)) (pv 1)) (pg_sub (pv 0) pe_int set_list))
        (pss_one (ps_ret (pv 2))))) pss_nil)
        (pss_cons (ps_asg (pe_op op_add (pe_ix (r := rIxL K) (by exact ix_list) (pv 0) pe_int (fun _ _ => rfl)) pe_int) (pg_sub (pv 0) pe_int set_list))
        (pss_cons (ps_set (i := 3) sc_law_draw.nd rfl (by first | exact Or.inl rfl | exact Or.inr rfl) (pe_op op_mod (pe_callTy q_int (by rfl) B.b_int (by decide +kernel) (pa_cons (pe_op op_add (pe_ix (r := rIxL K) (by exact ix_list) (pv 0) pe_int (fun _ _ => rfl)) (pe_op op_mul pe_int (pe_ix (r := rIxL K) (by exact ix_list) (pv 0) pe_int (fun _ _ => rfl)))) pa_nil)) pe_int))
        (pss_cons (ps_set (i := 4) sc_law_draw.nd rfl (by first | exact Or.inl rfl | exact Or.inr rfl) (pe_op op_add (pe_op op_mul (pe_op op_mod (pe_callTy q_int (by rfl) B.b_int (by decide +kernel) (pa_cons (pe_op op_mul (pv 3) (pv 3)) pa_nil)) pe_int) (pv 3)) (pe_op op_mul pe_int (pe_ix (r := rIxL K) (by exact ix_list) (pv 0) pe_int (fun _ _ => rfl)))))
        (pss_one (ps_ret (pe_op op_mod (pe_callTy q_int (by rfl) B.b_int (by decide +kernel) (pa_cons (pe_op op_fdivW (pe_op op_mod (pe_callTy q_int (by rfl) B.b_int (by decide +kernel) (pa_cons (pv 4) pa_nil)) pe_int) pe_int) pa_nil)) (pv 1)))))))), ?_⟩
    obtain ⟨a, n, rfl, ⟨g, m, c, ha, hg, hm, hc⟩, h1, h2, k⟩ := h
    refine rd_at [some (.ref a), some (.int n), none, none, none] rfl ?_
    have n0 : (0 : Int) < n := by omega
    walk_at "rd"
    refine rd_ixL (SqL.of ha) (at_nat (j := 0) rfl) ?_
    walk_at "rd"
    refine rd_ite (fun h0 => ?_) (fun h0 => ?_)
    · walk_at "rd"
      refine rd_ixL (SqL.of ha) (at_nat (j := 0) rfl) ?_
      walk_at "rd"
      refine rd_mod n0 ?_
      walk_at "rd"
      refine rd_ixL (SqL.of ha) (at_nat (j := 0) rfl) ?_
      walk_at "rd"
      refine rd_fdivW (wide_div n0 (b := 20) (by omega) (by decide) (by decide)) ?_
      walk_at "rd"
      refine rd_setL ha (j := 0) rfl rfl ?_
      walk_at "rd"
      refine k _ _ (Int.emod_nonneg _ (by omega)) (Int.emod_lt_of_pos _ n0) But.upd ⟨_, _, _, upd_same, Int.ediv_nonneg hg (by omega), hm, hc⟩
    · walk_at "rd"
      refine rd_ixL (SqL.of ha) (at_nat (j := 2) rfl) ?_
      walk_at "rd"
      refine rd_setL ha (j := 2) rfl rfl ?_
      walk_at "rd"
      have ha2 : upd H a (.lst [.int g, .int m, .int (c + 1)]) a = some (.lst [.int g, .int m, .int (c + 1)]) := upd_same
      refine rd_ixL (SqL.of ha2) (at_nat (j := 1) rfl) ?_
      walk_at "rd"
      refine rd_ixL (SqL.of ha2) (at_nat (j := 2) rfl) ?_
      walk_at "rd"
      have o1 := Int.emod_nonneg (m + 1048613 * (c + 1)) (show (2305843009213693951 : Int) ≠ 0 by decide)
      have o2 := Int.emod_lt_of_pos (m + 1048613 * (c + 1)) (show (0 : Int) < 2305843009213693951 by decide)
      generalize (m + 1048613 * (c + 1)) % 2305843009213693951 = one at o1 o2
      walk_at "rd"
      refine rd_ixL (SqL.of ha2) (at_nat (j := 2) rfl) ?_
      walk_at "rd"
      refine rd_mod n0 ?_
      exact k _ _ (Int.emod_nonneg _ (by omega)) (Int.emod_lt_of_pos _ n0) But.upd ⟨_, _, _, ha2, hg, hm, by omega⟩
end
section
variable {P : Program} {w : World} {K : PySem.W.Frag} {mg : Str → Option Value} {base : Heap}
theorem ok_law_one_of (B : Bi mg) (D : DefAt K mg "_law_one_of" s_law_one_of ["_law_bag_here", "_law_items"]) (c_law_draw : Cal P w K mg base "_law_draw" 1 ["_law_bag_here", "_law_total"] (spDraw)) : Cal P w K mg base "_law_one_of" 2 ["_law_bag_here", "_law_items"] (spOne K) := by
  refine cal_of D sc_law_one_of (fun vs H Q E h => ?_) (fun f cdv A outer s H vs Q E hq hr h => ?_)
  · obtain ⟨a, it, rfl, _⟩ := h; rfl
  · have hu := hr.units
    replace hq := Quiet.deeper hq (envOfC "_law_one_of" (defScope s_law_one_of) s.heap.objs.size f cdv)
    have hr_law_draw := hr.mono (show 1 ≤ 1 by decide)
    skip
    refine ⟨_, (pss_one (ps_ret (pe_ix (r := rIx K) (by exact ix_seq) (pv 1) (qc c_law_draw hq hr_law_draw (by rfl) (pa_cons (pv 0) (pa_cons (pe_callB (r := rLenA K) (by exact q_lenA) (by rfl) B.b_len (by decide +kernel) (pa_cons (pv 1) pa_nil)) pa_nil))) (fun _ _ => rfl)))), ?_⟩
    obtain ⟨a, it, rfl, hb, h⟩ := h
    refine rd_at [some (.ref a), some it] rfl ?_
    walk_at "rd"
    rcases h with ⟨l, xs, rfl, hne, hS, h0, h1, k⟩ | ⟨z, rfl, h0, h1, k⟩
    · refine Or.inl ?_
      refine rd_lenL hS ?_
      walk_at "rd"
      refine ⟨a, _, rfl, hb, by omega, by omega, fun j H1 j0 j1 bu hb1 => ?_⟩
      have hj : j.toNat < xs.length := by omega
      refine rd_ixA (Or.inl (rd_ixL (bu.sq hne hS) (at_z (v := xs[j.toNat]) j0 (List.getElem?_eq_getElem hj)) ?_))
      exact k _ _ (List.getElem_mem hj) bu hb1
    · refine Or.inr ?_
      refine rd_lenS (Nat.le_trans h1 (by decide)) ?_
      walk_at "rd"
      refine ⟨a, _, rfl, hb, by omega, by omega, fun j H1 j0 j1 bu hb1 => ?_⟩
      have hj : j.toNat < z.cps.toList.length := by
        show j.toNat < z.cps.toList.length
        have e : z.length = z.cps.toList.length := by simp [Str.length]
        omega
      refine rd_ixA (Or.inr (Or.inr ⟨z, j, z.cps.toList[j.toNat], rfl, rfl, Nat.le_trans h1 (by decide), ?_, ?_⟩))
      · exact at_z j0 (List.getElem?_eq_getElem hj)
      · exact k _ _ (List.getElem_mem hj) bu hb1
end
section
variable {P : Program} {w : World} {K : PySem.W.Frag} {mg : Str → Option Value} {base : Heap}
theorem ok_law_due (B : Bi mg) (D : DefAt K mg "_law_due" s_law_due ["_law_which"])  : Cal P w K mg base "_law_due" 1 ["_law_which"] (spDue) := by
  refine cal_of D sc_law_due (fun vs H Q E h => ?_) (fun f cdv A outer s H vs Q E hq hr h => ?_)
  · obtain ⟨w, rfl, _⟩ := h; rfl
  · have hu := hr.units
    replace hq := Quiet.deeper hq (envOfC "_law_due" (defScope s_law_due) s.heap.objs.size f cdv)
    skip
    refine ⟨_, (pss_cons (ps_set (i := 1) sc_law_due.nd rfl (by first | exact Or.inl rfl | exact Or.inr rfl) (pe_lst (pa_cons pe_int (pa_cons (pv 0) (pa_cons pe_int pa_nil)))))
        (pss_cons (ps_if (pt_cmpR op_gt (pv 0) pe_int (nomark _)) (pss_one (ps_set (i := 1) sc_law_due.nd rfl (by first | exact Or.inl rfl | exact Or.inr rfl) (pe_op op_cat (pe_lst (pa_cons (pv 0) pa_nil)) (pe_ix (r := rIxL K) (by exact ix_list) (pe_lst (pa_cons (pe_lst (pa_cons pe_int (pa_cons pe_int pa_nil))) (pa_cons (pe_lst (pa_cons pe_int (pa_cons pe_int pa_nil))) (pa_cons (pe_lst (pa_cons pe_int (pa_cons pe_int pa_nil))) (pa_cons (pe_lst (pa_cons pe_int pa_nil)) (pa_cons (pe_lst (pa_cons pe_int pa_nil)) pa_nil)))))) (pe_op op_sub (pv 0) pe_int) (fun _ _ => rfl))))) pss_nil)
        (pss_one (ps_ret (pe_lc (own := [("_law_at", 2)]) (g := gName 2) (tt := tYes) (by rfl) sc_law_due.nd (pi_range1 (by rfl) B.b_range (pa_cons pe_int pa_nil)) (blkOk_by (own := [("_law_at", 2)]) (N := ["_law_which", "_law_spots", "_law_at"]) (sc := defScope s_law_due) (by decide +kernel)) (fun _ _ _ _ _ => (pg_name (i := 2) sc_law_due.nd rfl (Or.inl rfl))) (fun _ _ _ _ _ => pts_nil) (fun _ _ _ _ _ => (pe_cmpR (r := rIn K false) (by exact op_in_seq) (pv 2) (pv 1) (by rfl)))))))), ?_⟩
    obtain ⟨w, rfl, hw, k⟩ := h
    refine rd_at [some (.int (w : Int)), none, none] rfl ?_
    walk_at "rd"
    intro p0 hp0
    walk_at "rd"
    have fin : ∀ (H1 : Hp) (q : Addr) (l : List Nat), Same H H1 → H1 q = some (.lst (l.map fun n : Nat => V.int (n : Int))) → l = spots w →
      tRet (tLc (iRng1 (tCons (tC (V.int 23)) tNil)) (gName 2) tYes (tOp (rIn K false) (tVar 2) (tVar 1)) (List.map (fun x => x.snd) [(Str.ofString "_law_at", 2)])) { nx := fun x H' => Q V.non H', rt := Q } [some (.int (w : Int)), some (.ref q), none] H1 := by
      intro H1 q l s1 hq hl
      walk_at "rd"
      refine ⟨23, rfl, by decide, by decide, ?_⟩
      intro E1 hE1
      refine lc_same (wk_rng 23) (by decide) hE1 (fun _ _ => True.intro) (fun _ => true) (fun j => V.bl (flag w j)) (fun j hj H' _ R hR => hR H' (Same.refl H')) (fun j hj _ H' s2 R hR => ?_) (fun H' s2 hl2 => ?_)
      · walk_at "rd"
        have e : inV (V.int (0 + (j : Int))) (l.map fun n : Nat => V.int (n : Int)) = flag w j := by
          rw [Int.zero_add, inV_nat, hl]
          rfl
        refine ⟨q, _, rfl, Or.inl (SqL.of (s2 _ _ hq)), rfl, flat_nat l, ?_⟩
        rw [if_neg Bool.false_ne_true, e]
        exact hR H' (Same.refl H')
      · refine k H' E1 (s1.trans s2) (s1.free hE1) ?_
        rw [hl2, filt_yes, flags, List.map_map]
        rfl
    refine rd_ite (fun h1 => ?_) (fun h1 => ?_)
    · have hv : w = 12 ∨ w = 13 ∨ w = 14 ∨ w = 15 ∨ w = 16 := by omega
      walk_at "rd"
      intro p1 hp1
      walk_at "rd"
      intro p2 hp2
      walk_at "rd"
      intro p3 hp3
      walk_at "rd"
      intro p4 hp4
      walk_at "rd"
      intro p5 hp5
      walk_at "rd"
      intro p6 hp6
      walk_at "rd"
      intro p7 hp7
      walk_at "rd"
      have old : Same H (upd (upd (upd (upd (upd (upd (upd (upd H p0 (.lst [.int 0, .int (w : Int), .int 17])) p1 (.lst [.int (w : Int)])) p2 (.lst [.int 18, .int 22])) p3 (.lst [.int 19, .int 22])) p4 (.lst [.int 20, .int 21])) p5 (.lst [.int 21])) p6 (.lst [.int 22])) p7 (.lst [.ref p2, .ref p3, .ref p4, .ref p5, .ref p6])) :=
        fun b o e => up_old hp7 (up_old hp6 (up_old hp5 (up_old hp4 (up_old hp3 (up_old hp2 (up_old hp1 (up_old hp0 e)))))))
      rcases hv with rfl | rfl | rfl | rfl | rfl
      · refine rd_ixL (v := .ref p2) (SqL.of upd_same) (at_z (by decide) rfl) ?_
        refine ⟨p1, p2, _, _, rfl, rfl, by walk_at "hp", by walk_at "hp", by decide, fun p hp => ?_⟩
        walk_at "rd"
        exact fin _ p [12, 18, 22] (fun b o e => up_old hp (old b o e)) upd_same rfl
      · refine rd_ixL (v := .ref p3) (SqL.of upd_same) (at_z (by decide) rfl) ?_
        refine ⟨p1, p3, _, _, rfl, rfl, by walk_at "hp", by walk_at "hp", by decide, fun p hp => ?_⟩
        walk_at "rd"
        exact fin _ p [13, 19, 22] (fun b o e => up_old hp (old b o e)) upd_same rfl
      · refine rd_ixL (v := .ref p4) (SqL.of upd_same) (at_z (by decide) rfl) ?_
        refine ⟨p1, p4, _, _, rfl, rfl, by walk_at "hp", by walk_at "hp", by decide, fun p hp => ?_⟩
        walk_at "rd"
        exact fin _ p [14, 20, 21] (fun b o e => up_old hp (old b o e)) upd_same rfl
      · refine rd_ixL (v := .ref p5) (SqL.of upd_same) (at_z (by decide) rfl) ?_
        refine ⟨p1, p5, _, _, rfl, rfl, by walk_at "hp", by walk_at "hp", by decide, fun p hp => ?_⟩
        walk_at "rd"
        exact fin _ p [15, 21] (fun b o e => up_old hp (old b o e)) upd_same rfl
      · refine rd_ixL (v := .ref p6) (SqL.of upd_same) (at_z (by decide) rfl) ?_
        refine ⟨p1, p6, _, _, rfl, rfl, by walk_at "hp", by walk_at "hp", by decide, fun p hp => ?_⟩
        walk_at "rd"
        exact fin _ p [16, 22] (fun b o e => up_old hp (old b o e)) upd_same rfl
    · exact fin _ p0 [0, w, 17] (fun b o e => up_old hp0 e) upd_same (spots_lo w (by omega)).symm
end
section
variable {P : Program} {w : World} {K : PySem.W.Frag} {mg : Str → Option Value} {base : Heap}
theorem oklaw {f : Addr} {fd : FuncData} (B : Bi mg) (F : Fun K "law" "law" slaw f fd) (c_law_bag : Cal P w K mg base "_law_bag" 1 ["_law_script", "_law_at"] (spBag K)) (c_law_draw : Cal P w K mg base "_law_draw" 1 ["_law_bag_here", "_law_total"] (spDraw)) (c_law_due : Cal P w K mg base "_law_due" 1 ["_law_which"] (spDue)) (c_law_one_of : Cal P w K mg base "_law_one_of" 2 ["_law_bag_here", "_law_items"] (spOne K)) (c_law_told : Cal P w K mg base "_law_told" 4 ["_law_which", "_law_text", "_law_value"] (spTold)) : FnQ P w K mg base 5 f fd ["_law_script"] (spLaw K) := by
  refine quiet_def F sclaw (fun vs H Q E h => ?_) (fun cdv A outer s H vs Q E hq hr h => ?_)
  · obtain ⟨a, ns, rfl, _⟩ := h; rfl
  · have hu := hr.units
    replace hq := Quiet.deeper hq (envOfC "law" (defScope slaw) s.heap.objs.size f cdv)
    have hr_law_bag := hr.mono (show 1 ≤ 4 by decide)
    have hr_law_draw := hr.mono (show 1 ≤ 4 by decide)
    have hr_law_due := hr.mono (show 1 ≤ 4 by decide)
    have hr_law_one_of := hr.mono (show 2 ≤ 4 by decide)
    have hr_law_told := hr.mono (show 4 ≤ 4 by decide)
    skip
    refine ⟨_, (pss_cons (ps_for PassesOwn.never (by rfl) (pi_range1 (by rfl) B.b_range (pa_cons (pe_callB (q_max2 rfl) (by rfl) B.b_max (by decide +kernel) (pa_cons pe_int (pa_cons (pe_callB (q_min2 rfl) (by rfl) B.b_min (by decide +kernel) (pa_cons pe_int (pa_cons (pe_callB (r := rLenQ K) (by exact q_lenQ) (by rfl) B.b_len (by decide +kernel) (pa_cons (pv 0) pa_nil)) pa_nil))) pa_nil))) pa_nil)) (pg_name (i := 1) sclaw.nd rfl (Or.inl rfl)) (pss_cons (ps_set (i := 2) sclaw.nd rfl (by first | exact Or.inl rfl | exact Or.inr rfl) (qc c_law_bag hq hr_law_bag (by rfl) (pa_cons (pv 0) (pa_cons (pv 1) pa_nil))))
        (pss_cons (ps_set (i := 3) sclaw.nd rfl (by first | exact Or.inl rfl | exact Or.inr rfl) (pe_lst (pa_cons pe_int (pa_cons (pe_un un_neg pe_int) (pa_cons pe_non (pa_cons pe_bl (pa_cons pe_str (pa_cons (pe_tup (pa_cons pe_str (pa_cons pe_int pa_nil))) (pa_cons (pe_tup (pa_cons pe_str (pa_cons (pe_tup (pa_cons pe_str (pa_cons pe_str pa_nil))) pa_nil))) (pa_cons (pe_lst (pa_cons pe_int (pa_cons pe_str pa_nil))) (pa_cons (pe_disp (pps_cons pe_str (pe_tup (pa_cons pe_int (pa_cons pe_int pa_nil))) pps_nil) (by rfl) (by rfl) (fun z => by cases z) (by decide)) (pa_cons (pe_op op_pow pe_int pe_int) (pa_cons pe_str pa_nil)))))))))))))
        (pss_cons (ps_set (i := 4) sclaw.nd rfl (by first | exact Or.inl rfl | exact Or.inr rfl) (qc c_law_one_of hq hr_law_one_of (by rfl) (pa_cons (pv 2) (pa_cons (pe_lst (pa_cons pe_str (pa_cons pe_str (pa_cons pe_str (pa_cons (pe_op op_times pe_str (pe_op op_add pe_int (qc c_law_draw hq hr_law_draw (by rfl) (pa_cons (pv 2) (pa_cons pe_int pa_nil))))) pa_nil))))) pa_nil))))
        (pss_one (ps_for PassesOwn.never (by rfl) (pi_range1 (by rfl) B.b_range (pa_cons pe_int pa_nil)) (pg_name (i := 5) sclaw.nd rfl (Or.inl rfl)) (pss_cons (ps_set (i := 6) sclaw.nd rfl (by first | exact Or.inl rfl | exact Or.inr rfl) (qc c_law_one_of hq hr_law_one_of (by rfl) (pa_cons (pv 2) (pa_cons (pv 3) pa_nil))))
        (pss_cons (ps_set (i := 7) sclaw.nd rfl (by first | exact Or.inl rfl | exact Or.inr rfl) (qc c_law_told hq hr_law_told (by rfl) (pa_cons (pv 5) (pa_cons (pv 4) (pa_cons (pv 6) pa_nil)))))
        (pss_one (ps_if (PW.pt (pw_or (pt_cmpR op_isN (pv 7) pe_non (nomark _)) (pw_or (pt_cmpR (r := rNeD K) (by exact (op_neD hu)) (pe_ix (r := rIxT K) (by exact ix_tup) (pv 7) pe_int (fun _ _ => rfl)) (qc c_law_due hq hr_law_due (by rfl) (pa_cons (pv 5) pa_nil)) (nomark _)) (pw_or1 (pt_cmpR op_ne (pe_callB (r := rShow K) (by exact (call_show hq hu)) (by rfl) B.b_repr (by decide +kernel) (pa_cons (pe_ix (r := rIxT K) (by exact ix_tup) (pv 7) pe_int (fun _ _ => rfl)) pa_nil)) (pe_callB (r := rShow K) (by exact (call_show hq hu)) (by rfl) B.b_repr (by decide +kernel) (pa_cons (pe_ifExp (pt_cmpR op_lt (pv 5) pe_int (nomark _)) pe_non (pv 6)) pa_nil)) (nomark _)))))) (pss_one (ps_ret pe_bl)) pss_nil))))))))))
        (pss_one (ps_ret pe_bl))), ?_⟩
    obtain ⟨a, ns, rfl, hS, hl, k⟩ := h
    refine rd_at [some (.ref a), none, none, none, none, none, none, none] rfl ?_
    walk_at "rd"
    refine rd_lenL hS ?_
    walk_at "rd"
    generalize hm : (if (if ((ns.map V.int).length : Int) < 3 then ((ns.map V.int).length : Int) else 3) > 1 then (if ((ns.map V.int).length : Int) < 3 then ((ns.map V.int).length : Int) else 3) else 1) = m
    have m1 : 1 ≤ m ∧ m ≤ 3 := by
      rw [← hm]
      split <;> split <;> omega
    refine ⟨m, rfl, by omega, by omega, ?_⟩
    refine for_rng (fun _ σ' H' => ∃ v1 v2 v3 v4 v5 v6 v7, σ' = [some (.ref a), v1, v2, v3, v4, v5, v6, v7] ∧ SqL K H' a (ns.map V.int)) ⟨none, none, none, none, none, none, none, rfl, hS⟩ ?_ ?_
    · rintro i _ H1 hi ⟨v1, v2, v3, v4, v5, v6, v7, rfl, hS1⟩
      walk_at "rd"
      refine ⟨a, ns, i, by rw [Int.zero_add], hS1, fun p H2 hp hsame hb => ?_⟩
      walk_at "rd"
      intro t1 ht1
      walk_at "rd"
      intro t2 ht2
      walk_at "rd"
      intro t3 ht3
      walk_at "rd"
      intro t4 ht4
      walk_at "rd"
      intro td htd
      walk_at "rd"
      intro t5 ht5
      walk_at "rd"
      refine ⟨by walk_at "hp", [(.inr "a", .ref t5)], rfl, Nat.le_of_ble_eq_true rfl, ?_⟩
      have old4 : Same H2 (upd (upd (upd (upd H2 t1 (.tup [.str "loose", .int 3])) t2 (.tup [.str "a", .str "b"])) t3 (.tup [.str "weight", .ref t2])) t4 (.lst [.int 1, .str "x"])) := fun b o e => by walk_at "hp"
      have f1 : (upd (upd (upd (upd H2 t1 (.tup [.str "loose", .int 3])) t2 (.tup [.str "a", .str "b"])) t3 (.tup [.str "weight", .ref t2])) t4 (.lst [.int 1, .str "x"])) t1 = some (.tup [.str "loose", .int 3]) := by walk_at "hp"
      have f2 : (upd (upd (upd (upd H2 t1 (.tup [.str "loose", .int 3])) t2 (.tup [.str "a", .str "b"])) t3 (.tup [.str "weight", .ref t2])) t4 (.lst [.int 1, .str "x"])) t2 = some (.tup [.str "a", .str "b"]) := by walk_at "hp"
      have f3 : (upd (upd (upd (upd H2 t1 (.tup [.str "loose", .int 3])) t2 (.tup [.str "a", .str "b"])) t3 (.tup [.str "weight", .ref t2])) t4 (.lst [.int 1, .str "x"])) t3 = some (.tup [.str "weight", .ref t2]) := by walk_at "hp"
      have f4 : (upd (upd (upd (upd H2 t1 (.tup [.str "loose", .int 3])) t2 (.tup [.str "a", .str "b"])) t3 (.tup [.str "weight", .ref t2])) t4 (.lst [.int 1, .str "x"])) t4 = some (.lst [.int 1, .str "x"]) := by walk_at "hp"
      generalize (upd (upd (upd (upd H2 t1 (.tup [.str "loose", .int 3])) t2 (.tup [.str "a", .str "b"])) t3 (.tup [.str "weight", .ref t2])) t4 (.lst [.int 1, .str "x"])) = H3 at old4 f1 f2 f3 f4 htd ht5
      have ltd : ∀ {b : Addr} {o : HO}, H3 b = some o → upd (upd (upd H3 td (.dK [])) t5 (.tup [.int 1, .int 2])) td (.dK (mergeK [] [(.inr "a", .ref t5)])) b = some o := fun {b o} e => up_oth (ne_of_none e htd) (up_old ht5 (up_old htd e))
      have n5 : t5 ≠ td := (ne_of_none (upd_same : upd H3 td (.dK []) td = some (.dK [])) ht5).symm
      have f5 : upd (upd (upd H3 td (.dK [])) t5 (.tup [.int 1, .int 2])) td (.dK (mergeK [] [(.inr "a", .ref t5)])) t5 = some (.tup [.int 1, .int 2]) := up_oth n5 upd_same
      have f6 : upd (upd (upd H3 td (.dK [])) t5 (.tup [.int 1, .int 2])) td (.dK (mergeK [] [(.inr "a", .ref t5)])) td = some (.dK [(.inr "a", .ref t5)]) := upd_same
      have old7 : Same H2 (upd (upd (upd H3 td (.dK [])) t5 (.tup [.int 1, .int 2])) td (.dK (mergeK [] [(.inr "a", .ref t5)]))) := fun b o e => ltd (old4 _ _ e)
      have newp : ∀ {b : Addr}, H2 b = none → b ≠ p := fun {b} hb1 z => by
        obtain ⟨_, _, _, e, _⟩ := hb
        rw [← z, hb1] at e
        cases e
      have np : t1 ≠ p ∧ t2 ≠ p ∧ t3 ≠ p ∧ t4 ≠ p ∧ t5 ≠ p ∧ td ≠ p := by
        refine ⟨newp ht1, newp ?_, newp ?_, newp ?_, newp (old4.free ?_), newp (old4.free htd)⟩
        · exact (show Same H2 _ from fun b o e => up_old ht1 e).free ht2
        · exact (show Same H2 _ from fun b o e => up_old ht2 (up_old ht1 e)).free ht3
        · exact (show Same H2 _ from fun b o e => up_old ht3 (up_old ht2 (up_old ht1 e))).free ht4
        · exact (show Same H3 _ from fun b o e => up_old htd e).free ht5
      have g1 := ltd f1
      have g2 := ltd f2
      have g3 := ltd f3
      have g4 := ltd f4
      generalize upd (upd (upd H3 td (.dK [])) t5 (.tup [.int 1, .int 2])) td (.dK (mergeK [] [(.inr "a", .ref t5)])) = H7 at f5 f6 old7 g1 g2 g3 g4
      walk_at "rd"
      intro tl htl
      have va : Va (upd H7 tl (.lst (vlist t1 t3 t4 td))) p t1 t2 t3 t4 t5 td tl := ⟨up_old htl g1, up_old htl g2, up_old htl g3, up_old htl g4, up_old htl f5, up_old htl f6, upd_same, np.1, np.2.1, np.2.2.1, np.2.2.2.1, np.2.2.2.2.1, np.2.2.2.2.2, newp (old7.free htl)⟩
      have hb8 : BagAt (upd H7 tl (.lst (vlist t1 t3 t4 td))) p := by
        obtain ⟨g, m, c, e, r⟩ := hb
        exact ⟨g, m, c, up_old htl (old7 _ _ e), r⟩
      have hS8 : SqL K (upd H7 tl (.lst (vlist t1 t3 t4 td))) a (ns.map V.int) := sq_kept hp (hsame.trans (old7.trans fun b o e => up_old htl e)) (But.refl p _) hS1
      have keepS : ∀ {H' : Hp}, But p (upd H7 tl (.lst (vlist t1 t3 t4 td))) H' → SqL K H' a (ns.map V.int) := fun {H'} bu => sq_kept hp (hsame.trans (old7.trans fun b o e => up_old htl e)) bu hS1
      show gName 3 (V.ref tl) _ (upd H7 tl (.lst (vlist t1 t3 t4 td))) _
      generalize upd H7 tl (.lst (vlist t1 t3 t4 td)) = H8 at va hb8 hS8 keepS
      walk_at "rd"
      refine ⟨p, 40, rfl, hb8, by decide, by decide, fun j H9 j0 j1 bu9 hb9 => ?_⟩
      walk_at "rd"
      refine ⟨_, _, rfl, rfl, by omega, by omega, by decide, by decide, fun wx => ?_⟩
      walk_at "rd"
      intro t8 ht8
      refine ⟨p, .ref t8, rfl, BagAt.old ht8 hb9, Or.inl ⟨t8, _, rfl, new_ne ht8 hb9, SqL.of upd_same, Nat.le_of_ble_eq_true rfl, Nat.le_of_ble_eq_true rfl, fun v H10 hv bu10 hb10 => ?_⟩⟩
      have hz : ∃ z, v = .str z := by
        simp only [List.mem_cons, List.not_mem_nil, or_false] at hv
        rcases hv with rfl | rfl | rfl | rfl <;> exact ⟨_, rfl⟩
      obtain ⟨z, rfl⟩ := hz
      have bu : But p H8 H10 := bu9.trans ((But.new ht8).trans bu10)
      walk_at "rd"
      refine ⟨17, rfl, by decide, by decide, ?_⟩
      refine for_rng (n := 17) (fun _ σ' H' => ∃ v5 v6 v7, σ' = [some (.ref a), some (.int (0 + (i : Int))), some (.ref p), some (.ref tl), some (.str z), v5, v6, v7] ∧ But p H8 H' ∧ BagAt H' p) ⟨_, _, _, rfl, bu, hb10⟩ ?_ ?_
      · rintro w _ H11 hw ⟨v5, v6, v7, rfl, bu11, hb11⟩
        have va11 := va.but bu11
        walk_at "rd"
        refine ⟨p, .ref tl, rfl, hb11, Or.inl ⟨tl, _, rfl, va.ne.2.2.2.2.2.2, SqL.of va11.e7, Nat.le_of_ble_eq_true rfl, Nat.le_of_ble_eq_true rfl, fun v H12 hv bu12 hb12 => ?_⟩⟩
        walk_at "rd"
        refine ⟨w, z, v, by rw [Int.zero_add], by omega, fun H13 q t s13 hq ht => ?_⟩
        have s8 : But p H8 H13 := (bu11.trans bu12).trans (same_but p s13)
        have hb13 : BagAt H13 p := by
          obtain ⟨g, m, c, e, r⟩ := hb12
          exact ⟨g, m, c, s13 _ _ e, r⟩
        walk_at "rd"
        refine ⟨rfl, ?_⟩
        walk_at "rd"
        refine rd_ite (fun e => nomatch e) (fun _ => ?_)
        walk_at "rd"
        refine rd_ixT (SqT.of ht) (at_nat (j := 0) rfl) ?_
        walk_at "rd"
        refine ⟨w, by rw [Int.zero_add], by omega, fun H14 q2 s14 hf2 hq2 => ?_⟩
        refine ⟨_, _, .lst (SqL.of (s14 _ _ hq)) (dp_bools _), .lst (SqL.of hq2) (dp_bools _), flags_shaped w, flags_shaped w, ?_⟩
        rw [flags_eqv w (by omega)]
        walk_at "rd"
        refine rd_ifb (fun e => nomatch e) (fun _ => ?_)
        walk_at "rd"
        refine rd_ixT (SqT.of (s14 _ _ ht)) (at_nat (j := 1) rfl) ?_
        walk_at "rd"
        have b14 : But p H8 H14 := s8.trans (same_but p s14)
        have hb14 : BagAt H14 p := by
          obtain ⟨g, m, c, e, r⟩ := hb13
          exact ⟨g, m, c, s14 _ _ e, r⟩
        by_cases h11 : w < 11
        · rw [if_pos h11]
          refine ⟨_, "None", rfl, .non, ?_⟩
          walk_at "rd"
          refine rd_ite (fun _ => ?_) (fun e => absurd (by omega) e)
          walk_at "rd"
          refine ⟨_, "None", rfl, .non, ?_⟩
          refine rd_ne rfl ?_
          walk_at "rd"
          refine rd_iteN (fun e => absurd rfl e) (fun _ => ?_)
          walk_at "rd"
          exact ⟨_, _, _, rfl, b14, hb14⟩
        · rw [if_neg h11]
          obtain ⟨zs, hsh⟩ := (va.but b14).sh (K := K) v hv
          refine ⟨_, zs, rfl, hsh, ?_⟩
          walk_at "rd"
          refine rd_ite (fun e => absurd e (by omega)) (fun _ => ?_)
          walk_at "rd"
          refine ⟨_, zs, rfl, hsh, ?_⟩
          refine rd_ne rfl ?_
          walk_at "rd"
          refine rd_iteN (fun e => absurd rfl e) (fun _ => ?_)
          walk_at "rd"
          exact ⟨_, _, _, rfl, b14, hb14⟩
      · rintro _ H11 ⟨v5, v6, v7, rfl, bu11, hb11⟩
        exact ⟨_, _, _, _, _, _, _, rfl, keepS bu11⟩
    · rintro _ H1 ⟨v1, v2, v3, v4, v5, v6, v7, rfl, hS1⟩
      exact k _
end
end K00
namespace K00
open PySem PySem.Spec PyProof.Rows L2 Lay

/-- what is asked of the j-th class -/
def okE (K : PySem.W.Frag) (C : Nat → Addr) (j : Nat) : Bool :=
  PySem.W.keepIn K (.ref (C j)) && decide (PySem.W.subIn K (.ref (C j)) (.type "BaseException") = some true) && decide (PySem.W.typeIn K (.ref (C j)) = some (.type "type")) &&
  (decide (11 ≤ j) || PySem.W.excIn K (C j) [.type "ValueError", .type "Exception", .type "BaseException", .type "object"] "ValueError.__new__") &&
  decide (PySem.W.findIn K (.ref (C j)) "__getattribute__" = some (some (.builtin "BaseException.__getattribute__"))) && decide (PySem.W.findIn K (.ref (C j)) "__getattr__" = some none) && PySem.W.hasDictIn K (C j) &&
  decide (PySem.W.findIn K (.ref (C j)) "__class__" = some (some (.builtin "object.__class__"))) && decide (PySem.W.mroIn K (C j) (.type "object") = some true) &&
  (List.range 17).all (fun c => decide (PySem.W.kitOne K (.ref (C j)) (.ref (C c)) = some (flag j c))) && (List.range 17).all (fun c => decide (PySem.W.exmOne K (.ref (C j)) (.ref (C c)) = some (flag j c))) &&
  decide (PySem.W.kitOne K (.ref (C j)) (.type "ValueError") = some (flag j 17)) && decide (PySem.W.kitOne K (.ref (C j)) (.type "IndexError") = some (flag j 18)) && decide (PySem.W.kitOne K (.ref (C j)) (.type "KeyError") = some (flag j 19)) && decide (PySem.W.kitOne K (.ref (C j)) (.type "OverflowError") = some (flag j 20)) && decide (PySem.W.kitOne K (.ref (C j)) (.type "ArithmeticError") = some (flag j 21)) && decide (PySem.W.kitOne K (.ref (C j)) (.type "LookupError") = some (flag j 22))
theorem all_at {f : Nat → Bool} {n c : Nat} (h : (List.range n).all f = true) (hc : c < n) : f c = true := List.all_eq_true.mp h c (List.mem_range.mpr hc)
def cAt (c0 c1 c2 c3 c4 c5 c6 c7 c8 c9 c10 c11 c12 c13 c14 c15 c16 : Addr) : Nat → Addr := fun j => [c0, c1, c2, c3, c4, c5, c6, c7, c8, c9, c10, c11, c12, c13, c14, c15, c16].getD j 0
theorem all_mk {l : PySem.W.OpenLaw} {w : World} {K : PySem.W.Frag} {h : Heap} {mg : Str → Option Value} {fa c0 c1 c2 c3 c4 c5 c6 c7 c8 c9 c10 c11 c12 c13 c14 c15 c16 f0 f1 f2 f3 f4 f5 f6 f7 g11 g12 g13 g14 g15 g16 : Addr} (X : K.In h) (G : h.Ns mainGlobals mg) (hfa : mg "law" = some (.ref fa))
    {od0 an0 od1 an1 od2 an2 od3 an3 od4 an4 od5 an5 od6 an6 od7 an7 : Option Addr} {sl0 sl1 sl2 sl3 sl4 sl5 sl6 sl7 : Array (Option Value)} {oc0 kV0 dc0 pm0 cd0 ct0 oc1 kV1 dc1 pm1 cd1 ct1 oc2 kV2 dc2 pm2 cd2 ct2 oc3 kV3 dc3 pm3 cd3 ct3 oc4 kV4 dc4 pm4 cd4 ct4 oc5 kV5 dc5 pm5 cd5 ct5 oc6 kV6 dc6 pm6 cd6 ct6 oc7 kV7 dc7 pm7 cd7 ct7 : Value}
    {hod11 han11 hod12 han12 hod13 han13 hod14 han14 hod15 han15 hod16 han16 : Option Addr} {hsl11 hsl12 hsl13 hsl14 hsl15 hsl16 : Array (Option Value)} {hoc11 hkV11 hdc11 hpm11 hcd11 hct11 hoc12 hkV12 hdc12 hpm12 hcd12 hct12 hoc13 hkV13 hdc13 hpm13 hcd13 hct13 hoc14 hkV14 hdc14 hpm14 hcd14 hct14 hoc15 hkV15 hdc15 hpm15 hcd15 hct15 hoc16 hkV16 hdc16 hpm16 hcd16 hct16 : Value}
    {nm11 qn11 nm12 qn12 nm13 qn13 nm14 qn14 nm15 qn15 nm16 qn16 : Str} {N11 N12 N13 N14 N15 N16 : Addr} {bs11 su11 bs12 su12 bs13 su13 bs14 su14 bs15 su15 bs16 su16 : List Value} {sn11 sn12 sn13 sn14 sn15 sn16 : List Str} {ab11 ab12 ab13 ab14 ab15 ab16 : Bool} {co11 co12 co13 co14 co15 co16 : Option Bool} {dd11 dd12 dd13 dd14 dd15 dd16 : Option Addr} {x11_0 x11_1 x11_2 x11_3 x11_5 x12_0 x12_1 x12_2 x12_3 x12_5 x13_0 x13_1 x13_2 x13_3 x13_5 x14_0 x14_1 x14_2 x14_3 x14_5 x15_0 x15_1 x15_2 x15_3 x15_5 x16_0 x16_1 x16_2 x16_3 x16_5 : Option Value}
    (n0 : PySem.W.nsIn K mainGlobals "FrameError" = some (some (.ref c0)))
    (n1 : PySem.W.nsIn K mainGlobals "InvalidName" = some (some (.ref c1)))
    (n2 : PySem.W.nsIn K mainGlobals "InvalidFrame" = some (some (.ref c2)))
    (n3 : PySem.W.nsIn K mainGlobals "InvalidRod" = some (some (.ref c3)))
    (n4 : PySem.W.nsIn K mainGlobals "InvalidPlacing" = some (some (.ref c4)))
    (n5 : PySem.W.nsIn K mainGlobals "InvalidWeights" = some (some (.ref c5)))
    (n6 : PySem.W.nsIn K mainGlobals "InvalidStep" = some (some (.ref c6)))
    (n7 : PySem.W.nsIn K mainGlobals "InvalidStand" = some (some (.ref c7)))
    (n8 : PySem.W.nsIn K mainGlobals "InvalidDirections" = some (some (.ref c8)))
    (n9 : PySem.W.nsIn K mainGlobals "InvalidPromise" = some (some (.ref c9)))
    (n10 : PySem.W.nsIn K mainGlobals "InvalidOperation" = some (some (.ref c10)))
    (n11 : PySem.W.nsIn K mainGlobals "ParseError" = some (some (.ref c11)))
    (n12 : PySem.W.nsIn K mainGlobals "InvalidNumber" = some (some (.ref c12)))
    (n13 : PySem.W.nsIn K mainGlobals "UnknownName" = some (some (.ref c13)))
    (n14 : PySem.W.nsIn K mainGlobals "TooMany" = some (some (.ref c14)))
    (n15 : PySem.W.nsIn K mainGlobals "Refused" = some (some (.ref c15)))
    (n16 : PySem.W.nsIn K mainGlobals "NothingToUndo" = some (some (.ref c16)))
    (xl11 : K.lookup c11 = some (excClassObj nm11 qn11 c11 N11 bs11 [.ref c0, .type "ValueError", .type "Exception", .type "BaseException", .type "object"] true sn11 su11 ab11 co11 dd11 x11_0 x11_1 x11_2 x11_3 x11_5 "ValueError.__new__"))
    (sa11 : PySem.W.findIn K (.ref c11) "__setattr__" = some (some (.builtin "object.__setattr__"))) (no11 : PySem.W.findIn K (.ref c11) "spot" = some none) (ic11 : PySem.W.findIn K (.ref c11) "__init__" = some (some (.ref g11))) (ti11 : PySem.W.typeIn K (.ref g11) = some (.type "function"))
    (il11 : K.lookup g11 = some ⟨hoc11, hod11, .func (PySem.W.fnOf "__init__" "ParseError.__init__" (defArgs si11) (defBody si11) (defScope si11) .none hkV11 hdc11 hpm11 han11 hcd11 hct11), hsl11⟩) (ik11 : PySem.W.codeIn K hcd11 "ParseError.__init__" = true) (kk11 : PySem.W.keepIn K (.ref g11) = true)
    (xl12 : K.lookup c12 = some (excClassObj nm12 qn12 c12 N12 bs12 [.type "IndexError", .type "LookupError", .type "Exception", .type "BaseException", .type "object"] true sn12 su12 ab12 co12 dd12 x12_0 x12_1 x12_2 x12_3 x12_5 "IndexError.__new__"))
    (sa12 : PySem.W.findIn K (.ref c12) "__setattr__" = some (some (.builtin "object.__setattr__"))) (no12 : PySem.W.findIn K (.ref c12) "given" = some none) (ic12 : PySem.W.findIn K (.ref c12) "__init__" = some (some (.ref g12))) (ti12 : PySem.W.typeIn K (.ref g12) = some (.type "function"))
    (il12 : K.lookup g12 = some ⟨hoc12, hod12, .func (PySem.W.fnOf "__init__" "InvalidNumber.__init__" (defArgs si12) (defBody si12) (defScope si12) .none hkV12 hdc12 hpm12 han12 hcd12 hct12), hsl12⟩) (ik12 : PySem.W.codeIn K hcd12 "InvalidNumber.__init__" = true) (kk12 : PySem.W.keepIn K (.ref g12) = true)
    (xl13 : K.lookup c13 = some (excClassObj nm13 qn13 c13 N13 bs13 [.type "KeyError", .type "LookupError", .type "Exception", .type "BaseException", .type "object"] true sn13 su13 ab13 co13 dd13 x13_0 x13_1 x13_2 x13_3 x13_5 "LookupError.__new__"))
    (sa13 : PySem.W.findIn K (.ref c13) "__setattr__" = some (some (.builtin "object.__setattr__"))) (no13 : PySem.W.findIn K (.ref c13) "wanted" = some none) (ic13 : PySem.W.findIn K (.ref c13) "__init__" = some (some (.ref g13))) (ti13 : PySem.W.typeIn K (.ref g13) = some (.type "function"))
    (il13 : K.lookup g13 = some ⟨hoc13, hod13, .func (PySem.W.fnOf "__init__" "UnknownName.__init__" (defArgs si13) (defBody si13) (defScope si13) .none hkV13 hdc13 hpm13 han13 hcd13 hct13), hsl13⟩) (ik13 : PySem.W.codeIn K hcd13 "UnknownName.__init__" = true) (kk13 : PySem.W.keepIn K (.ref g13) = true)
    (xl14 : K.lookup c14 = some (excClassObj nm14 qn14 c14 N14 bs14 [.type "OverflowError", .type "ArithmeticError", .type "Exception", .type "BaseException", .type "object"] true sn14 su14 ab14 co14 dd14 x14_0 x14_1 x14_2 x14_3 x14_5 "OverflowError.__new__"))
    (sa14 : PySem.W.findIn K (.ref c14) "__setattr__" = some (some (.builtin "object.__setattr__"))) (no14 : PySem.W.findIn K (.ref c14) "most" = some none) (ic14 : PySem.W.findIn K (.ref c14) "__init__" = some (some (.ref g14))) (ti14 : PySem.W.typeIn K (.ref g14) = some (.type "function"))
    (il14 : K.lookup g14 = some ⟨hoc14, hod14, .func (PySem.W.fnOf "__init__" "TooMany.__init__" (defArgs si14) (defBody si14) (defScope si14) .none hkV14 hdc14 hpm14 han14 hcd14 hct14), hsl14⟩) (ik14 : PySem.W.codeIn K hcd14 "TooMany.__init__" = true) (kk14 : PySem.W.keepIn K (.ref g14) = true)
    (xl15 : K.lookup c15 = some (excClassObj nm15 qn15 c15 N15 bs15 [.type "ArithmeticError", .type "Exception", .type "BaseException", .type "object"] true sn15 su15 ab15 co15 dd15 x15_0 x15_1 x15_2 x15_3 x15_5 "ArithmeticError.__new__"))
    (sa15 : PySem.W.findIn K (.ref c15) "__setattr__" = some (some (.builtin "object.__setattr__"))) (no15 : PySem.W.findIn K (.ref c15) "reason" = some none) (ic15 : PySem.W.findIn K (.ref c15) "__init__" = some (some (.ref g15))) (ti15 : PySem.W.typeIn K (.ref g15) = some (.type "function"))
    (il15 : K.lookup g15 = some ⟨hoc15, hod15, .func (PySem.W.fnOf "__init__" "Refused.__init__" (defArgs si15) (defBody si15) (defScope si15) .none hkV15 hdc15 hpm15 han15 hcd15 hct15), hsl15⟩) (ik15 : PySem.W.codeIn K hcd15 "Refused.__init__" = true) (kk15 : PySem.W.keepIn K (.ref g15) = true)
    (xl16 : K.lookup c16 = some (excClassObj nm16 qn16 c16 N16 bs16 [.type "LookupError", .type "Exception", .type "BaseException", .type "object"] true sn16 su16 ab16 co16 dd16 x16_0 x16_1 x16_2 x16_3 x16_5 "LookupError.__new__"))
    (sa16 : PySem.W.findIn K (.ref c16) "__setattr__" = some (some (.builtin "object.__setattr__"))) (no16 : PySem.W.findIn K (.ref c16) "count" = some none) (ic16 : PySem.W.findIn K (.ref c16) "__init__" = some (some (.ref g16))) (ti16 : PySem.W.typeIn K (.ref g16) = some (.type "function"))
    (il16 : K.lookup g16 = some ⟨hoc16, hod16, .func (PySem.W.fnOf "__init__" "NothingToUndo.__init__" (defArgs si16) (defBody si16) (defScope si16) .none hkV16 hdc16 hpm16 han16 hcd16 hct16), hsl16⟩) (ik16 : PySem.W.codeIn K hcd16 "NothingToUndo.__init__" = true) (kk16 : PySem.W.keepIn K (.ref g16) = true)
    (hn : PySem.W.specialIn K (.builtin "object.__class__") "__get__" = some (some (.builtin "getset_descriptor.__get__"))) (ht : PySem.W.takesIn K (.builtin "object.__class__") = some true)
    (a0 : PySem.W.nsIn K mainGlobals "_law_bag" = some (some (.ref f0))) (l0 : K.lookup f0 = some ⟨oc0, od0, .func (PySem.W.fnOf "_law_bag" "_law_bag" (defArgs s_law_bag) (defBody s_law_bag) (defScope s_law_bag) .none kV0 dc0 pm0 an0 cd0 ct0), sl0⟩) (d0 : PySem.W.codeIn K cd0 "_law_bag" = true) (k0 : PySem.W.keepIn K (.ref f0) = true)
    (a1 : PySem.W.nsIn K mainGlobals "_law_draw" = some (some (.ref f1))) (l1 : K.lookup f1 = some ⟨oc1, od1, .func (PySem.W.fnOf "_law_draw" "_law_draw" (defArgs s_law_draw) (defBody s_law_draw) (defScope s_law_draw) .none kV1 dc1 pm1 an1 cd1 ct1), sl1⟩) (d1 : PySem.W.codeIn K cd1 "_law_draw" = true) (k1 : PySem.W.keepIn K (.ref f1) = true)
    (a2 : PySem.W.nsIn K mainGlobals "_law_one_of" = some (some (.ref f2))) (l2 : K.lookup f2 = some ⟨oc2, od2, .func (PySem.W.fnOf "_law_one_of" "_law_one_of" (defArgs s_law_one_of) (defBody s_law_one_of) (defScope s_law_one_of) .none kV2 dc2 pm2 an2 cd2 ct2), sl2⟩) (d2 : PySem.W.codeIn K cd2 "_law_one_of" = true) (k2 : PySem.W.keepIn K (.ref f2) = true)
    (a3 : PySem.W.nsIn K mainGlobals "_law_due" = some (some (.ref f3))) (l3 : K.lookup f3 = some ⟨oc3, od3, .func (PySem.W.fnOf "_law_due" "_law_due" (defArgs s_law_due) (defBody s_law_due) (defScope s_law_due) .none kV3 dc3 pm3 an3 cd3 ct3), sl3⟩) (d3 : PySem.W.codeIn K cd3 "_law_due" = true) (k3 : PySem.W.keepIn K (.ref f3) = true)
    (a4 : PySem.W.nsIn K mainGlobals "_law_raised" = some (some (.ref f4))) (l4 : K.lookup f4 = some ⟨oc4, od4, .func (PySem.W.fnOf "_law_raised" "_law_raised" (defArgs s_law_raised) (defBody s_law_raised) (defScope s_law_raised) .none kV4 dc4 pm4 an4 cd4 ct4), sl4⟩) (d4 : PySem.W.codeIn K cd4 "_law_raised" = true) (k4 : PySem.W.keepIn K (.ref f4) = true)
    (a5 : PySem.W.nsIn K mainGlobals "_law_flags" = some (some (.ref f5))) (l5 : K.lookup f5 = some ⟨oc5, od5, .func (PySem.W.fnOf "_law_flags" "_law_flags" (defArgs s_law_flags) (defBody s_law_flags) (defScope s_law_flags) .none kV5 dc5 pm5 an5 cd5 ct5), sl5⟩) (d5 : PySem.W.codeIn K cd5 "_law_flags" = true) (k5 : PySem.W.keepIn K (.ref f5) = true)
    (a6 : PySem.W.nsIn K mainGlobals "_law_told" = some (some (.ref f6))) (l6 : K.lookup f6 = some ⟨oc6, od6, .func (PySem.W.fnOf "_law_told" "_law_told" (defArgs s_law_told) (defBody s_law_told) (defScope s_law_told) .none kV6 dc6 pm6 an6 cd6 ct6), sl6⟩) (d6 : PySem.W.codeIn K cd6 "_law_told" = true) (k6 : PySem.W.keepIn K (.ref f6) = true)
    (a7 : PySem.W.nsIn K mainGlobals "law" = some (some (.ref f7))) (l7 : K.lookup f7 = some ⟨oc7, od7, .func (PySem.W.fnOf "law" "law" (defArgs slaw) (defBody slaw) (defScope slaw) .none kV7 dc7 pm7 an7 cd7 ct7), sl7⟩) (d7 : PySem.W.codeIn K cd7 "law" = true) (k7 : PySem.W.keepIn K (.ref f7) = true)
    (z_ArithmeticError : PySem.W.nsIn K mainGlobals "ArithmeticError" = some none)
    (z_IndexError : PySem.W.nsIn K mainGlobals "IndexError" = some none)
    (z_KeyError : PySem.W.nsIn K mainGlobals "KeyError" = some none)
    (z_LookupError : PySem.W.nsIn K mainGlobals "LookupError" = some none)
    (z_OverflowError : PySem.W.nsIn K mainGlobals "OverflowError" = some none)
    (z_ValueError : PySem.W.nsIn K mainGlobals "ValueError" = some none)
    (z_abs : PySem.W.nsIn K mainGlobals "abs" = some none)
    (z_int : PySem.W.nsIn K mainGlobals "int" = some none)
    (z_isinstance : PySem.W.nsIn K mainGlobals "isinstance" = some none)
    (z_len : PySem.W.nsIn K mainGlobals "len" = some none)
    (z_max : PySem.W.nsIn K mainGlobals "max" = some none)
    (z_min : PySem.W.nsIn K mainGlobals "min" = some none)
    (z_range : PySem.W.nsIn K mainGlobals "range" = some none)
    (z_repr : PySem.W.nsIn K mainGlobals "repr" = some none)
    (z_sum : PySem.W.nsIn K mainGlobals "sum" = some none)
    (chk : (List.range 17).all (okE K (cAt c0 c1 c2 c3 c4 c5 c6 c7 c8 c9 c10 c11 c12 c13 c14 c15 c16)) = true)
    : ∃ fd : FuncData, (∀ (s : Shared) (v : Value), BindsTo s fd ⟨[v], []⟩ [("_law_script", v)]) ∧ ∀ base : Heap, K.In base → base.Ns mainGlobals mg → FnQ l.prog w K mg base 5 fa fd ["_law_script"] (spLaw K) := by
  have e := hfa.symm.trans (PySem.W.mg_of X G a7)
  cases e
  have B : Bi mg := { b_ArithmeticError := PySem.W.mg_none_of X G z_ArithmeticError, b_IndexError := PySem.W.mg_none_of X G z_IndexError, b_KeyError := PySem.W.mg_none_of X G z_KeyError, b_LookupError := PySem.W.mg_none_of X G z_LookupError, b_OverflowError := PySem.W.mg_none_of X G z_OverflowError, b_ValueError := PySem.W.mg_none_of X G z_ValueError, b_abs := PySem.W.mg_none_of X G z_abs, b_int := PySem.W.mg_none_of X G z_int, b_isinstance := PySem.W.mg_none_of X G z_isinstance, b_len := PySem.W.mg_none_of X G z_len, b_max := PySem.W.mg_none_of X G z_max, b_min := PySem.W.mg_none_of X G z_min, b_range := PySem.W.mg_none_of X G z_range, b_repr := PySem.W.mg_none_of X G z_repr, b_sum := PySem.W.mg_none_of X G z_sum }
  have ok : ∀ j, j < 17 → okE K (cAt c0 c1 c2 c3 c4 c5 c6 c7 c8 c9 c10 c11 c12 c13 c14 c15 c16) j = true := fun j hj => all_at chk hj
  have parts : ∀ j, j < 17 → PySem.W.keepIn K (.ref (cAt c0 c1 c2 c3 c4 c5 c6 c7 c8 c9 c10 c11 c12 c13 c14 c15 c16 j)) = true ∧ (PySem.W.subIn K (.ref (cAt c0 c1 c2 c3 c4 c5 c6 c7 c8 c9 c10 c11 c12 c13 c14 c15 c16 j)) (.type "BaseException") = some true ∧ PySem.W.typeIn K (.ref (cAt c0 c1 c2 c3 c4 c5 c6 c7 c8 c9 c10 c11 c12 c13 c14 c15 c16 j)) = some (.type "type")) ∧
      (j < 11 → PySem.W.excIn K (cAt c0 c1 c2 c3 c4 c5 c6 c7 c8 c9 c10 c11 c12 c13 c14 c15 c16 j) [.type "ValueError", .type "Exception", .type "BaseException", .type "object"] "ValueError.__new__" = true) ∧ ExcC K (cAt c0 c1 c2 c3 c4 c5 c6 c7 c8 c9 c10 c11 c12 c13 c14 c15 c16 j) ∧
      (∀ c, c < 17 → PySem.W.kitOne K (.ref (cAt c0 c1 c2 c3 c4 c5 c6 c7 c8 c9 c10 c11 c12 c13 c14 c15 c16 j)) (.ref (cAt c0 c1 c2 c3 c4 c5 c6 c7 c8 c9 c10 c11 c12 c13 c14 c15 c16 c)) = some (flag j c)) ∧ (∀ c, c < 17 → PySem.W.exmOne K (.ref (cAt c0 c1 c2 c3 c4 c5 c6 c7 c8 c9 c10 c11 c12 c13 c14 c15 c16 j)) (.ref (cAt c0 c1 c2 c3 c4 c5 c6 c7 c8 c9 c10 c11 c12 c13 c14 c15 c16 c)) = some (flag j c)) ∧
      (PySem.W.kitOne K (.ref (cAt c0 c1 c2 c3 c4 c5 c6 c7 c8 c9 c10 c11 c12 c13 c14 c15 c16 j)) (.type "ValueError") = some (flag j 17) ∧ PySem.W.kitOne K (.ref (cAt c0 c1 c2 c3 c4 c5 c6 c7 c8 c9 c10 c11 c12 c13 c14 c15 c16 j)) (.type "IndexError") = some (flag j 18) ∧ PySem.W.kitOne K (.ref (cAt c0 c1 c2 c3 c4 c5 c6 c7 c8 c9 c10 c11 c12 c13 c14 c15 c16 j)) (.type "KeyError") = some (flag j 19) ∧ PySem.W.kitOne K (.ref (cAt c0 c1 c2 c3 c4 c5 c6 c7 c8 c9 c10 c11 c12 c13 c14 c15 c16 j)) (.type "OverflowError") = some (flag j 20) ∧ PySem.W.kitOne K (.ref (cAt c0 c1 c2 c3 c4 c5 c6 c7 c8 c9 c10 c11 c12 c13 c14 c15 c16 j)) (.type "ArithmeticError") = some (flag j 21) ∧ PySem.W.kitOne K (.ref (cAt c0 c1 c2 c3 c4 c5 c6 c7 c8 c9 c10 c11 c12 c13 c14 c15 c16 j)) (.type "LookupError") = some (flag j 22)) := fun j hj => by
    have this := ok j hj
    unfold okE at this
    simp only [Bool.and_eq_true] at this
    obtain ⟨⟨⟨⟨⟨⟨⟨⟨⟨⟨⟨⟨⟨⟨⟨⟨q1, q2⟩, q3⟩, q4⟩, q5⟩, q6⟩, q7⟩, q8⟩, q9⟩, q10⟩, q11⟩, r17⟩, r18⟩, r19⟩, r20⟩, r21⟩, r22⟩ := this
    refine ⟨q1, ⟨of_decide_eq_true q2, of_decide_eq_true q3⟩, fun h => ?_, ⟨of_decide_eq_true q5, of_decide_eq_true q6, of_decide_eq_true q2, q7, of_decide_eq_true q8, hn, ht, of_decide_eq_true q9⟩, fun c hc => of_decide_eq_true (all_at q10 hc), fun c hc => of_decide_eq_true (all_at q11 hc), of_decide_eq_true r17, of_decide_eq_true r18, of_decide_eq_true r19, of_decide_eq_true r20, of_decide_eq_true r21, of_decide_eq_true r22⟩
    rcases Bool.or_eq_true_iff.mp q4 with y | y
    · exact absurd (of_decide_eq_true y) (by omega)
    · exact y
  have xc11 : Xc K (cAt c0 c1 c2 c3 c4 c5 c6 c7 c8 c9 c10 c11 c12 c13 c14 c15 c16 11) "ValueError" "ValueError.__new__" := ⟨⟨_, _, _, _, _, _, _, _, _, _, _, _, _, _, _, xl11, PySem.XG.tail_VE.own c0⟩, sa11, (parts 11 (by decide)).2.1.1, (parts 11 (by decide)).2.1.2, (parts 11 (by decide)).1⟩
  have xc12 : Xc K (cAt c0 c1 c2 c3 c4 c5 c6 c7 c8 c9 c10 c11 c12 c13 c14 c15 c16 12) "IndexError" "IndexError.__new__" := ⟨⟨_, _, _, _, _, _, _, _, _, _, _, _, _, _, _, xl12, PySem.XG.tail_IE⟩, sa12, (parts 12 (by decide)).2.1.1, (parts 12 (by decide)).2.1.2, (parts 12 (by decide)).1⟩
  have xc13 : Xc K (cAt c0 c1 c2 c3 c4 c5 c6 c7 c8 c9 c10 c11 c12 c13 c14 c15 c16 13) "LookupError" "LookupError.__new__" := ⟨⟨_, _, _, _, _, _, _, _, _, _, _, _, _, _, _, xl13, PySem.XG.tail_KE⟩, sa13, (parts 13 (by decide)).2.1.1, (parts 13 (by decide)).2.1.2, (parts 13 (by decide)).1⟩
  have xc14 : Xc K (cAt c0 c1 c2 c3 c4 c5 c6 c7 c8 c9 c10 c11 c12 c13 c14 c15 c16 14) "OverflowError" "OverflowError.__new__" := ⟨⟨_, _, _, _, _, _, _, _, _, _, _, _, _, _, _, xl14, PySem.XG.tail_OE⟩, sa14, (parts 14 (by decide)).2.1.1, (parts 14 (by decide)).2.1.2, (parts 14 (by decide)).1⟩
  have xc15 : Xc K (cAt c0 c1 c2 c3 c4 c5 c6 c7 c8 c9 c10 c11 c12 c13 c14 c15 c16 15) "ArithmeticError" "ArithmeticError.__new__" := ⟨⟨_, _, _, _, _, _, _, _, _, _, _, _, _, _, _, xl15, PySem.XG.tail_AE⟩, sa15, (parts 15 (by decide)).2.1.1, (parts 15 (by decide)).2.1.2, (parts 15 (by decide)).1⟩
  have xc16 : Xc K (cAt c0 c1 c2 c3 c4 c5 c6 c7 c8 c9 c10 c11 c12 c13 c14 c15 c16 16) "LookupError" "LookupError.__new__" := ⟨⟨_, _, _, _, _, _, _, _, _, _, _, _, _, _, _, xl16, PySem.XG.tail_LE⟩, sa16, (parts 16 (by decide)).2.1.1, (parts 16 (by decide)).2.1.2, (parts 16 (by decide)).1⟩
  have R : Er K mg (cAt c0 c1 c2 c3 c4 c5 c6 c7 c8 c9 c10 c11 c12 c13 c14 c15 c16) := { n0 := PySem.W.mg_of X G n0, n1 := PySem.W.mg_of X G n1, n2 := PySem.W.mg_of X G n2, n3 := PySem.W.mg_of X G n3, n4 := PySem.W.mg_of X G n4, n5 := PySem.W.mg_of X G n5, n6 := PySem.W.mg_of X G n6, n7 := PySem.W.mg_of X G n7, n8 := PySem.W.mg_of X G n8, n9 := PySem.W.mg_of X G n9, n10 := PySem.W.mg_of X G n10, n11 := PySem.W.mg_of X G n11, n12 := PySem.W.mg_of X G n12, n13 := PySem.W.mg_of X G n13, n14 := PySem.W.mg_of X G n14, n15 := PySem.W.mg_of X G n15, n16 := PySem.W.mg_of X G n16, kp := fun j hj => (parts j hj).1, rs := fun j hj => (parts j hj).2.1, ex := fun j hj => (parts j (by omega)).2.2.1 hj, ec := fun j hj => (parts j hj).2.2.2.1, xf := fun j hj => ⟨(parts j hj).2.2.2.1.hg, (parts j hj).2.2.2.1.hk, (parts j hj).2.2.2.1.hs, (parts j hj).2.2.2.1.hd⟩, ko := fun j c hj hc => (parts j hj).2.2.2.2.1 c hc, em := fun j c hj hc => (parts j hj).2.2.2.2.2.1 c hc, kb17 := fun j hj => (parts j hj).2.2.2.2.2.2.1, kb18 := fun j hj => (parts j hj).2.2.2.2.2.2.2.1, kb19 := fun j hj => (parts j hj).2.2.2.2.2.2.2.2.1, kb20 := fun j hj => (parts j hj).2.2.2.2.2.2.2.2.2.1, kb21 := fun j hj => (parts j hj).2.2.2.2.2.2.2.2.2.2.1, kb22 := fun j hj => (parts j hj).2.2.2.2.2.2.2.2.2.2.2, xc11 := xc11, no11 := no11, xc12 := xc12, no12 := no12, xc13 := xc13, no13 := no13, xc14 := xc14, no14 := no14, xc15 := xc15, no15 := no15, xc16 := xc16, no16 := no16 }
  have FI11 := fun_mk (st := si11) il11 ik11 kk11
  have bI11 := FI11.binds (ps := ["self", "spot"]) fun _ _ _ _ _ _ us hl => match us, hl with | [_, _], _ => rfl
  have FI12 := fun_mk (st := si12) il12 ik12 kk12
  have bI12 := FI12.binds (ps := ["self", "given"]) fun _ _ _ _ _ _ us hl => match us, hl with | [_, _], _ => rfl
  have FI13 := fun_mk (st := si13) il13 ik13 kk13
  have bI13 := FI13.binds (ps := ["self", "wanted"]) fun _ _ _ _ _ _ us hl => match us, hl with | [_, _], _ => rfl
  have FI14 := fun_mk (st := si14) il14 ik14 kk14
  have bI14 := FI14.binds (ps := ["self", "most"]) fun _ _ _ _ _ _ us hl => match us, hl with | [_, _], _ => rfl
  have FI15 := fun_mk (st := si15) il15 ik15 kk15
  have bI15 := FI15.binds (ps := ["self", "reason"]) fun _ _ _ _ _ _ us hl => match us, hl with | [_, _], _ => rfl
  have FI16 := fun_mk (st := si16) il16 ik16 kk16
  have bI16 := FI16.binds (ps := ["self", "count"]) fun _ _ _ _ _ _ us hl => match us, hl with | [_, _], _ => rfl
  have F0 := fun_mk (st := s_law_bag) l0 d0 k0
  have b0 := F0.binds (ps := ["_law_script", "_law_at"]) fun _ _ _ _ _ _ us hl => match us, hl with | [_, _], _ => rfl
  have D0 : DefAt K mg "_law_bag" s_law_bag ["_law_script", "_law_at"] := ⟨f0, _, F0, PySem.W.mg_of X G a0, b0⟩
  have F1 := fun_mk (st := s_law_draw) l1 d1 k1
  have b1 := F1.binds (ps := ["_law_bag_here", "_law_total"]) fun _ _ _ _ _ _ us hl => match us, hl with | [_, _], _ => rfl
  have D1 : DefAt K mg "_law_draw" s_law_draw ["_law_bag_here", "_law_total"] := ⟨f1, _, F1, PySem.W.mg_of X G a1, b1⟩
  have F2 := fun_mk (st := s_law_one_of) l2 d2 k2
  have b2 := F2.binds (ps := ["_law_bag_here", "_law_items"]) fun _ _ _ _ _ _ us hl => match us, hl with | [_, _], _ => rfl
  have D2 : DefAt K mg "_law_one_of" s_law_one_of ["_law_bag_here", "_law_items"] := ⟨f2, _, F2, PySem.W.mg_of X G a2, b2⟩
  have F3 := fun_mk (st := s_law_due) l3 d3 k3
  have b3 := F3.binds (ps := ["_law_which"]) fun _ _ _ _ _ _ us hl => match us, hl with | [_], _ => rfl
  have D3 : DefAt K mg "_law_due" s_law_due ["_law_which"] := ⟨f3, _, F3, PySem.W.mg_of X G a3, b3⟩
  have F4 := fun_mk (st := s_law_raised) l4 d4 k4
  have b4 := F4.binds (ps := ["_law_which", "_law_text", "_law_value"]) fun _ _ _ _ _ _ us hl => match us, hl with | [_, _, _], _ => rfl
  have D4 : DefAt K mg "_law_raised" s_law_raised ["_law_which", "_law_text", "_law_value"] := ⟨f4, _, F4, PySem.W.mg_of X G a4, b4⟩
  have F5 := fun_mk (st := s_law_flags) l5 d5 k5
  have b5 := F5.binds (ps := ["_law_error"]) fun _ _ _ _ _ _ us hl => match us, hl with | [_], _ => rfl
  have D5 : DefAt K mg "_law_flags" s_law_flags ["_law_error"] := ⟨f5, _, F5, PySem.W.mg_of X G a5, b5⟩
  have F6 := fun_mk (st := s_law_told) l6 d6 k6
  have b6 := F6.binds (ps := ["_law_which", "_law_text", "_law_value"]) fun _ _ _ _ _ _ us hl => match us, hl with | [_, _, _], _ => rfl
  have D6 : DefAt K mg "_law_told" s_law_told ["_law_which", "_law_text", "_law_value"] := ⟨f6, _, F6, PySem.W.mg_of X G a6, b6⟩
  have FL := fun_mk (st := slaw) l7 d7 k7
  refine ⟨PySem.W.fnOf "law" "law" (defArgs slaw) (defBody slaw) (defScope slaw) .none kV7 dc7 pm7 an7 cd7 ct7, fun s v => .of_eq rfl, fun base _ _ => ?_⟩
  have C0 := ok_law_bag (P := l.prog) (w := w) (base := base) B D0 
  have C1 := ok_law_draw (P := l.prog) (w := w) (base := base) B D1 
  have C2 := ok_law_one_of (P := l.prog) (w := w) (base := base) B D2 C1
  have C3 := ok_law_due (P := l.prog) (w := w) (base := base) B D3 
  have I11 : Ini l.prog w K mg base (cAt c0 c1 c2 c3 c4 c5 c6 c7 c8 c9 c10 c11 c12 c13 c14 c15 c16 11) "ValueError" "ValueError.__new__" "spot" := ⟨g11, _, ic11, ti11, oki11 FI11, bI11⟩
  have I12 : Ini l.prog w K mg base (cAt c0 c1 c2 c3 c4 c5 c6 c7 c8 c9 c10 c11 c12 c13 c14 c15 c16 12) "IndexError" "IndexError.__new__" "given" := ⟨g12, _, ic12, ti12, oki12 FI12, bI12⟩
  have I13 : Ini l.prog w K mg base (cAt c0 c1 c2 c3 c4 c5 c6 c7 c8 c9 c10 c11 c12 c13 c14 c15 c16 13) "LookupError" "LookupError.__new__" "wanted" := ⟨g13, _, ic13, ti13, oki13 FI13, bI13⟩
  have I14 : Ini l.prog w K mg base (cAt c0 c1 c2 c3 c4 c5 c6 c7 c8 c9 c10 c11 c12 c13 c14 c15 c16 14) "OverflowError" "OverflowError.__new__" "most" := ⟨g14, _, ic14, ti14, oki14 FI14, bI14⟩
  have I15 : Ini l.prog w K mg base (cAt c0 c1 c2 c3 c4 c5 c6 c7 c8 c9 c10 c11 c12 c13 c14 c15 c16 15) "ArithmeticError" "ArithmeticError.__new__" "reason" := ⟨g15, _, ic15, ti15, oki15 FI15, bI15⟩
  have I16 : Ini l.prog w K mg base (cAt c0 c1 c2 c3 c4 c5 c6 c7 c8 c9 c10 c11 c12 c13 c14 c15 c16 16) "LookupError" "LookupError.__new__" "count" := ⟨g16, _, ic16, ti16, oki16 FI16, bI16⟩
  have GR := ok_raised (P := l.prog) (w := w) (base := base) R F4 I11 I12 I13 I14 I15 I16
  have GF := ok_flags (P := l.prog) (w := w) (base := base) B R F5
  have C6 := ok_told R GR (PySem.W.mg_of X G a4) k4 b4 GF (PySem.W.mg_of X G a5) k5 b5 D6
  exact oklaw B FL C0 C1 C3 C2 C6
end K00
open PySem PySem.W PyProof.Rows
set_option maxHeartbeats 0 in
theorem PySem.Challenge.cw_lengthstell_k00_whole_errors_holds : PySem.Challenge.rw_lengthstell_k00_whole_errors.Holds := by
  w_on; o_law; k_head; (case hw => w_witness2)
  k_fill
  refine Lay.law_walks (l := PySem.Challenge.rw_lengthstell_k00_whole_errors) (n := 63) (k := 5) (x := "_law_script") (sp := fun K => K00.spLaw K) rfl (by decide) rfl ⟨rfl, by decide, by decide⟩ (fun w h Y => PySem.W.kIn_of Y) ?F ?hsp
  case hsp => exact fun K H a ns hl hS => ⟨a, ns, rfl, hS, hl, fun _ => rfl⟩
  case F =>
    intro w mg fa h KX G hmg
    refine' K00.all_mk KX G hmg ?n0 ?n1 ?n2 ?n3 ?n4 ?n5 ?n6 ?n7 ?n8 ?n9 ?n10 ?n11 ?n12 ?n13 ?n14 ?n15 ?n16 ?xl11 ?sa11 ?no11 ?ic11 ?ti11 ?il11 ?ik11 ?kk11 ?xl12 ?sa12 ?no12 ?ic12 ?ti12 ?il12 ?ik12 ?kk12 ?xl13 ?sa13 ?no13 ?ic13 ?ti13 ?il13 ?ik13 ?kk13 ?xl14 ?sa14 ?no14 ?ic14 ?ti14 ?il14 ?ik14 ?kk14 ?xl15 ?sa15 ?no15 ?ic15 ?ti15 ?il15 ?ik15 ?kk15 ?xl16 ?sa16 ?no16 ?ic16 ?ti16 ?il16 ?ik16 ?kk16 ?hn ?ht ?a0 ?l0 ?d0 ?k0 ?a1 ?l1 ?d1 ?k1 ?a2 ?l2 ?d2 ?k2 ?a3 ?l3 ?d3 ?k3 ?a4 ?l4 ?d4 ?k4 ?a5 ?l5 ?d5 ?k5 ?a6 ?l6 ?d6 ?k6 ?a7 ?l7 ?d7 ?k7 ?z_ArithmeticError ?z_IndexError ?z_KeyError ?z_LookupError ?z_OverflowError ?z_ValueError ?z_abs ?z_int ?z_isinstance ?z_len ?z_max ?z_min ?z_range ?z_repr ?z_sum ?chk
    (case n0 => k_is)
    (case n1 => k_is)
    (case n2 => k_is)
    (case n3 => k_is)
    (case n4 => k_is)
    (case n5 => k_is)
    (case n6 => k_is)
    (case n7 => k_is)
    (case n8 => k_is)
    (case n9 => k_is)
    (case n10 => k_is)
    (case n11 => k_is)
    (case n12 => k_is)
    (case n13 => k_is)
    (case n14 => k_is)
    (case n15 => k_is)
    (case n16 => k_is)
    (case xl11 => k_is)
    (case sa11 => k_is)
    (case no11 => k_is)
    (case ic11 => k_is)
    (case ti11 => k_is)
    (case il11 => k_is)
    (case ik11 => k_is)
    (case kk11 => k_is)
    (case xl12 => k_is)
    (case sa12 => k_is)
    (case no12 => k_is)
    (case ic12 => k_is)
    (case ti12 => k_is)
    (case il12 => k_is)
    (case ik12 => k_is)
    (case kk12 => k_is)
    (case xl13 => k_is)
    (case sa13 => k_is)
    (case no13 => k_is)
    (case ic13 => k_is)
    (case ti13 => k_is)
    (case il13 => k_is)
    (case ik13 => k_is)
    (case kk13 => k_is)
    (case xl14 => k_is)
    (case sa14 => k_is)
    (case no14 => k_is)
    (case ic14 => k_is)
    (case ti14 => k_is)
    (case il14 => k_is)
    (case ik14 => k_is)
    (case kk14 => k_is)
    (case xl15 => k_is)
    (case sa15 => k_is)
    (case no15 => k_is)
    (case ic15 => k_is)
    (case ti15 => k_is)
    (case il15 => k_is)
    (case ik15 => k_is)
    (case kk15 => k_is)
    (case xl16 => k_is)
    (case sa16 => k_is)
    (case no16 => k_is)
    (case ic16 => k_is)
    (case ti16 => k_is)
    (case il16 => k_is)
    (case ik16 => k_is)
    (case kk16 => k_is)
    (case hn => k_is)
    (case ht => k_is)
    (case a0 => k_is)
    (case l0 => k_is)
    (case d0 => k_is)
    (case k0 => k_is)
    (case a1 => k_is)
    (case l1 => k_is)
    (case d1 => k_is)
    (case k1 => k_is)
    (case a2 => k_is)
    (case l2 => k_is)
    (case d2 => k_is)
    (case k2 => k_is)
    (case a3 => k_is)
    (case l3 => k_is)
    (case d3 => k_is)
    (case k3 => k_is)
    (case a4 => k_is)
    (case l4 => k_is)
    (case d4 => k_is)
    (case k4 => k_is)
    (case a5 => k_is)
    (case l5 => k_is)
    (case d5 => k_is)
    (case k5 => k_is)
    (case a6 => k_is)
    (case l6 => k_is)
    (case d6 => k_is)
    (case k6 => k_is)
    (case a7 => k_is)
    (case l7 => k_is)
    (case d7 => k_is)
    (case k7 => k_is)
    (case z_ArithmeticError => k_is)
    (case z_IndexError => k_is)
    (case z_KeyError => k_is)
    (case z_LookupError => k_is)
    (case z_OverflowError => k_is)
    (case z_ValueError => k_is)
    (case z_abs => k_is)
    (case z_int => k_is)
    (case z_isinstance => k_is)
    (case z_len => k_is)
    (case z_max => k_is)
    (case z_min => k_is)
    (case z_range => k_is)
    (case z_repr => k_is)
    (case z_sum => k_is)
    (case chk => kernel_rfl)
