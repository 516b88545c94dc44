import PyProof.Rows.All
import Wide.All
import OpenK.AllK
import Wide.FinOn
import HandS.Base
import HandS.Call
import HandS.List
import HandS.Comp
import HandS.Ends
import HandS.Words
import HandS.Wide
import HandS.Iter
import HandS.Text
import HandS.IsInst
import HandS.WideBits
import HandS.TupLe
import HandS.TupAny
import HandS.Zip
import HandS.Dict
import PySem.Challenge.RW_lengthstell_k01_words_and_lots
set_option Elab.async false
set_option linter.all false
set_option maxRecDepth 100000
set_option maxHeartbeats 4000000
/-! LayA: defs that are only ever entered where no display is under way (so that what is shown is shown whole). -/
namespace Lay
open PySem PySem.Spec PyProof.Rows L2

/-- no display is under way around A -/
def Quiet (A : Around) : Prop := A.guards = some []
theorem quiet_caller : Quiet callerA := rfl
theorem Quiet.deeper {A : Around} (q : Quiet A) (env : Env) : Quiet (A.deeper env) := q

section
variable {P : Program} {w : World} {K : PySem.W.Frag} {mg : Str → Option Value} {base : Heap}

/-- a def's promise, for quiet places alone -/
structure FnQ (P : Program) (w : World) (K : PySem.W.Frag) (mg : Str → Option Value) (base : Heap) (k : Nat) (f : Addr) (fd : FuncData) (ps : List Str) (sp : Sp) : Prop where
  many : ∀ vs H Q E, sp vs H Q E → vs.length = ps.length
  goes : ∀ (A : Around) (outer : List Env) (s : Shared) (H : Hp) (args : Args) (us : List Value) (vs : List V) (Q : VK) (E : XK), Quiet A → Room k A →
    Env0 P w K mg base A outer s H → BindsTo s fd args (ps.zip us) → Vals vs us → sp vs H Q E →
    codeAny (model P w) A (.call (.ref f) args) (CR CX0 outer P w H s Q E) s

theorem FnQ.of {k : Nat} {f : Addr} {fd : FuncData} {ps : List Str} {sp : Sp} (F : FnOk P w K mg base CX0 k f fd ps sp) : FnQ P w K mg base k f fd ps sp :=
  ⟨F.len, fun A o s H ar us vs Q E _ hr he hb hv hs => F.run A o s H ar us vs Q E hr he hb hv hs⟩

/-- a def by its body, entered where it is quiet -/
theorem quiet_def {x qual : Str} {st : Stmt} {f : Addr} {fd : FuncData} {N ps : List Str} {k : Nat} {sp : Sp} (F : Fun K x qual st f fd) (S : FnScope N ps (defScope st))
    (many : ∀ vs H Q E, sp vs H Q E → vs.length = ps.length)
    (body : ∀ (cdv : Value) (A : Around) (outer : List Env) (s : Shared) (H : Hp) (vs : List V) (Q : VK) (E : XK), Quiet A → Room k (A.deeper (envOfC qual (defScope st) s.heap.objs.size f cdv)) → sp vs H Q E →
      ∃ t, PSs (cxOf CX0 P w K mg base N qual (defScope st) f cdv A outer s H E).nox (defBody st) t ∧ t { nx := fun _ H' => Q .non H', rt := Q } (start N vs) H) :
    FnQ P w K mg base (k + 1) f fd ps sp := by
  obtain ⟨oc, od, kV, doc, pm, an, cdv, ct, osl, rfl, lk, hcd⟩ := F.ex
  refine ⟨many, fun A outer s H args us vs Q E hq hr he hb hv hs => ?_⟩
  -- the promise at this A alone, as a promise for all places: elsewhere nothing is asked
  have here : FnOk P w K mg base CX0 (k + 1) f (PySem.W.fnOf x qual (defArgs st) (defBody st) (defScope st) .none kV doc pm an cdv ct) ps sp → codeAny (model P w) A (.call (.ref f) args) (CR CX0 outer P w H s Q E) s :=
    fun G => G.run A outer s H args us vs Q E hr he hb hv hs
  have hl := many _ _ _ _ hs
  have KX : K.In s.heap := he.mod.kin.keeps fun b o e => (he.bs b o e).1
  have lim : s.heap.NoLimit := he.mod.nolimit.keeps fun b o e => (he.bs b o e).1
  have kinds : ∀ y ∈ ps.zip us, (defScope st).names.lookup y.1 = some .local ∨ ((defScope st).names.lookup y.1 = some .cell ∧ ((cellsFrom (s.heap.objs.size + 1) (defScope st).names []).lookup y.1).isSome = true) := by
    intro y hy
    rcases S.par y.1 (List.of_mem_zip hy).1 with q | q
    · exact Or.inl q
    · exact Or.inr ⟨q, PySem.W.cellsFrom_some _ _ _ (Or.inl q)⟩
  apply codeAny_call_function hr.depth (KX _ _ lk) rfl S.co S.gen rfl (PySem.W.codeRec_of KX hcd)
  apply hb
  apply wpAny_newFunctionEnv_cells S.kind kinds
  intro env henv s1 x1
  subst henv
  refine ⟨lim.keeps x1.toInCall.keep, ?_⟩
  apply codeAny_func
  obtain ⟨t, ht, q0⟩ := body cdv A outer s H vs Q E hq (hr.deeper _) hs
  have I : Inv (cxOf CX0 P w K mg base N qual (defScope st) f cdv A outer s H E) [] (start N vs) H s1 := inv_start S hr.hd he hl hv x1
  refine wpAny_mono (ht.nox.run [] s1 (start N vs) H _ I q0) (fun fl s2 h2 => ?_) (fun e s2 h2 => h2)
  cases fl with
  | next =>
    obtain ⟨a, b, J, z⟩ := h2
    exact ⟨V.non, b, J.os, J.bare, J.base, J.hok, rfl, z⟩
  | ret u =>
    obtain ⟨v, a, b, J, rv, z⟩ := h2
    exact ⟨v, b, J.os, J.bare, J.base, J.hok, rv, z⟩
  | brk =>
    obtain ⟨a, b, J, z⟩ := h2
    exact z.elim
  | cont =>
    obtain ⟨a, b, J, z⟩ := h2
    exact z.elim
end

section
variable {X : Cx} {k : Nat} {f : Addr} {fd : FuncData} {ps : List Str} {sp : Sp} {x : Str} {p pos : Pos} {e : Expr} {es : List Expr} {t : TA}
theorem quiet_run {pins : List (Addr × Obj)} {σ : L2.St} {H : Hp} {s : Shared} {Q : VK} {us : List Value} {vs : List V} (F : FnQ X.prog X.w X.K X.mg X.base k f fd ps sp) (hq : Quiet X.A) (hr : Room k X.A) (hb : Binds X.K fd ps [])
    (I : Inv X pins σ H s) (r : Vals vs us) (h : sp vs H Q E0) : wpAny (model X.prog X.w) X.A (call (.ref f) us) (EP X pins σ Q) X.xe s := by
  have hl : (us ++ []).length = ps.length := by
    rw [List.append_nil, ← r.length]
    exact F.many _ _ _ _ h
  have bb := hb s us I.kIn hl
  rw [List.append_nil] at bb
  refine wpAny_call (codeAny_mono (F.goes X.A X.stack s H ⟨us, []⟩ us vs Q E0 hq hr I.env0 bb r h) fun res s2 hh => ?_)
  cases res with
  | error z => exact False.elim hh
  | ok fl =>
    cases fl with
    | ret u => exact I.after hh
    | next => exact False.elim hh
    | brk => exact False.elim hh
    | cont => exact False.elim hh
def tCl (sp : Sp) (t : TA) : TE := fun σ H Q => t σ H fun vs H1 => sp vs H1 Q E0
/-- f(e, ..) where it is quiet -/
theorem qcall (F : FnQ X.prog X.w X.K X.mg X.base k f fd ps sp) (hq : Quiet X.A) (hr : Room k X.A) (hg : Gl X x) (hm : X.mg x = some (.ref f)) (hk : PySem.W.keepIn X.K (.ref f) = true) (hb : Binds X.K fd ps [])
    (ha : PA X (e :: es) t) (hdb : (x == ("__debug__" : Str)) = false := by decide) (he : starEach (e :: es) X.env = (false, eval e X.env) :: starEach es X.env := by rfl) (hpl : (backTo pos (starEach es X.env)).any (·.1) = false := by rfl) :
    PE X (.Call (.Name x p) (e :: es) [] pos) (tCl sp t) := by
  refine ⟨fun pins s σ H Q I h => wpAny_Call_Name_kw (ld_glob I hg hm ?_ hdb)⟩
  refine PySem.W.callWith_K (h₀ := X.base) I.ok.mod.kin hk (thn (ha.run pos pins s σ H _ I h) ?_) he hpl
  rintro us s1 ⟨vs, H1, I1, r, q⟩
  exact ⟨I1.kIn, quiet_run F hq hr hb I1 r q⟩
theorem qcall0 (F : FnQ X.prog X.w X.K X.mg X.base k f fd ps sp) (hq : Quiet X.A) (hr : Room k X.A) (hg : Gl X x) (hm : X.mg x = some (.ref f)) (hk : PySem.W.keepIn X.K (.ref f) = true) (hb : Binds X.K fd ps [])
    (hdb : (x == ("__debug__" : Str)) = false := by decide) : PE X (.Call (.Name x p) [] [] pos) (tCl sp tNil) :=
  ⟨fun pins s σ H Q I h => wpAny_Call_Name_kw (ld_glob I hg hm (PySem.W.callWith_K0 I.kIn hk (quiet_run (us := []) F hq hr hb I .nil h)) hdb)⟩

/-- repr(x) of whole data -/
def rRepr (K : PySem.W.Frag) : List V → Hp → VK → Prop := fun xs H Q => ∃ (a : Addr) (d : PyData), xs = [.ref a] ∧ Dp K H (.ref a) d ∧ d.showable = true ∧ d.hasDict = false ∧ d.depth ≤ 20 ∧ d.shown.length ≤ sizeLine ∧ Q (.str d.shown) H
theorem call_repr (hq : Quiet X.A) (hu : X.A.units + 64 < cLine) : CallR X (.builtin "repr") (rRepr X.K) := by
  intro pins s σ H xs us Q I r h
  obtain ⟨a, d, rfl, hd, hs, hdc, hdp, hsz, q⟩ := h
  cases r with
  | cons r1 r2 =>
    cases r2
    cases r1
    obtain ⟨as, rd⟩ := Dp.reads I d (.ref a) (.ref a) hd rfl
    refine repr_of_reads' rd hs (fun z => by rw [hdc] at z; cases z) hq (by omega) (fun _ _ z => z) (fun h' u tk hk => ?_) hsz
    exact ⟨.str d.shown, H, I.kept hk, ⟨u, rfl⟩, q⟩
/-- powers of any size below 2 ^ 27 bits -/
def CPowW (i j : Int) : Prop := 0 ≤ j ∧ (Builtin.Int.intBits i : Int) * j ≤ 2 ^ 27
theorem op_powW : OpR X (binaryOp .Pow) (rI CPowW fun i j => .int (i ^ j.toNat)) := opI fun _ _ _ _ _ _ _ hc q => pow_int hc.1 hc.2 q
end

/-! ### the end -/
theorem law_goes {P : Program} {w : World} {K : PySem.W.Frag} {mg mb : Str → Option Value} {k : Nat} {fa a : Addr} {fd : FuncData} {x : Str} {sp : Sp} {s1 : Shared} {vs : List Value} {ns : List Int}
    (KX : K.In s1.heap) (hns : s1.heap.Ns mainGlobals mg) (hb : s1.heap.Ns builtinsNs mb) (hbb : ∀ x : Str, x ≠ "__name__" → mb x = bootBuiltins x) (hlim : s1.heap.NoLimit) (hg : s1.gens = #[])
    (ha : s1.heap.get? a = some { cls := .type "list", data := .seq vs.toArray }) (hi : IntsAre vs ns) (hl : ns.length ≤ sizeLine) (hr : Room k callerA)
    (F : ∀ base : Heap, K.In base → base.Ns mainGlobals mg → FnQ P w K mg base k fa fd [x] sp) (hbind : ∀ (s : Shared) (u : Value), BindsTo s fd ⟨[u], []⟩ [(x, u)])
    (hsp : ∀ H : Hp, SqL K H a (ns.map V.int) → sp [.ref a] H (fun v _ => v = .bl true) E0) :
    codeAny (model P w) callerA (.call (.ref fa) ⟨[.ref a], []⟩) (fun r s' => r = .ok (.ret (.bool true)) ∧ OldK s1.heap s'.heap ∧ s'.os = s1.os ∧ AllBare s'.gens) s1 := by
  have rv := vals_ints hi
  -- from any abstract heap that tracks nothing, or the script alone, as a known object
  have from_ : ∀ H : Hp, SqL K H a (ns.map V.int) → HOk P w H s1.heap → (∀ b u, H b = some u → b = a ∧ K.lookup a = none ∧ u = .frz { cls := .type "list", data := .seq vs.toArray } (.lst (ns.map V.int))) →
      codeAny (model P w) callerA (.call (.ref fa) ⟨[.ref a], []⟩) (fun r s' => r = .ok (.ret (.bool true)) ∧ OldK s1.heap s'.heap ∧ s'.os = s1.os ∧ AllBare s'.gens) s1 := by
    intro H hS hok hT
    -- what is a dict, or of the written part, is not tracked
    have free1 : ∀ {b : Addr} {o : Obj}, s1.heap.get? b = some o → (∃ es ep, o.data = .dict es ep) → H b = none := by
      intro b o e hd
      cases q : H b with
      | none => rfl
      | some u =>
        obtain ⟨es, ep, hd⟩ := hd
        obtain ⟨rfl, -, -⟩ := hT b u q
        rw [ha] at e
        cases e
        cases hd
    have free2 : ∀ {b : Addr} {o : Obj}, K.lookup b = some o → H b = none := by
      intro b o e
      cases q : H b with
      | none => rfl
      | some u =>
        obtain ⟨rfl, z, -⟩ := hT b u q
        rw [z] at e
        cases e
    have ns2 : ∀ {b : Addr} {m : Str → Option Value}, s1.heap.Ns b m → (hidT s1.heap H).Ns b m := by
      rintro b m ⟨o, es, ep, e, d, r⟩
      exact ⟨o, es, ep, hidT_get e (free1 e ⟨es, ep, d⟩), d, r⟩
    have kb : K.In (hidT s1.heap H) := fun b o e => hidT_get (KX b o e) (free2 e)
    have md : Mod K mg (hidT s1.heap H) := by
      obtain ⟨mc, l1, l2⟩ := hlim
      exact ⟨kb, ns2 hns, ⟨mb, ns2 hb, hbb⟩, ⟨mc, ns2 l1, l2⟩⟩
    have en : Env0 P w K mg (hidT s1.heap H) callerA [] s1 H :=
      { frames := rfl, mod := md, bs := fun b o e => of_hidT e, bsz := Nat.le_of_eq (hidT_size _ _), funs := trivial, frf := (fun b hb => nomatch hb), hok := hok, bare := AllBare.of_eq hg }
    have run := (F _ kb (ns2 hns)).goes callerA [] s1 H ⟨[.ref a], []⟩ [.ref a] [.ref a] _ E0 quiet_caller hr en (hbind s1 (.ref a)) (.cons rfl .nil) (hsp H hS)
    refine codeAny_mono run fun r s2 h => ?_
    cases r with
    | error e => exact False.elim h
    | ok fl =>
      cases fl with
      | next => exact False.elim h
      | brk => exact False.elim h
      | cont => exact False.elim h
      | ret u =>
        obtain ⟨v, H2, os, bare, un, hok2, r2, rfl⟩ := h
        cases r2
        refine ⟨rfl, OldK.of_keep fun b o e => ?_, os, bare⟩
        cases q : H b with
        | none => exact un.keep b o e q (fun z => nomatch z) (fun z => nomatch z)
        | some u =>
          obtain ⟨rfl, -, rfl⟩ := hT b u q
          have k1 := (hok b _ q).1
          have k2 := (hok2 b _ (un.frzs b _ _ q)).1
          rw [e] at k1
          rw [k2, k1]
  cases hk : K.lookup a with
  | some o =>
    have e := KX a o hk
    rw [ha] at e
    cases e
    refine from_ (fun _ => none) (Or.inr ⟨_, vs.toArray, _, hk, rfl, rfl, rfl, ?_, ?_⟩) (fun b u z => nomatch z) (fun b u z => nomatch z)
    · rw [List.size_toArray, hi.length]
      exact hl
    · simpa using rv
  | none =>
    have h0 : upd (fun _ => none) a (.frz { cls := .type "list", data := .seq vs.toArray } (.lst (ns.map V.int))) a = some (.frz { cls := .type "list", data := .seq vs.toArray } (.lst (ns.map V.int))) := upd_same
    have one : ∀ b u, upd (fun _ => none) a (.frz { cls := .type "list", data := .seq vs.toArray } (.lst (ns.map V.int))) b = some u → b = a ∧ K.lookup a = none ∧ u = .frz { cls := .type "list", data := .seq vs.toArray } (.lst (ns.map V.int)) := by
      intro b u z
      by_cases hb : b = a
      · subst hb
        rw [h0] at z
        exact ⟨rfl, hk, (Option.some.inj z).symm⟩
      · rw [upd_ne hb] at z
        cases z
    refine from_ _ (Or.inl (Or.inr ⟨_, h0⟩)) (fun b u z => ?_) one
    obtain ⟨rfl, -, rfl⟩ := one b u z
    refine ⟨ha, ?_, vs, _, rv, ha⟩
    rw [List.length_map]
    exact hl
/-- the goal that k_head leaves (case hc) -/
theorem law_walks {l : PySem.W.OpenLaw} {n k : Nat} {q : Program} {loose : List Str} {XP : (Str → Option Value) → Heap → Prop} {YP : World → Heap → Prop} {d : DefRec} {K : Params → PySem.W.Frag} {sp : PySem.W.Frag → Sp} {x : Str}
    (hn : l.most = some n) (hn2 : n ≤ sizeLine) (hdf : d.params.defaults = []) (hr : Room k callerA)
    (hY : ∀ (w : World) (h : Heap), YP w h → (K w.params).In h)
    (F : ∀ (w : World) (mg : Str → Option Value) (fa : Addr) (h : Heap), (K w.params).In h → h.Ns mainGlobals mg → mg d.name = some (.ref fa) →
      ∃ fd : FuncData, (∀ (s : Shared) (u : Value), BindsTo s fd ⟨[u], []⟩ [(x, u)]) ∧
        ∀ base : Heap, (K w.params).In base → base.Ns mainGlobals mg → FnQ l.prog w (K w.params) mg base k fa fd [x] (sp (K w.params)))
    (hsp : ∀ (K : PySem.W.Frag) (H : Hp) (a : Addr) (ns : List Int), ns.length ≤ n → SqL K H a (ns.map V.int) → sp K [.ref a] H (fun v _ => v = .bl true) E0) :
    PySem.W.WalkO q loose XP YP l.row.toRowW d [] (fun f vs => PySem.call f vs) := by
  refine Att.attach_call hn hdf ?_
  intro w s0 s1 mg mb fa o pm cd doc a vs ns G Y ho hd hcd hmg hobj hints hlen hg
  have KX := hY w _ Y
  obtain ⟨fd, hb, hF⟩ := F w mg fa _ KX G.T.g hmg
  exact law_goes KX G.T.g G.T.b G.T.builtins G.T.nolimit hg hobj hints (Nat.le_trans hlen hn2) hr hF hb (fun H hS => hsp (K w.params) H a ns hlen hS)
end Lay
namespace Lay
open PySem PySem.Spec PyProof.Rows L2

/-! ### a def of the text that callers may use -/
structure DefAt (K : PySem.W.Frag) (mg : Str → Option Value) (x : Str) (st : Stmt) (ps : List Str) : Prop where
  ex : ∃ (f : Addr) (fd : FuncData), Fun K x x st f fd ∧ mg x = some (.ref f) ∧ Binds K fd ps []
structure Cal (P : Program) (w : World) (K : PySem.W.Frag) (mg : Str → Option Value) (base : Heap) (x : Str) (k : Nat) (ps : List Str) (sp : Sp) : Prop where
  ex : ∃ (f : Addr) (fd : FuncData), FnQ P w K mg base k f fd ps sp ∧ mg x = some (.ref f) ∧ PySem.W.keepIn K (.ref f) = true ∧ Binds K fd ps []
theorem Cal.lift {P : Program} {w : World} {K : PySem.W.Frag} {mg : Str → Option Value} {base : Heap} {x : Str} {j k : Nat} {ps : List Str} {sp : Sp} (c : Cal P w K mg base x j ps sp) (h : j ≤ k) : Cal P w K mg base x k ps sp := by
  obtain ⟨f, fd, F, m, kp, b⟩ := c.ex
  exact ⟨f, fd, ⟨F.many, fun A o s H ar us vs Q E hq hr he hb hv hs => F.goes A o s H ar us vs Q E hq (hr.mono h) he hb hv hs⟩, m, kp, b⟩
section
variable {P : Program} {w : World} {K : PySem.W.Frag} {mg : Str → Option Value} {base : Heap}
theorem cal_of {x : Str} {st : Stmt} {N ps : List Str} {k : Nat} {sp : Sp} (D : DefAt K mg x st ps) (S : FnScope N ps (defScope st))
    (many : ∀ vs H Q E, sp vs H Q E → vs.length = ps.length)
    (body : ∀ (f : Addr) (cdv : Value) (A : Around) (outer : List Env) (s : Shared) (H : Hp) (vs : List V) (Q : VK) (E : XK), Quiet A → Room k (A.deeper (envOfC x (defScope st) s.heap.objs.size f cdv)) → sp vs H Q E →
      ∃ t, PSs (cxOf CX0 P w K mg base N x (defScope st) f cdv A outer s H E).nox (defBody st) t ∧ t { nx := fun _ H' => Q .non H', rt := Q } (start N vs) H) :
    Cal P w K mg base x (k + 1) ps sp := by
  obtain ⟨f, fd, F, m, b⟩ := D.ex
  exact ⟨f, fd, quiet_def F S many (body f), m, F.kp, b⟩
theorem Cal.fn {x : Str} {k : Nat} {ps : List Str} {sp : Sp} (c : Cal P w K mg base x k ps sp) {fa : Addr} (h : mg x = some (.ref fa)) : ∃ fd, FnQ P w K mg base k fa fd ps sp := by
  obtain ⟨f, fd, F, m, -, -⟩ := c.ex
  rw [m] at h
  cases h
  exact ⟨fd, F⟩
end
section
variable {X : Cx} {k : Nat} {ps : List Str} {sp : Sp} {x : Str} {p pos : Pos} {e : Expr} {es : List Expr} {t : TA}
theorem qc (c : Cal X.prog X.w X.K X.mg X.base x k ps sp) (hq : Quiet X.A) (hr : Room k X.A) (hg : Gl X x)
    (ha : PA X (e :: es) t) (hdb : (x == ("__debug__" : Str)) = false := by decide) (he : starEach (e :: es) X.env = (false, eval e X.env) :: starEach es X.env := by rfl) (hpl : (backTo pos (starEach es X.env)).any (·.1) = false := by rfl) :
    PE X (.Call (.Name x p) (e :: es) [] pos) (tCl sp t) := by
  obtain ⟨f, fd, F, m, kp, b⟩ := c.ex
  exact qcall F hq hr hg m kp b ha hdb he hpl
theorem qc0 (c : Cal X.prog X.w X.K X.mg X.base x k ps sp) (hq : Quiet X.A) (hr : Room k X.A) (hg : Gl X x)
    (hdb : (x == ("__debug__" : Str)) = false := by decide) : PE X (.Call (.Name x p) [] [] pos) (tCl sp tNil) := by
  obtain ⟨f, fd, F, m, kp, b⟩ := c.ex
  exact qcall0 F hq hr hg m kp b hdb
end

/-! ### reading, step by step -/
section
variable {σ : L2.St} {H : Hp} {Q : VK} {ta tb tc te tv : TE} {D : Ends} {v x y : V} {K : PySem.W.Frag}
theorem rd_var {i : Nat} (h : σ[i]? = some (some v)) (q : Q v H) : tVar i σ H Q := ⟨v, h, q⟩
theorem rd_c (q : Q v H) : tC v σ H Q := q
theorem rd_op {r : R2} (q : ta σ H (fun x H1 => tb σ H1 fun y H2 => r x y H2 Q)) : tOp r ta tb σ H Q := q
theorem rd_un {r : V → Hp → VK → Prop} (q : ta σ H (fun x H1 => r x H1 Q)) : tUn r ta σ H Q := q
theorem rd_CB {r : List V → Hp → VK → Prop} {t : TA} (q : t σ H (fun vs H1 => r vs H1 Q)) : tCB r t σ H Q := q
theorem rd_Cl {sp : Sp} {t : TA} (q : t σ H (fun vs H1 => sp vs H1 Q E0)) : tCl sp t σ H Q := q
theorem rd_nil {R : List V → Hp → Prop} (q : R [] H) : tNil σ H R := q
theorem rd_cons {t : TA} {R : List V → Hp → Prop} (q : te σ H (fun x H1 => t σ H1 fun xs H2 => R (x :: xs) H2)) : tCons te t σ H R := q
theorem rd_seq {t u : TS} (q : t { D with nx := u D } σ H) : tSeq t u D σ H := q
theorem rd_next (q : D.nx σ H) : tNext D σ H := q
theorem rd_asg {g : TG} (q : te σ H (fun x H1 => g x σ H1 D.nx)) : tAsg te g D σ H := q
theorem rd_name {i : Nat} {R : L2.St → Hp → Prop} (q : R (σ.set i (some v)) H) : gName i v σ H R := q
theorem rd_ret (q : te σ H D.rt) : tRet te D σ H := q
theorem rd_drop (q : te σ H (fun _ H1 => D.nx σ H1)) : tDrop te D σ H := q
theorem rd_ifS {c : TT} {t u : TS} (q : c σ H (fun b H1 => if b = true then t D σ H1 else u D σ H1)) : tIfS c t u D σ H := q
theorem rd_test {R : Bool → Hp → Prop} (q : te σ H (fun x H' => ∃ k, x = .bl k ∧ R k H')) : tTest te σ H R := q
theorem rd_B {R : Bool → Hp → Prop} (q : te σ H (fun x H' => ∃ k, x = .bl k ∧ R k H')) : tB te σ H R := q
theorem rd_bl {b : Bool} {R : Bool → Prop} (q : R b) : ∃ k, V.bl b = V.bl k ∧ R k := ⟨b, rfl, q⟩
theorem rd_not {t : TT} {R : Bool → Hp → Prop} (q : t σ H (fun c H1 => R (!c) H1)) : tNot t σ H R := q
theorem rd_and {t u : TT} {R : Bool → Hp → Prop} (q : t σ H (fun c H1 => if c = true then u σ H1 R else R false H1)) : tAnd t u σ H R := q
theorem rd_or {t u : TT} {R : Bool → Hp → Prop} (q : t σ H (fun c H1 => if c = true then R true H1 else u σ H1 R)) : tOr t u σ H R := q
theorem rd_andV (q : ta σ H (fun x H1 => ∃ c, x = .bl c ∧ if c = true then tb σ H1 Q else Q (.bl false) H1)) : tAndV ta tb σ H Q := q
theorem rd_orV (q : ta σ H (fun x H1 => ∃ c, x = .bl c ∧ if c = true then Q (.bl true) H1 else tb σ H1 Q)) : tOrV ta tb σ H Q := q
theorem rd_notV (q : ta σ H (fun x H1 => ∃ c, x = .bl c ∧ Q (.bl (!c)) H1)) : tNotV ta σ H Q := q
theorem rd_ifE {t : TT} (q : t σ H (fun c H1 => if c = true then ta σ H1 Q else tb σ H1 Q)) : tIf t ta tb σ H Q := q
theorem rd_chain {r r' : R2} (q : ta σ H (fun x H1 => tb σ H1 fun y H2 => r x y H2 fun z H3 => ∃ k, z = .bl k ∧ (if k = true then tc σ H3 fun w' H4 => r' y w' H4 Q else Q (.bl false) H3))) : tChain r r' ta tb tc σ H Q := q
theorem rd_tup {t : TA} (q : t σ H (fun xs H1 => xs.length ≤ sizeLine ∧ ∀ p, H1 p = none → Q (.ref p) (upd H1 p (.tup xs)))) : tTup t σ H Q := q
theorem rd_lst {t : TA} (q : t σ H (fun xs H1 => xs.length ≤ sizeLine ∧ ∀ p, H1 p = none → Q (.ref p) (upd H1 p (.lst xs)))) : tLst t σ H Q := q
theorem rd_new {n : Nat} {R : Addr → Prop} (hn : n ≤ 1000) (q : ∀ p, H p = none → R p) : n ≤ sizeLine ∧ ∀ p, H p = none → R p := ⟨Nat.le_trans hn (by decide), q⟩
/-- the ifs -/
theorem rd_ite {p : Prop} [Decidable p] {A B : Prop} (h1 : p → A) (h2 : ¬ p → B) : if decide p = true then A else B := by
  by_cases h : p
  · rw [decide_eq_true h]
    exact iteT (h1 h)
  · rw [decide_eq_false h]
    exact iteF (h2 h)
theorem rd_iteN {p : Prop} [Decidable p] {A B : Prop} (h1 : ¬ p → A) (h2 : p → B) : if (!decide p) = true then A else B := by
  by_cases h : p
  · rw [decide_eq_true h]
    exact iteF (h2 h)
  · rw [decide_eq_false h]
    exact iteT (h1 h)
theorem rd_ifb {b : Bool} {A B : Prop} (h1 : b = true → A) (h2 : b = false → B) : if b = true then A else B := by
  cases b with
  | true => exact iteT (h1 rfl)
  | false => exact iteF (h2 rfl)
/-- ints -/
theorem rd_add {i j : Int} (q : Q (.int (i + j)) H) : rI0 (fun i j => .int (i + j)) (.int i) (.int j) H Q := ⟨i, j, rfl, rfl, q⟩
theorem rd_sub {i j : Int} (q : Q (.int (i - j)) H) : rI0 (fun i j => .int (i - j)) (.int i) (.int j) H Q := ⟨i, j, rfl, rfl, q⟩
theorem rd_lt {i j : Int} (q : Q (.bl (decide (i < j))) H) : rI0 (fun i j => .bl (decide (i < j))) (.int i) (.int j) H Q := ⟨i, j, rfl, rfl, q⟩
theorem rd_le {i j : Int} (q : Q (.bl (decide (i ≤ j))) H) : rI0 (fun i j => .bl (decide (i ≤ j))) (.int i) (.int j) H Q := ⟨i, j, rfl, rfl, q⟩
theorem rd_gt {i j : Int} (q : Q (.bl (decide (j < i))) H) : rI0 (fun i j => .bl (decide (j < i))) (.int i) (.int j) H Q := ⟨i, j, rfl, rfl, q⟩
theorem rd_ge {i j : Int} (q : Q (.bl (decide (j ≤ i))) H) : rI0 (fun i j => .bl (decide (j ≤ i))) (.int i) (.int j) H Q := ⟨i, j, rfl, rfl, q⟩
theorem rd_neg {i : Int} (q : Q (.int (-i)) H) : rU (fun i => .int (-i)) (.int i) H Q := ⟨i, rfl, q⟩
theorem rd_mul {i j : Int} (h : CMul i j) (q : Q (.int (i * j)) H) : rI CMul (fun i j => .int (i * j)) (.int i) (.int j) H Q := ⟨i, j, rfl, rfl, h, q⟩
theorem rd_mulW {i j : Int} (h : CMulW i j) (q : Q (.int (i * j)) H) : rI CMulW (fun i j => .int (i * j)) (.int i) (.int j) H Q := ⟨i, j, rfl, rfl, h, q⟩
theorem rd_pow {i j : Int} (h : CPow i j) (q : Q (.int (i ^ j.toNat)) H) : rI CPow (fun i j => .int (i ^ j.toNat)) (.int i) (.int j) H Q := ⟨i, j, rfl, rfl, h, q⟩
theorem rd_powW {i j : Int} (h : CPowW i j) (q : Q (.int (i ^ j.toNat)) H) : rI CPowW (fun i j => .int (i ^ j.toNat)) (.int i) (.int j) H Q := ⟨i, j, rfl, rfl, h, q⟩
theorem rd_mod {i j : Int} (h : 0 < j) (q : Q (.int (i % j)) H) : rI (fun _ j => 0 < j) (fun i j => .int (i % j)) (.int i) (.int j) H Q := ⟨i, j, rfl, rfl, h, q⟩
theorem rd_fdivW {i j : Int} (h : CDivW i j) (q : Q (.int (i / j)) H) : rI CDivW (fun i j => .int (i / j)) (.int i) (.int j) H Q := ⟨i, j, rfl, rfl, h, q⟩
theorem rd_eq (h : scal x y = true) (q : Q (.bl (decide (x = y))) H) : rEq x y H Q := ⟨h, q⟩
theorem rd_ne (h : scal x y = true) (q : Q (.bl (!decide (x = y))) H) : rNe x y H Q := ⟨h, q⟩
theorem int_eq {i j : Int} : decide (V.int i = V.int j) = decide (i = j) := by
  by_cases h : i = j
  · subst h
    rw [decide_eq_true rfl, decide_eq_true rfl]
  · rw [decide_eq_false h, decide_eq_false (fun z => h (V.int.inj z))]
theorem rd_eqI {i j : Int} (q : Q (.bl (decide (i = j))) H) : rEq (.int i) (.int j) H Q := ⟨rfl, by rw [int_eq]; exact q⟩
theorem rd_neI {i j : Int} (q : Q (.bl (!decide (i = j))) H) : rNe (.int i) (.int j) H Q := ⟨rfl, by rw [int_eq]; exact q⟩
theorem rd_ixL {p : Addr} {xs : List V} {i : Int} (h : SqL K H p xs) (ha : atI xs i = some v) (q : Q v H) : rIxL K (.ref p) (.int i) H Q := ⟨p, xs, i, v, rfl, rfl, h, ha, q⟩
theorem rd_ixT {p : Addr} {xs : List V} {i : Int} (h : SqT K H p xs) (ha : atI xs i = some v) (q : Q v H) : rIxT K (.ref p) (.int i) H Q := ⟨p, xs, i, v, rfl, rfl, h, ha, q⟩
end

/-! ### relations by name -/
def rInt : List V → Hp → VK → Prop := fun xs H Q => (∃ i, xs = [.int i] ∧ Q (.int i) H) ∨ ∃ k, xs = [.bl k] ∧ Q (.int (if k then 1 else 0)) H
def rAbs : List V → Hp → VK → Prop := fun xs H Q => ∃ i, xs = [.int i] ∧ Q (.int (if i < 0 then -i else i)) H
def rMx2 : List V → Hp → VK → Prop := fun xs H Q => ∃ i j, xs = [.int i, .int j] ∧ Q (.int (if j > i then j else i)) H
def rMn2 : List V → Hp → VK → Prop := fun xs H Q => ∃ i j, xs = [.int i, .int j] ∧ Q (.int (if j < i then j else i)) H
def rLenQ (K : PySem.W.Frag) : List V → Hp → VK → Prop := fun xs H Q => ∃ p ys, xs = [.ref p] ∧ (SqL K H p ys ∨ SqT K H p ys) ∧ Q (.int ys.length) H
def rLenZ : List V → Hp → VK → Prop := fun xs H Q => ∃ z, xs = [.str z] ∧ z.length ≤ sizeLine ∧ Q (.int z.length) H
def rLenA (K : PySem.W.Frag) : List V → Hp → VK → Prop := fun xs H Q => rLenQ K xs H Q ∨ rLenZ xs H Q
def rTupOf (K : PySem.W.Frag) : List V → Hp → VK → Prop := fun xs H Q => ∃ p ys, xs = [.ref p] ∧ ((SqL K H p ys ∧ ∀ l, H l = none → Q (.ref l) (upd H l (.tup ys))) ∨ (SqT K H p ys ∧ Q (.ref p) H))
def rLstOf (K : PySem.W.Frag) : List V → Hp → VK → Prop := fun xs H Q => ∃ p ys, xs = [.ref p] ∧ (SqL K H p ys ∨ SqT K H p ys) ∧ ∀ l, H l = none → Q (.ref l) (upd H l (.lst ys))
def rLtZ : R2 := fun x y H Q => ∃ i j, x = .str i ∧ y = .str j ∧ Q (.bl (decide (i.cps.toList < j.cps.toList))) H
def rLeZ : R2 := fun x y H Q => ∃ i j, x = .str i ∧ y = .str j ∧ Q (.bl (!decide (j.cps.toList < i.cps.toList))) H
def rGtZ : R2 := fun x y H Q => ∃ i j, x = .str i ∧ y = .str j ∧ Q (.bl (decide (j.cps.toList < i.cps.toList))) H
def rGeZ : R2 := fun x y H Q => ∃ i j, x = .str i ∧ y = .str j ∧ Q (.bl (!decide (i.cps.toList < j.cps.toList))) H
def rCatZ : R2 := fun x y H Q => ∃ i j, x = .str i ∧ y = .str j ∧ i.length + j.length ≤ sizeLine ∧ Q (.str (i ++ j)) H
section
variable {X : Cx}
theorem q_int : CallR X (.type "int") rInt := call_int1
theorem q_abs : CallR X (.builtin "abs") rAbs := call_abs
theorem q_max2 (hc : X.calm = true) : CallR X (.builtin "max") rMx2 := call_max2 hc
theorem q_min2 (hc : X.calm = true) : CallR X (.builtin "min") rMn2 := call_min2 hc
theorem q_lenQ : CallR X (.builtin "len") (rLenQ X.K) := call_len_seq
theorem q_lenZ : CallR X (.builtin "len") rLenZ := call_len_str
theorem q_lenA : CallR X (.builtin "len") (rLenA X.K) := CallR.or q_lenQ q_lenZ
theorem q_tupOf : CallR X (.type "tuple") (rTupOf X.K) := call_tuple_of
theorem q_lstOf : CallR X (.type "list") (rLstOf X.K) := call_list_of
theorem q_ltZ : OpR X (compareOp .Lt) rLtZ := op_lt_str
theorem q_leZ : OpR X (compareOp .LtE) rLeZ := op_le_str
theorem q_gtZ : OpR X (compareOp .Gt) rGtZ := op_gt_str
theorem q_geZ : OpR X (compareOp .GtE) rGeZ := op_ge_str
theorem q_catZ : OpR X (binaryOp .Add) rCatZ := op_add_str
end
section
variable {H : Hp} {Q : VK} {K : PySem.W.Frag}
theorem rd_int1 {i : Int} (q : Q (.int i) H) : rInt [V.int i] H Q := Or.inl ⟨i, rfl, q⟩
theorem rd_int1b {b : Bool} (q : Q (.int (if b then 1 else 0)) H) : rInt [V.bl b] H Q := Or.inr ⟨b, rfl, q⟩
theorem rd_abs {i : Int} (q : Q (.int (if i < 0 then -i else i)) H) : rAbs [V.int i] H Q := ⟨i, rfl, q⟩
theorem rd_max2 {i j : Int} (q : Q (.int (if j > i then j else i)) H) : rMx2 [V.int i, V.int j] H Q := ⟨i, j, rfl, q⟩
theorem rd_min2 {i j : Int} (q : Q (.int (if j < i then j else i)) H) : rMn2 [V.int i, V.int j] H Q := ⟨i, j, rfl, q⟩
theorem rd_lenL {p : Addr} {ys : List V} (h : SqL K H p ys) (q : Q (.int ys.length) H) : rLenQ K [V.ref p] H Q := ⟨p, ys, rfl, Or.inl h, q⟩
theorem rd_lenT {p : Addr} {ys : List V} (h : SqT K H p ys) (q : Q (.int ys.length) H) : rLenQ K [V.ref p] H Q := ⟨p, ys, rfl, Or.inr h, q⟩
theorem rd_lenS {z : Str} (h : z.length ≤ sizeLine) (q : Q (.int z.length) H) : rLenZ [V.str z] H Q := ⟨z, rfl, h, q⟩
theorem rd_ltZ {i j : Str} (q : Q (.bl (decide (i.cps.toList < j.cps.toList))) H) : rLtZ (.str i) (.str j) H Q := ⟨i, j, rfl, rfl, q⟩
theorem rd_leZ {i j : Str} (q : Q (.bl (!decide (j.cps.toList < i.cps.toList))) H) : rLeZ (.str i) (.str j) H Q := ⟨i, j, rfl, rfl, q⟩
theorem rd_gtZ {i j : Str} (q : Q (.bl (decide (j.cps.toList < i.cps.toList))) H) : rGtZ (.str i) (.str j) H Q := ⟨i, j, rfl, rfl, q⟩
theorem rd_geZ {i j : Str} (q : Q (.bl (!decide (i.cps.toList < j.cps.toList))) H) : rGeZ (.str i) (.str j) H Q := ⟨i, j, rfl, rfl, q⟩
theorem rd_catZ {i j : Str} (h : i.length + j.length ≤ sizeLine) (q : Q (.str (i ++ j)) H) : rCatZ (.str i) (.str j) H Q := ⟨i, j, rfl, rfl, h, q⟩
end
/-! ### heaps -/
theorem up_old {H : Hp} {a p : Addr} {o u : HO} (hp : H p = none) (h : H a = some o) : upd H p u a = some o := by
  rw [upd_ne (ne_of_none h hp)]
  exact h
theorem up_oth {H : Hp} {a b : Addr} {o u : HO} (hne : b ≠ a) (h : H b = some o) : upd H a u b = some o := by
  rw [upd_ne hne]
  exact h
theorem sq_old {K : PySem.W.Frag} {H : Hp} {a p : Addr} {u : HO} {xs : List V} (hp : H p = none) (h : SqL K H a xs) : SqL K (upd H p u) a xs := by
  rcases h with (h | ⟨o, h⟩) | h
  · exact Or.inl (Or.inl (up_old hp h))
  · exact Or.inl (Or.inr ⟨o, up_old hp h⟩)
  · exact Or.inr h
theorem at_z {α : Type} {xs : List α} {z : Int} {v : α} (h0 : 0 ≤ z) (h : xs[z.toNat]? = some v) : atI xs z = some v := by
  have e : z = ((z.toNat : Nat) : Int) := by omega
  rw [e]
  exact atI_nat h

/-! ### the bag -/
/-- a bag stands at a -/
def BagAt (H : Hp) (a : Addr) : Prop := ∃ g m c : Int, H a = some (.lst [.int g, .int m, .int c]) ∧ 0 ≤ g ∧ 0 ≤ m ∧ 0 ≤ c
/-- all but what stands at a is as it was -/
def But (a : Addr) (H H' : Hp) : Prop := ∀ b o, b ≠ a → H b = some o → H' b = some o
theorem But.refl (a : Addr) (H : Hp) : But a H H := fun _ _ _ h => h
theorem But.trans {a : Addr} {H H1 H2 : Hp} (x : But a H H1) (y : But a H1 H2) : But a H H2 := fun b o n h => y b o n (x b o n h)
theorem But.new {a p : Addr} {H : Hp} {u : HO} (hp : H p = none) : But a H (upd H p u) := fun _ _ _ h => up_old hp h
theorem But.upd {a : Addr} {H : Hp} {u : HO} : But a H (upd H a u) := fun _ _ n h => up_oth n h
theorem But.sq {K : PySem.W.Frag} {a b : Addr} {H H' : Hp} {xs : List V} (x : But a H H') (n : b ≠ a) (h : SqL K H b xs) : SqL K H' b xs := by
  rcases h with (h | ⟨o, h⟩) | h
  · exact Or.inl (Or.inl (x _ _ n h))
  · exact Or.inl (Or.inr ⟨o, x _ _ n h⟩)
  · exact Or.inr h
theorem BagAt.old {H : Hp} {a p : Addr} {u : HO} (hp : H p = none) (h : BagAt H a) : BagAt (upd H p u) a := by
  obtain ⟨g, m, c, e, r⟩ := h
  exact ⟨g, m, c, up_old hp e, r⟩
def spBag (K : PySem.W.Frag) : Sp := fun vs H Q _ => ∃ (a : Addr) (ns : List Int) (i : Nat), vs = [.ref a, .int (i : Int)] ∧ SqL K H a (ns.map V.int) ∧
  ∀ p H', H p = none → Same H H' → BagAt H' p → Q (.ref p) H'
def spDraw : Sp := fun vs H Q _ => ∃ (a : Addr) (n : Int), vs = [.ref a, .int n] ∧ BagAt H a ∧ 1 ≤ n ∧ n < 1000000 ∧
  ∀ (k : Int) (H' : Hp), 0 ≤ k → k < n → But a H H' → BagAt H' a → Q (.int k) H'
end Lay
namespace Lay
open PySem PySem.Spec PyProof.Rows L2
/-- one of the items of a list, or one sign of a text -/
def spOne (K : PySem.W.Frag) : Sp := fun vs H Q _ => ∃ (a : Addr) (it : V), vs = [.ref a, it] ∧ BagAt H a ∧
  ((∃ l xs, it = .ref l ∧ l ≠ a ∧ SqL K H l xs ∧ 0 < xs.length ∧ xs.length ≤ 1000 ∧ ∀ v H', v ∈ xs → But a H H' → BagAt H' a → Q v H') ∨
   (∃ z, it = .str z ∧ 0 < z.length ∧ z.length ≤ 1000 ∧ ∀ c H', c ∈ z.cps.toList → But a H H' → BagAt H' a → Q (.str ⟨#[c]⟩) H'))
/-- which built-in names the text leaves as they are -/
def Bare (mg : Str → Option Value) (x : Str) : Prop := mg x = none
end Lay
namespace Lay
open PySem PySem.Spec PyProof.Rows L2
theorem at_nat {α : Type} {xs : List α} {j : Nat} {v : α} (h : xs[j]? = some v) : atI xs (j : Int) = some v := atI_nat h
end Lay
namespace Lay
open PySem PySem.Spec PyProof.Rows L2
theorem rd_at {t : TS} {D : Ends} {σ : L2.St} {H : Hp} (σ2 : L2.St) (e : σ = σ2) (q : t D σ2 H) : t D σ H := by
  rw [e]
  exact q
end Lay
namespace Lay
open PySem PySem.Spec PyProof.Rows L2
theorem rd_gsub {to ti : TE} {t : TSet} {v : V} {σ : L2.St} {H : Hp} {R : L2.St → Hp → Prop} (q : to σ H (fun o H1 => ti σ H1 fun i H2 => t o i v H2 fun H3 => R σ H3)) : gSub to ti t v σ H R := q
theorem rd_setL {p : Addr} {xs ys : List V} {k : Int} {j : Nat} {v : V} {H : Hp} {R : Hp → Prop} (h : H p = some (.lst xs)) (hk : ixN xs.length k = some j) (e : xs.set j v = ys) (q : R (upd H p (.lst ys))) : rSetL (.ref p) (.int k) v H R := by
  subst e
  exact ⟨p, xs, k, j, rfl, rfl, h, hk, q⟩
theorem mul_lit {i j : Int} (h : -(2 ^ 64) < i ∧ i < 2 ^ 64) : CMul i j := Or.inl h
theorem mul_rit {i j : Int} (h : -(2 ^ 64) < j ∧ j < 2 ^ 64) : CMul i j := Or.inr h
end Lay
namespace Lay
open PySem PySem.Spec PyProof.Rows L2
section
variable {te ta tb : TE} {σ : L2.St} {H : Hp} {Q : VK} {D : Ends} {K : PySem.W.Frag}
/-- what is read up to here is told by P, whatever follows -/
theorem rd_with (P : V → Hp → Prop) (k : ∀ Q' : VK, (∀ v H1, P v H1 → Q' v H1) → te σ H Q') (r : ∀ v H1, P v H1 → Q v H1) : te σ H Q := k Q r
/-- a statement's end told by P; it may leave by returns that rt tells -/
theorem rd_withS {t : TS} (P : L2.St → Hp → Prop) (k : ∀ D' : Ends, (∀ σ1 H1, P σ1 H1 → D'.nx σ1 H1) → (∀ v H1, D.rt v H1 → D'.rt v H1) → t D' σ H) (r : ∀ σ1 H1, P σ1 H1 → D.nx σ1 H1) : t D σ H := k D r (fun _ _ h => h)
theorem rd_sl {r : V → Option Int → Option Int → Hp → VK → Prop} {tl th : TO} (q : te σ H (fun x H1 => tl σ H1 fun l H2 => th σ H2 fun u H3 => r x l u H3 Q)) : tSl r te tl th σ H Q := q
theorem rd_noP {R : Option Int → Hp → Prop} (q : R none H) : tNoPart σ H R := q
theorem rd_part {R : Option Int → Hp → Prop} (q : te σ H (fun x H1 => ∃ i, x = .int i ∧ R (some i) H1)) : tPart te σ H R := q
theorem rd_i {i : Int} {R : Int → Prop} (q : R i) : ∃ j, V.int i = V.int j ∧ R j := ⟨i, rfl, q⟩
theorem rd_slL {a : Addr} {xs : List V} {lo hi : Option Int} (h : SqL K H a xs) (q : ∀ p, H p = none → Q (.ref p) (upd H p (.lst (cutV xs lo hi)))) : rSlL K (.ref a) lo hi H Q := ⟨a, xs, rfl, h, q⟩
theorem rd_sum {a : Addr} {ns : List Int} (h : SqL K H a (ns.map V.int)) (q : Q (.int ns.sum) H) : rSum K [V.ref a] H Q := ⟨a, ns, rfl, h, q⟩
theorem rd_all {a : Addr} {bs : List Bool} (h : SqL K H a (bs.map V.bl)) (q : Q (.bl (bs.all id)) H) : rAll K [V.ref a] H Q := ⟨a, bs, rfl, h, q⟩
theorem rd_ixA {it : V} {i : Int} (h : rIxL K it (.int i) H Q ∨ rIxT K it (.int i) H Q ∨ rIxS it (.int i) H Q) : rIx K it (.int i) H Q := h
end
theorem cut_ints (ns : List Int) (lo hi : Option Int) : ∃ ms : List Int, cutV (ns.map V.int) lo hi = ms.map V.int := by
  refine ⟨(ns.drop (HT.sIx ns.length 0 lo)).take (HT.sIx ns.length ns.length hi - HT.sIx ns.length 0 lo), ?_⟩
  unfold cutV
  rw [List.map_take, List.map_drop, List.length_map]
end Lay
namespace Lay
open PySem PySem.Spec PyProof.Rows L2
/-! ### loops and comprehensions -/
section
variable {σ : L2.St} {H H1 : Hp} {Q : VK} {D : Ends} {K : PySem.W.Frag}
/-- what a for asks once it stands -/
def ForAt (J : It) (g : TG) (tb : TS) (D : Ends) (σ : L2.St) (H1 : Hp) : Prop := ∃ W : Nat → Nat → L2.St → Hp → Prop, (∃ m, W 0 m σ H1) ∧ ∀ i m σ H, W i m σ H →
  (J.stop i H ∧ D.nx σ H) ∨ (J.go i H ∧ ∃ N : L2.St → Hp → Prop, (∀ σ' H', N σ' H' → ∃ m', m' < m ∧ W (i + 1) m' σ' H') ∧ ∀ x H', J.yld i H x H' → g x σ H' fun σ2 H2 => tb { D with nx := N, ct := N, bk := D.nx } σ2 H2)
theorem rd_for {wi : TI} {g : TG} {tb : TS} (q : wi σ H (fun J H1 => ForAt J g tb D σ H1)) : tFor wi g tb D σ H := q
theorem rd_rng1 {ta : TA} {R : It → Hp → Prop} (q : ta σ H (fun vs H1 => ∃ j : Int, vs = [.int j] ∧ -(2 ^ 62) ≤ j ∧ j < 2 ^ 62 ∧ R (Itr 0 j.toNat) H1)) : iRng1 ta σ H R := q
theorem rd_iTup {te : TE} {R : It → Hp → Prop} (q : te σ H (fun x H1 => ∃ a, x = .ref a ∧ (∃ xs, SqT K H1 a xs) ∧ R (Itt K a) H1)) : iTup K te σ H R := q
theorem rd_iList {te : TE} {R : It → Hp → Prop} (q : te σ H (fun x H1 => ∃ a, x = .ref a ∧ (∃ xs, SqL K H1 a xs) ∧ R (Itl K a) H1)) : iList K te σ H R := q
theorem rd_iStr {te : TE} {R : It → Hp → Prop} (q : te σ H (fun x H1 => ∃ z, x = .str z ∧ R (Its z) H1)) : iStr te σ H R := q
theorem for_rng {n : Nat} {g : TG} {tb : TS} (Pv : Nat → L2.St → Hp → Prop) (h0 : Pv 0 σ H)
    (hs : ∀ i σ H, i < n → Pv i σ H → g (.int (0 + i)) σ H fun σ2 H2 => tb { D with nx := Pv (i + 1), ct := Pv (i + 1), bk := D.nx } σ2 H2) (hd : ∀ σ H, Pv n σ H → D.nx σ H) : ForAt (Itr 0 n) g tb D σ H :=
  for_range Pv h0 hs hd
/-- what a comprehension asks once its list stands at D -/
def LcAt (J : It) (g : TG) (tt : TT) (te : TE) (vs : List Nat) (σ : L2.St) (E : Addr) (H1 : Hp) (Q : VK) : Prop := ∃ W : Nat → Nat → Hp → Prop, (∃ m, W 0 m (upd H1 E (.lst []))) ∧ ∀ i m H, W i m H →
  (J.stop i H ∧ Q (.ref E) H) ∨ (J.go i H ∧ ∃ Nx : Hp → Prop, (∀ H', Nx H' → ∃ m', m' < m ∧ W (i + 1) m' H') ∧ ∀ x H', J.yld i H x H' → g x (wipe σ vs) H' fun σ2 H2 => wipe σ2 vs = wipe σ vs ∧ tt σ2 H2 fun b H3 =>
    if b = true then te σ2 H3 fun y H4 => ∃ acc, H4 E = some (.lst acc) ∧ acc.length < sizeLine ∧ Nx (upd H4 E (.lst (acc ++ [y]))) else Nx H3)
theorem rd_lc {wi : TI} {g : TG} {tt : TT} {te : TE} {vs : List Nat} (q : wi σ H (fun J H1 => ∀ E, H1 E = none → LcAt J g tt te vs σ E H1 Q)) : tLc wi g tt te vs σ H Q := q
theorem wipe1 (σ : L2.St) (i : Nat) (x : V) : wipe ((wipe σ [i]).set i (some x)) [i] = wipe σ [i] := by
  show ((σ.set i none).set i (some x)).set i none = σ.set i none
  rw [List.set_set, List.set_set]
theorem same_up {H1 H' : Hp} {E : Addr} {u : HO} (hE : H1 E = none) (s : Same H1 H') : Same H1 (upd H' E u) := fun b o e => by
  rw [upd_ne (ne_of_none e hE)]
  exact s b o e
/-- a walk that leaves the heap as it is and yields n items -/
structure Wk (J : It) (n : Nat) (G : Hp → Prop) (item : Nat → V) : Prop where
  stop : ∀ H, G H → J.stop n H
  go : ∀ i H, G H → i < n → J.go i H
  yld : ∀ i H x H', G H → i < n → J.yld i H x H' → H' = H ∧ x = item i
theorem wk_rng (n : Nat) : Wk (Itr 0 n) n (fun _ => True) (fun i => .int (0 + (i : Int))) := ⟨fun _ _ => Nat.le_refl _, fun _ _ _ h => h, fun _ _ _ _ _ _ h => h⟩
theorem wk_tup {a : Addr} {xs : List V} (d : V) : Wk (Itt K a) xs.length (fun H => SqT K H a xs) (fun i => xs.getD i d) :=
  ⟨fun H h => ⟨xs, h, Nat.le_refl _⟩, fun i H h hi => ⟨xs, xs[i], h, List.getElem?_eq_getElem hi⟩, fun i H x H' h hi y => by
    obtain ⟨e, y⟩ := y
    refine ⟨e, ?_⟩
    have z := y xs h
    show x = xs.getD i d
    rw [List.getD_eq_getElem?_getD, z]
    rfl⟩
theorem wk_list {a : Addr} {xs : List V} (d : V) : Wk (Itl K a) xs.length (fun H => SqL K H a xs) (fun i => xs.getD i d) :=
  ⟨fun H h => ⟨xs, h, Nat.le_refl _⟩, fun i H h hi => ⟨xs, xs[i], h, List.getElem?_eq_getElem hi⟩, fun i H x H' h hi y => by
    obtain ⟨e, y⟩ := y
    refine ⟨e, ?_⟩
    have z := y xs h
    show x = xs.getD i d
    rw [List.getD_eq_getElem?_getD, z]
    rfl⟩
theorem wk_str (z : Str) : Wk (Its z) z.cps.size (fun _ => True) (fun i => .str ⟨#[z.cps.toList.getD i 0]⟩) :=
  ⟨fun _ _ => Nat.le_refl _, fun _ _ _ h => h, fun i H x H' _ hi y => by
    obtain ⟨e, c, hc, rfl⟩ := y
    refine ⟨e, ?_⟩
    show V.str ⟨#[c]⟩ = V.str ⟨#[z.cps.toList.getD i 0]⟩
    rw [List.getD_eq_getElem?_getD, Array.getElem?_toList, hc]
    rfl⟩
/-- [f(x) for x in .. if b(x)], all of it leaving what stands -/
theorem lc_same {J : It} {n : Nat} {G : Hp → Prop} {item : Nat → V} (w : Wk J n G item) {i : Nat} {tt : TT} {te : TE} {E : Addr} (hn : n ≤ 1000) (hE : H1 E = none) (hG : ∀ H', Same H1 H' → G H') (b : Nat → Bool) (f : Nat → V)
    (ht : ∀ j, j < n → ∀ H', Same H1 H' → ∀ R : Bool → Hp → Prop, (∀ H'', Same H' H'' → R (b j) H'') → tt ((wipe σ [i]).set i (some (item j))) H' R)
    (he : ∀ j, j < n → b j = true → ∀ H', Same H1 H' → ∀ R : VK, (∀ H'', Same H' H'' → R (f j) H'') → te ((wipe σ [i]).set i (some (item j))) H' R)
    (hd : ∀ H', Same H1 H' → H' E = some (.lst (((List.range n).filter b).map f)) → Q (.ref E) H') : LcAt J (gName i) tt te [i] σ E H1 Q := by
  have small : ∀ m, m ≤ n → ((((List.range m).filter b).map f)).length ≤ m := fun m _ => by
    rw [List.length_map]
    exact Nat.le_trans (List.length_filter_le _ _) (Nat.le_of_eq List.length_range)
  refine ⟨fun k m H' => m = n - k ∧ k ≤ n ∧ Same H1 H' ∧ H' E = some (.lst (((List.range k).filter b).map f)), ⟨n, rfl, Nat.zero_le _, same_up hE (Same.refl H1), upd_same⟩, ?_⟩
  rintro k m H' ⟨rfl, hk, hs, hl⟩
  by_cases hlt : k < n
  · refine Or.inr ⟨w.go k H' (hG H' hs) hlt, fun H'' => Same H1 H'' ∧ H'' E = some (.lst (((List.range (k + 1)).filter b).map f)), fun H'' h => ⟨n - (k + 1), by omega, rfl, hlt, h.1, h.2⟩, fun x H2 hy => ?_⟩
    obtain ⟨rfl, rfl⟩ := w.yld k H' x H2 (hG H' hs) hlt hy
    refine ⟨wipe1 σ i _, ?_⟩
    refine ht k hlt H2 hs _ fun H3 s3 => ?_
    refine rd_ifb (fun hb => ?_) (fun hb => ?_)
    · refine he k hlt hb H3 (hs.trans s3) _ fun H4 s4 => ?_
      refine ⟨_, s4 _ _ (s3 _ _ hl), Nat.lt_of_le_of_lt (Nat.le_trans (small k (by omega)) (by omega : k ≤ 1000)) (by decide), same_up hE ((hs.trans s3).trans s4), ?_⟩
      rw [upd_same, List.range_succ, List.filter_append, List.map_append]
      simp [hb]
    · refine ⟨hs.trans s3, ?_⟩
      rw [s3 _ _ hl, List.range_succ, List.filter_append]
      simp [hb]
  · have e : k = n := by omega
    subst e
    exact Or.inl ⟨w.stop H' (hG H' hs), hd H' hs hl⟩
theorem rd_yes {R : Bool → Hp → Prop} (q : R true H) : tYes σ H R := q
theorem rd_bits {te : TE} (q : te σ H (fun x H1 => ∃ i, x = .int i ∧ Q (.int (Builtin.Int.intBits i : Nat)) H1)) : tBits te σ H Q := q
/-- [f(bag) for .. in range(n)]: each turn draws from the bag -/
theorem lc_bag {n i : Nat} {te : TE} {E a : Addr} (hn : n ≤ 1000) (hE : H1 E = none) (hb : BagAt H1 a) (P : V → Prop)
    (he : ∀ j, j < n → ∀ H', But a H1 H' → BagAt H' a → ∀ R : VK, (∀ v H'', P v → But a H' H'' → BagAt H'' a → R v H'') → te ((wipe σ [i]).set i (some (.int (0 + (j : Int))))) H' R)
    (hd : ∀ ys H', ys.length = n → (∀ y ∈ ys, P y) → But a H1 H' → BagAt H' a → H' E = some (.lst ys) → Q (.ref E) H') : LcAt (Itr 0 n) (gName i) tYes te [i] σ E H1 Q := by
  have nE : E ≠ a := fun z => by
    obtain ⟨_, _, _, e, _⟩ := hb
    rw [← z, hE] at e
    cases e
  refine ⟨fun k m H' => m = n - k ∧ k ≤ n ∧ ∃ ys : List V, ys.length = k ∧ (∀ y ∈ ys, P y) ∧ But a H1 H' ∧ BagAt H' a ∧ H' E = some (.lst ys), ⟨n, rfl, Nat.zero_le _, [], rfl, (fun _ z => nomatch z), But.new hE, BagAt.old hE hb, upd_same⟩, ?_⟩
  rintro k m H' ⟨rfl, hk, ys, hy, hP, bu, hb', hl⟩
  by_cases hlt : k < n
  · refine Or.inr ⟨hlt, fun H'' => ∃ ys : List V, ys.length = k + 1 ∧ (∀ y ∈ ys, P y) ∧ But a H1 H'' ∧ BagAt H'' a ∧ H'' E = some (.lst ys), fun H'' h => ⟨n - (k + 1), by omega, rfl, hlt, h⟩, fun x H2 hx => ?_⟩
    obtain ⟨rfl, rfl⟩ := hx
    refine ⟨wipe1 σ i _, ?_⟩
    refine rd_yes ?_
    refine rd_ifb (fun _ => ?_) (fun z => nomatch z)
    refine he k hlt H2 bu hb' _ fun v H3 hv b3 g3 => ?_
    refine ⟨ys, b3 _ _ nE hl, Nat.lt_of_le_of_lt (by omega : ys.length ≤ 1000) (by decide), ys ++ [v], by simp [hy], ?_, ?_, ?_, upd_same⟩
    · intro y hy
      rcases List.mem_append.mp hy with z | z
      · exact hP y z
      · cases List.mem_singleton.mp z
        exact hv
    · intro b o nb e
      rw [upd_ne (ne_of_none e hE)]
      exact b3 b o nb (bu b o nb e)
    · obtain ⟨g, m, c, e, r⟩ := g3
      exact ⟨g, m, c, up_oth nE.symm e, r⟩
  · have e : k = n := by omega
    subst e
    exact Or.inl ⟨Nat.le_refl _, hd ys H' hy hP bu hb' hl⟩
end
theorem pow10_abs (m : Nat) : ((10 : Int) ^ m).natAbs < 2 ^ (4 * m + 1) := by
  have h1 : ((10 : Int) ^ m).natAbs = 10 ^ m := by
    rw [Int.natAbs_pow]
    rfl
  rw [h1, Nat.pow_succ, Nat.pow_mul]
  have h2 : (10 : Nat) ^ m ≤ (2 ^ 4) ^ m := Nat.pow_le_pow_left (by decide) m
  have h3 : 0 < ((2 : Nat) ^ 4) ^ m := Nat.pow_pos (by decide)
  omega
theorem pow10_mul {a b : Nat} (h : a + b ≤ 100000) : CMulW ((10 : Int) ^ a) ((10 : Int) ^ b) := wide_mul (pow10_abs a) (pow10_abs b) (by omega) (by omega) (by omega)
end Lay
namespace Lay
open PySem PySem.Spec PyProof.Rows L2
theorem bits_short {i : Int} (h : Builtin.Int.intBits i ≤ 6000) : i.natAbs < 10 ^ 2000 := by
  have h1 : i.natAbs < 2 ^ 6000 := by
    unfold Builtin.Int.intBits at h
    by_cases z : i = 0
    · subst z
      exact Nat.pow_pos (by decide)
    · rw [if_neg (by simpa using z)] at h
      have z2 : i.natAbs ≠ 0 := by omega
      exact (Nat.log2_lt z2).mp (by omega)
  have h2 : (2 : Nat) ^ 6000 = (2 ^ 3) ^ 2000 := by rw [← Nat.pow_mul]
  have h3 : ((2 : Nat) ^ 3) ^ 2000 ≤ 10 ^ 2000 := Nat.pow_le_pow_left (by decide) 2000
  omega
end Lay
namespace Lay
open PySem PySem.Spec PyProof.Rows L2
section
variable {σ : L2.St} {H H1 : Hp} {Q : VK} {D : Ends} {K : PySem.W.Frag}
theorem rd_s {z : Str} {R : Str → Prop} (q : R z) : ∃ j, V.str z = V.str j ∧ R j := ⟨z, rfl, q⟩
theorem rd_r {p : Addr} {R : Addr → Prop} (q : R p) : ∃ a, V.ref p = V.ref a ∧ R a := ⟨p, rfl, q⟩
theorem rd_isi {v : V} {T n : String} {b : Bool} (ty : TyX K H v (.type T)) (hb : kitB T n = some b) (q : Q (.bl b) H) : rIsi K [v, .ty n] H Q := ⟨v, .ty n, _, _, b, rfl, ClsV.ty n, ty, kit_ty hb, q⟩
end
theorem range_getD {α : Type} (d : α) : ∀ l : List α, (List.range l.length).map (fun j => l.getD j d) = l := fun l => by
  apply List.ext_getElem?
  intro i
  rw [List.getElem?_map]
  by_cases h : i < l.length
  · rw [List.getElem?_range h]
    simp [List.getD_eq_getElem?_getD, h]
  · rw [List.getElem?_eq_none (by rw [List.length_range]; omega), List.getElem?_eq_none (by omega)]
    rfl
theorem range_all {α : Type} (d : α) (l : List α) (g : α → Bool) : (List.range l.length).all (fun j => g (l.getD j d)) = l.all g := by
  have e := range_getD d l
  calc (List.range l.length).all (fun j => g (l.getD j d)) = ((List.range l.length).map (fun j => l.getD j d)).all g := by rw [List.all_map]; rfl
    _ = l.all g := by rw [e]
theorem filt_yes {α : Type} (l : List α) : l.filter (fun _ => true) = l := List.filter_eq_self.mpr fun _ _ => rfl
end Lay
namespace Lay
open PySem PySem.Spec PyProof.Rows L2
section
variable {σ : L2.St} {H H1 : Hp} {Q : VK} {D : Ends} {K : PySem.W.Frag}
/-- a comprehension over anything that leaves what stands; S tells the slots of a turn -/
theorem lc_gen {J : It} {n : Nat} {G : Hp → Prop} {g : TG} {vs : List Nat} {tt : TT} {te : TE} {E : Addr} (Y : Nat → V → Hp → Prop) (S : Nat → L2.St → Hp → Prop)
    (stop : ∀ H', G H' → J.stop n H') (go : ∀ i H', G H' → i < n → J.go i H') (yld : ∀ i H' x H'', G H' → i < n → J.yld i H' x H'' → Same H' H'' ∧ Y i x H'')
    (hn : n ≤ 1000) (hE : H1 E = none) (hG : ∀ H', Same H1 H' → G H') (b : Nat → Bool) (f : Nat → V)
    (hg : ∀ j x H', j < n → Same H1 H' → Y j x H' → ∀ R : L2.St → Hp → Prop, (∀ σ2, wipe σ2 vs = wipe σ vs → S j σ2 H' → R σ2 H') → g x (wipe σ vs) H' R)
    (ht : ∀ j σ2 H', j < n → Same H1 H' → S j σ2 H' → ∀ R : Bool → Hp → Prop, (∀ H'', Same H' H'' → R (b j) H'') → tt σ2 H' R)
    (he : ∀ j σ2 H' H0, j < n → b j = true → S j σ2 H0 → Same H1 H' → Same H0 H' → ∀ R : VK, (∀ H'', Same H' H'' → R (f j) H'') → te σ2 H' R)
    (hd : ∀ H', Same H1 H' → H' E = some (.lst (((List.range n).filter b).map f)) → Q (.ref E) H') : LcAt J g tt te vs σ E H1 Q := by
  have small : ∀ m, m ≤ n → ((((List.range m).filter b).map f)).length ≤ m := fun m _ => by
    rw [List.length_map]
    exact Nat.le_trans (List.length_filter_le _ _) (Nat.le_of_eq List.length_range)
  refine ⟨fun k m H' => m = n - k ∧ k ≤ n ∧ Same H1 H' ∧ H' E = some (.lst (((List.range k).filter b).map f)), ⟨n, rfl, Nat.zero_le _, same_up hE (Same.refl H1), upd_same⟩, ?_⟩
  rintro k m H' ⟨rfl, hk, hs, hl⟩
  by_cases hlt : k < n
  · refine Or.inr ⟨go k H' (hG H' hs) hlt, fun H'' => Same H1 H'' ∧ H'' E = some (.lst (((List.range (k + 1)).filter b).map f)), fun H'' h => ⟨n - (k + 1), by omega, rfl, hlt, h.1, h.2⟩, fun x H2 hy => ?_⟩
    obtain ⟨s2, y2⟩ := yld k H' x H2 (hG H' hs) hlt hy
    refine hg k x H2 hlt (hs.trans s2) y2 _ fun σ2 hw hS => ⟨hw, ?_⟩
    refine ht k σ2 H2 hlt (hs.trans s2) hS _ fun H3 s3 => ?_
    refine rd_ifb (fun hb => ?_) (fun hb => ?_)
    · refine he k σ2 H3 H2 hlt hb hS ((hs.trans s2).trans s3) s3 _ fun H4 s4 => ?_
      refine ⟨_, s4 _ _ (s3 _ _ (s2 _ _ hl)), Nat.lt_of_le_of_lt (Nat.le_trans (small k (by omega)) (by omega : k ≤ 1000)) (by decide), same_up hE (((hs.trans s2).trans s3).trans s4), ?_⟩
      rw [upd_same, List.range_succ, List.filter_append, List.map_append]
      simp [hb]
    · refine ⟨(hs.trans s2).trans s3, ?_⟩
      rw [s3 _ _ (s2 _ _ hl), List.range_succ, List.filter_append]
      simp [hb]
  · have e : k = n := by omega
    subst e
    exact Or.inl ⟨stop H' (hG H' hs), hd H' hs hl⟩
/-! data -/
theorem dp_all {f : V → PyData} : ∀ {xs : List V}, (∀ x ∈ xs, Dp K H x (f x)) → DpAll K H xs (xs.map f)
  | [], _ => .nil
  | x :: xs, h => .cons (h x List.mem_cons_self) (dp_all fun y hy => h y (List.mem_cons_of_mem _ hy))
theorem rd_eqD {x y : V} {d e : PyData} (hd : Dp K H x d) (he : Dp K H y e) (sd : SeqAt.shaped d = true) (se : SeqAt.shaped e = true) (q : Q (.bl (PyData.eqv d e)) H) : rEqD K x y H Q := ⟨d, e, hd, he, sd, se, q⟩
end
theorem canAll_of {ds : List PyData} (h : ∀ d ∈ ds, d.canLay0 = true) : PyData.canLayAll0 ds = true := by
  induction ds with
  | nil => rfl
  | cons a l ih =>
    show (a.canLay0 && PyData.canLayAll0 l) = true
    rw [h a List.mem_cons_self, ih fun d hd => h d (List.mem_cons_of_mem _ hd)]
    rfl
theorem depthAll_of {ds : List PyData} {n : Nat} (h : ∀ d ∈ ds, d.depth ≤ n) : PyData.depthAll ds ≤ n := by
  induction ds with
  | nil => exact Nat.zero_le _
  | cons a l ih =>
    show max a.depth (PyData.depthAll l) ≤ n
    exact Nat.max_le.mpr ⟨h a List.mem_cons_self, ih fun d hd => h d (List.mem_cons_of_mem _ hd)⟩
/-- a list of flat data -/
theorem shaped_list {ds : List PyData} (h : ∀ d ∈ ds, d.canLay0 = true ∧ d.depth = 0) : SeqAt.shaped (.list ds) = true := by
  show (PyData.canLayAll0 ds && decide (PyData.depthAll ds + 1 ≤ 64)) = true
  rw [canAll_of fun d hd => (h d hd).1]
  have := depthAll_of (n := 0) fun d hd => Nat.le_of_eq (h d hd).2
  rw [decide_eq_true (by omega)]
  rfl
/-- the signs of a text are signs -/
def Sok (z : Str) : Prop := ∀ c ∈ z.cps.toList, c < 1114112
theorem Sok.ok {z : Str} (h : Sok z) : (PyData.str z).canLay0 = true := by
  show z.cps.all (· < 0x110000) = true
  rw [Array.all_eq_true_iff_forall_mem]
  intro c hc
  exact decide_eq_true (h c (Array.mem_toList_iff.mpr hc))
theorem sok_one {c : Nat} (h : c < 1114112) : Sok ⟨#[c]⟩ := fun x hx => by
  have e : x = c := by simpa using hx
  rw [e]
  exact h
theorem eqv_nil (ds : List PyData) : PyData.eqv (.list ds) (.list []) = ds.isEmpty := by
  cases ds <;> rfl
end Lay
namespace Lay
open PySem PySem.Spec PyProof.Rows L2
section
variable {K : PySem.W.Frag} {H H' : Hp}
theorem sqT_same {a : Addr} {xs : List V} (e : Same H H') (h : SqT K H a xs) : SqT K H' a xs := by
  rcases h with (h | ⟨o, h⟩) | h
  · exact Or.inl (Or.inl (e _ _ h))
  · exact Or.inl (Or.inr ⟨o, e _ _ h⟩)
  · exact Or.inr h
mutual
theorem dp_same (s : Same H H') : ∀ (d : PyData) (v : V), Dp K H v d → Dp K H' v d
  | .none, _, h => by cases h; exact .non
  | .bool b, _, h => by cases h; exact .bl b
  | .int i, _, h => by cases h; exact .int i
  | .str x, _, h => by cases h; exact .str x
  | .list ds, _, h => by
    cases h with
    | lst hs ha => exact .lst (s.seq hs) (dpAll_same s ds _ ha)
  | .tuple ds, _, h => by
    cases h with
    | tup hs ha => exact .tup (sqT_same s hs) (dpAll_same s ds _ ha)
  | .dict _, _, h => by cases h
theorem dpAll_same (s : Same H H') : ∀ (ds : List PyData) (vs : List V), DpAll K H vs ds → DpAll K H' vs ds
  | [], _, h => by cases h; exact .nil
  | d :: ds, _, h => by
    cases h with
    | cons h1 h2 => exact .cons (dp_same s d _ h1) (dpAll_same s ds _ h2)
end
theorem dp_allJ {α : Type} {f : α → V} {g : α → PyData} : ∀ {l : List α}, (∀ j ∈ l, Dp K H (f j) (g j)) → DpAll K H (l.map f) (l.map g)
  | [], _ => .nil
  | x :: xs, h => .cons (h x List.mem_cons_self) (dp_allJ fun y hy => h y (List.mem_cons_of_mem _ hy))
theorem dpAll_len : ∀ {vs : List V} {ds : List PyData}, DpAll K H vs ds → vs.length = ds.length
  | _, _, .nil => rfl
  | _, _, .cons _ t => congrArg (· + 1) (dpAll_len t)
theorem dpAll_get : ∀ {vs : List V} {ds : List PyData}, DpAll K H vs ds → ∀ i, i < vs.length → Dp K H (vs.getD i .non) (ds.getD i .none) ∧ ds.getD i .none ∈ ds
  | _, _, .cons h t, 0, _ => ⟨h, List.mem_cons_self⟩
  | _, _, .cons h t, i + 1, hi => by
    have z := dpAll_get t i (Nat.lt_of_succ_lt_succ hi)
    exact ⟨z.1, List.mem_cons_of_mem _ z.2⟩
end
theorem shaped_listN {ds : List PyData} {n : Nat} (hn : n ≤ 60) (h : ∀ d ∈ ds, d.canLay0 = true ∧ d.depth ≤ n) : SeqAt.shaped (.list ds) = true := by
  show (PyData.canLayAll0 ds && decide (PyData.depthAll ds + 1 ≤ 64)) = true
  rw [canAll_of fun d hd => (h d hd).1]
  have := depthAll_of (n := n) fun d hd => (h d hd).2
  rw [decide_eq_true (by omega)]
  rfl
end Lay
namespace Lay
open PySem PySem.Spec PyProof.Rows L2
def rJoin (K : PySem.W.Frag) : V → List V → Hp → VK → Prop := fun x xs H Q => ∃ a p, ∃ ys : List Str, x = .str a ∧ xs = [.ref p] ∧ (SqL K H p (ys.map V.str) ∨ SqT K H p (ys.map V.str)) ∧
      (ys.map (·.length)).sum + ys.length * a.length ≤ 16777216 ∧ Q (.str (Txt.join a ys)) H
theorem q_join {X : Cx} {o e : Expr} {to te : TE} {apos pos : Pos} (ho : PE X o to) (he : PE X e te) (hs : starEach [e] X.env = [(false, eval e X.env)] := by rfl) (hbase : attributeBase o "join" X.env (eval o X.env) = eval o X.env := by rfl) (hline : (apos.endLine == pos.line) = true := by rfl) :
    PE X (.Call (.Attribute o "join" apos) [e] [] pos) (tM1 (rJoin X.K) to te) := pe_join ho he hs hbase hline
section
variable {σ : L2.St} {H : Hp} {Q : VK} {K : PySem.W.Frag}
theorem rd_M1 {r : V → List V → Hp → VK → Prop} {to te : TE} (q : to σ H (fun x H1 => (∃ a, x = .str a) ∧ te σ H1 fun y H2 => r x [y] H2 Q)) : tM1 r to te σ H Q := q
theorem rd_isS {z : Str} {B : Prop} (q : B) : (∃ a, V.str z = V.str a) ∧ B := ⟨⟨z, rfl⟩, q⟩
theorem rd_join {a : Str} {p : Addr} {ys : List Str} (h : SqL K H p (ys.map V.str)) (hz : (ys.map (·.length)).sum + ys.length * a.length ≤ 16777216) (q : Q (.str (Txt.join a ys)) H) : rJoin K (.str a) [.ref p] H Q := ⟨a, p, ys, rfl, rfl, Or.inl h, hz, q⟩
end
/-- texts of one sign each, glued -/
theorem join_ones {ys : List Str} (h : ∀ y ∈ ys, y.length = 1 ∧ Sok y) : (ys.map (·.length)).sum = ys.length ∧ (Txt.join ("" : Str) ys).length = ys.length ∧ Sok (Txt.join ("" : Str) ys) := by
  have e0 : TL.tl ("" : Str) = [] := by decide +kernel
  have key : TL.tl (Txt.join ("" : Str) ys) = (ys.map TL.tl).flatten := by
    rw [TL.join_eq, TL.tl_join, e0]
    clear h
    induction ys with
    | nil => rfl
    | cons y r ih =>
      cases r with
      | nil =>
        show TL.tl y = TL.tl y ++ []
        rw [List.append_nil]
      | cons z r =>
        show TL.tl y ++ ([] ++ TL.joinL [] ((z :: r).map TL.tl)) = TL.tl y ++ ((z :: r).map TL.tl).flatten
        rw [← ih]
        rfl
  refine ⟨?_, ?_, ?_⟩
  · clear key
    induction ys with
    | nil => rfl
    | cons y r ih =>
      rw [List.map_cons, List.sum_cons, ih fun z hz => h z (List.mem_cons_of_mem _ hz), (h y List.mem_cons_self).1, List.length_cons]
      omega
  · have e : (Txt.join ("" : Str) ys).length = (TL.tl (Txt.join ("" : Str) ys)).length := by simp [Str.length, TL.tl]
    rw [e, key]
    clear key e
    induction ys with
    | nil => rfl
    | cons y r ih =>
      have e1 : (TL.tl y).length = 1 := by
        have := (h y List.mem_cons_self).1
        simpa [Str.length, TL.tl] using this
      rw [List.map_cons, List.flatten_cons, List.length_append, ih fun z hz => h z (List.mem_cons_of_mem _ hz), e1, List.length_cons]
      omega
  · intro c hc
    have hc : c ∈ TL.tl (Txt.join ("" : Str) ys) := hc
    rw [key] at hc
    obtain ⟨l, hl, hcl⟩ := List.mem_flatten.mp hc
    obtain ⟨y, hy, rfl⟩ := List.mem_map.mp hl
    exact (h y hy).2 c hcl
end Lay
namespace Lay
open PySem PySem.Spec PyProof.Rows L2
theorem rd_disp1 {σ : L2.St} {H : Hp} {Q : VK} {tk tv : TE} (q : ∀ p, H p = none → tk σ (upd H p (.dK [])) fun kx H1 => tv σ H1 fun vx H2 => H2 p = some (.dK []) ∧ ∃ kvs : List (Key × V), [(kx, vx)] = kvs.map (fun kv => (kV kv.1, kv.2)) ∧ kvs.length ≤ 15 ∧ Q (.ref p) (upd H2 p (.dK (mergeK [] kvs)))) : tDisp [(tk, tv)] σ H Q := q
theorem rd_dnew {σ : L2.St} {H : Hp} {Q : VK} (q : ∀ p, H p = none → Q (.ref p) (upd H p (.dK []))) : tDNewK σ H Q := q
end Lay
namespace Lay
open PySem PySem.Spec PyProof.Rows L2
section
variable {σ : L2.St} {H : Hp} {Q : VK} {K : PySem.W.Frag}
theorem rd_zipA {ta : TA} {R : It → Hp → Prop} (q : ta σ H (fun vs H1 => ∃ a b xs ys, vs = [.ref a, .ref b] ∧ ((SqL K H1 a xs ∧ SqL K H1 b ys ∧ R (Itz K a b) H1) ∨ (SqT K H1 a xs ∧ SqT K H1 b ys ∧ R (RZ.ItzT K a b) H1)))) : RZ.iZipA K ta σ H R := q
theorem rd_BM {T : String} {r : V → List V → Hp → VK → Prop} {to : TE} {t : TA} (q : to σ H (fun x H1 => tyV K T x H1 ∧ t σ H1 fun xs H2 => r x xs H2 Q)) : tBM K T r to t σ H Q := q
theorem rd_tyL {p : Addr} {xs : List V} {B : Prop} (h : H p = some (.lst xs)) (q : B) : tyV K "list" (.ref p) H ∧ B := ⟨Or.inl ⟨rfl, xs, SqL.of h⟩, q⟩
theorem rd_app {l : Addr} {xs : List V} {y : V} (h : H l = some (.lst xs)) (hl : xs.length ≤ 1000) (q : Q .non (upd H l (.lst (xs ++ [y])))) : rAppend (.ref l) [y] H Q := ⟨l, xs, y, rfl, rfl, h, Nat.lt_of_le_of_lt hl (by decide), q⟩
theorem rd_repr {a : Addr} {d : PyData} (hd : Dp K H (.ref a) d) (h1 : d.showable = true) (h2 : d.hasDict = false) (h3 : d.depth ≤ 20) (h4 : d.shown.length ≤ sizeLine) (q : Q (.str d.shown) H) : rRepr K [.ref a] H Q := ⟨a, d, rfl, hd, h1, h2, h3, h4, q⟩
theorem rd_inT {x : V} {p : Addr} {xs : List V} (h : SqT K H p xs) (h1 : flatV x = true) (h2 : xs.all flatV = true) (q : Q (.bl (inV x xs)) H) : rIn K false x (.ref p) H Q := ⟨p, xs, rfl, Or.inr h, h1, h2, q⟩
end
theorem cut_drop1 (xs : List V) : cutV xs (some 1) none = xs.drop 1 := by
  have e0 : HT.sIx xs.length 0 (some 1) = min 1 xs.length := HT.sIx_nat xs.length 0 1
  have e1 : HT.sIx xs.length xs.length none = xs.length := HT.sIx_none _ _
  unfold cutV
  rw [e0, e1]
  cases xs with
  | nil => rfl
  | cons x r =>
    have e2 : min 1 (x :: r).length = 1 := by rw [List.length_cons]; omega
    rw [e2, List.length_cons]
    show (r.take (r.length + 1 - 1)) = r
    rw [Nat.add_sub_cancel, List.take_length]
/-- t[1:], a tuple -/
theorem rd_slA1 {K : PySem.W.Frag} {H : Hp} {Q : VK} {a : Addr} {xs : List V} (h : H a = some (.tup xs)) (q : ∀ p H', Same H H' → H' p = some (.tup (xs.drop 1)) → Q (.ref p) H') : rSlA K (.ref a) (some 1) none H Q := by
  refine ⟨a, xs, rfl, SqT.of h, fun c => ?_, fun c p hp => ?_⟩
  · refine q a H (Same.refl H) ?_
    have e0 : HT.sIx xs.length 0 (some 1) = min 1 xs.length := HT.sIx_nat xs.length 0 1
    rw [e0] at c
    have : xs = [] := by
      cases xs with
      | nil => rfl
      | cons x r =>
        rw [List.length_cons] at c
        omega
    subst this
    exact h
  · rw [cut_drop1]
    exact q p _ (fun b o e => up_old hp e) upd_same
end Lay
namespace K01
open PySem PySem.Spec PyProof.Rows L2 Lay

def top (i : Nat) : Stmt := PySem.Challenge.pw_lengthstell_k01_words_and_lots.main.body.getD i (.Pass ⟨0, 0, 0, 0⟩)
abbrev sis_integer : Stmt := top 3
theorem scis_integer : FnScope ["value"] ["value"] (defScope sis_integer) := ⟨rfl, rfl, rfl, by decide +kernel, rfl, by decide +kernel, by decide +kernel⟩
abbrev shas_digits : Stmt := top 4
theorem schas_digits : FnScope ["number", "most"] ["number", "most"] (defScope shas_digits) := ⟨rfl, rfl, rfl, by decide +kernel, rfl, by decide +kernel, by decide +kernel⟩
abbrev s_least_longer : Stmt := top 5
theorem sc_least_longer : FnScope ["digits", "number", "_"] ["digits"] (defScope s_least_longer) := ⟨rfl, rfl, rfl, by decide +kernel, rfl, by decide +kernel, by decide +kernel⟩
abbrev sis_name : Stmt := top 6
theorem scis_name : FnScope ["value", "letter"] ["value"] (defScope sis_name) := ⟨rfl, rfl, rfl, by decide +kernel, rfl, by decide +kernel, by decide +kernel⟩
abbrev sare_names : Stmt := top 7
theorem scare_names : FnScope ["value", "name"] ["value"] (defScope sare_names) := ⟨rfl, rfl, rfl, by decide +kernel, rfl, by decide +kernel, by decide +kernel⟩
abbrev sis_lot : Stmt := top 8
theorem scis_lot : FnScope ["value"] ["value"] (defScope sis_lot) := ⟨rfl, rfl, rfl, by decide +kernel, rfl, by decide +kernel, by decide +kernel⟩
abbrev sis_pair : Stmt := top 9
theorem scis_pair : FnScope ["value"] ["value"] (defScope sis_pair) := ⟨rfl, rfl, rfl, by decide +kernel, rfl, by decide +kernel, by decide +kernel⟩
abbrev sis_space : Stmt := top 10
theorem scis_space : FnScope ["value"] ["value"] (defScope sis_space) := ⟨rfl, rfl, rfl, by decide +kernel, rfl, by decide +kernel, by decide +kernel⟩
abbrev sis_ascending : Stmt := top 11
theorem scis_ascending : FnScope ["values", "at"] ["values"] (defScope sis_ascending) := ⟨rfl, rfl, rfl, by decide +kernel, rfl, by decide +kernel, by decide +kernel⟩
abbrev s_law_bag : Stmt := top 13
theorem sc_law_bag : FnScope ["_law_script", "_law_at", "_law_cell", "_law_great", "_law_mixed"] ["_law_script", "_law_at"] (defScope s_law_bag) := ⟨rfl, rfl, rfl, by decide +kernel, rfl, by decide +kernel, by decide +kernel⟩
abbrev s_law_draw : Stmt := top 14
theorem sc_law_draw : FnScope ["_law_bag_here", "_law_total", "_law_found", "_law_one", "_law_two"] ["_law_bag_here", "_law_total"] (defScope s_law_draw) := ⟨rfl, rfl, rfl, by decide +kernel, rfl, by decide +kernel, by decide +kernel⟩
abbrev s_law_one_of : Stmt := top 15
theorem sc_law_one_of : FnScope ["_law_bag_here", "_law_items"] ["_law_bag_here", "_law_items"] (defScope s_law_one_of) := ⟨rfl, rfl, rfl, by decide +kernel, rfl, by decide +kernel, by decide +kernel⟩
abbrev s_law_power : Stmt := top 16
theorem sc_law_power : FnScope ["_law_many", "_law_found", "_law_turn"] ["_law_many"] (defScope s_law_power) := ⟨rfl, rfl, rfl, by decide +kernel, rfl, by decide +kernel, by decide +kernel⟩
abbrev s_law_word : Stmt := top 17
theorem sc_law_word : FnScope ["_law_bag_here", "_law_signs", "_law_turn"] ["_law_bag_here"] (defScope s_law_word) := ⟨rfl, rfl, rfl, by decide +kernel, rfl, by decide +kernel, by decide +kernel⟩
abbrev s_law_any : Stmt := top 18
theorem sc_law_any : FnScope ["_law_bag_here", "_law_way", "_law_digits", "_law_turn"] ["_law_bag_here"] (defScope s_law_any) := ⟨rfl, rfl, rfl, by decide +kernel, rfl, by decide +kernel, by decide +kernel⟩
abbrev s_law_is_word : Stmt := top 19
theorem sc_law_is_word : FnScope ["_law_value", "_law_sign"] ["_law_value"] (defScope s_law_is_word) := ⟨rfl, rfl, rfl, by decide +kernel, rfl, by decide +kernel, by decide +kernel⟩
abbrev s_law_are_words : Stmt := top 20
theorem sc_law_are_words : FnScope ["_law_value", "_law_one"] ["_law_value"] (defScope s_law_are_words) := ⟨rfl, rfl, rfl, by decide +kernel, rfl, by decide +kernel, by decide +kernel⟩
abbrev s_law_right : Stmt := top 21
theorem sc_law_right : FnScope ["_law_bag_here", "_law_value", "_law_is_whole", "_law_words", "_law_lot", "_law_due", "_law_told", "_law_one", "_law_other"] ["_law_bag_here"] (defScope s_law_right) := ⟨rfl, rfl, rfl, by decide +kernel, rfl, by decide +kernel, by decide +kernel⟩
abbrev slaw : Stmt := top 22
theorem sclaw : FnScope ["_law_script", "_law_at", "_law_bag_here", "_law_turn", "_law_edge", "_law_edges"] ["_law_script"] (defScope slaw) := ⟨rfl, rfl, rfl, by decide +kernel, rfl, by decide +kernel, by decide +kernel⟩
structure Bi (mg : Str → Option Value) : Prop where
  b_abs : mg "abs" = none
  b_all : mg "all" = none
  b_bool : mg "bool" = none
  b_int : mg "int" = none
  b_isinstance : mg "isinstance" = none
  b_len : mg "len" = none
  b_max : mg "max" = none
  b_min : mg "min" = none
  b_range : mg "range" = none
  b_repr : mg "repr" = none
  b_sorted : mg "sorted" = none
  b_str : mg "str" = none
  b_sum : mg "sum" = none
  b_tuple : mg "tuple" = none
  b_zip : mg "zip" = none
  c_MAX_DIGITS : ∃ t, mg "MAX_DIGITS" = some (.int 2000 t)
  c_MAX_LETTERS : ∃ t, mg "MAX_LETTERS" = some (.int 4 t)
def spPower : Sp := fun vs H Q _ => ∃ n : Nat, vs = [.int (n : Int)] ∧ n ≤ 3000 ∧ Q (.int (10 ^ n)) H
def spLong : Sp := fun vs H Q _ => ∃ n : Nat, vs = [.int (n : Int)] ∧ n ≤ 2000 ∧ Q (.int (10 ^ n)) H
def spShort : Sp := fun vs H Q _ => ∃ i : Int, vs = [.int i, .int 2000] ∧ Q (.bl (decide (i.natAbs < 10 ^ 2000))) H
/-- what a drawn value is, as far as it is asked -/
inductive Dv where
  | int (i : Int) | str (z : Str) | bl (b : Bool) | oth | tup (ds : List Dv)
/-- a value that is asked for its kind alone -/
inductive Item (H : Hp) : V → Dv → Prop
  | int (i : Int) : Item H (.int i) (.int i)
  | str (z : Str) (h : z.length ≤ 1000) (ok : Sok z) : Item H (.str z) (.str z)
  | bl (b : Bool) : Item H (.bl b) (.bl b)
  | non : Item H .non .oth
  | lst {p : Addr} {xs : List V} (h : H p = some (.lst xs)) : Item H (.ref p) .oth
  | dct {p : Addr} {kvs : List (Key × V)} (h : H p = some (.dK kvs)) : Item H (.ref p) .oth
  | tup {p : Addr} {xs : List V} (ds : List Dv) (h : H p = some (.tup xs)) : Item H (.ref p) (.tup ds)
/-- a value, a tuple by its items -/
inductive Den (K : PySem.W.Frag) (H : Hp) : V → Dv → Prop
  | one {v : V} {d : Dv} (h : Item H v d) (n : ∀ ds, d ≠ .tup ds) : Den K H v d
  | tup {p : Addr} {xs : List V} {ds : List Dv} (h : H p = some (.tup xs)) (hi : Paired (Item H) xs ds) (hl : xs.length ≤ 10) (hd : ∃ es, DpAll K H xs es ∧ ∀ e ∈ es, e.canLay0 = true ∧ e.depth ≤ 3) : Den K H (.ref p) (.tup ds)
def okc (c : Nat) : Bool := !decide ([c] < [97]) && !decide ([122] < [c])
def wName : Dv → Bool
  | .str z => decide (1 ≤ z.length ∧ z.length ≤ 4) && z.cps.toList.all okc
  | _ => false
def wNames : Dv → Bool
  | .tup ds => ds.all wName
  | _ => false
def sgn : Dv → List Nat
  | .str z => z.cps.toList
  | _ => []
def asc : List (List Nat) → Bool
  | a :: b :: r => decide (a < b) && asc (b :: r)
  | _ => true
def wLot : Dv → Bool
  | .tup ds => ds.all wName && asc (ds.map sgn)
  | _ => false
def wPair : Dv → Bool
  | .tup ds => (ds.all wName && asc (ds.map sgn)) && decide (ds.length = 2)
  | _ => false
def wInt : Dv → Bool
  | .int i => decide (i.natAbs < 10 ^ 2000)
  | _ => false
def wSpace : Dv → Bool
  | .int i => decide (i.natAbs < 10 ^ 2000) && (decide (1 ≤ i) && decide (i ≤ 2))
  | _ => false
theorem wName_str (z : Str) : wName (.str z) = (decide (1 ≤ z.length ∧ z.length ≤ 4) && z.cps.toList.all okc) := rfl
theorem wLot_tup (ds : List Dv) : wLot (.tup ds) = (ds.all wName && asc (ds.map sgn)) := rfl
theorem wPair_tup (ds : List Dv) : wPair (.tup ds) = ((ds.all wName && asc (ds.map sgn)) && decide (ds.length = 2)) := rfl
theorem name_long {z : Str} (h : ¬ (1 ≤ z.length ∧ z.length ≤ 4)) : wName (.str z) = false := by
  rw [wName_str, decide_eq_false h]
  rfl
def spWord : Sp := fun vs H Q _ => ∃ a : Addr, vs = [.ref a] ∧ BagAt H a ∧ ∀ z H', z.length ≤ 10 → Sok z → But a H H' → BagAt H' a → Q (.str z) H'
def spAny (K : PySem.W.Frag) : Sp := fun vs H Q _ => ∃ a : Addr, vs = [.ref a] ∧ BagAt H a ∧ ∀ v d H', Den K H' v d → But a H H' → BagAt H' a → Q v H'
def spRight : Sp := fun vs H Q _ => ∃ a : Addr, vs = [.ref a] ∧ BagAt H a ∧ ∀ H', But a H H' → BagAt H' a → Q (.bl true) H'
def spName : Sp := fun vs H Q _ => ∃ v d, vs = [v] ∧ Item H v d ∧ ∀ H', Same H H' → Q (.bl (wName d)) H'
def spNames (K : PySem.W.Frag) : Sp := fun vs H Q _ => ∃ v d, vs = [v] ∧ Den K H v d ∧ ∀ H', Same H H' → Q (.bl (wNames d)) H'
def spLot (K : PySem.W.Frag) : Sp := fun vs H Q _ => ∃ v d, vs = [v] ∧ Den K H v d ∧ ∀ H', Same H H' → Q (.bl (wLot d)) H'
def spPair (K : PySem.W.Frag) : Sp := fun vs H Q _ => ∃ v d, vs = [v] ∧ Den K H v d ∧ ∀ H', Same H H' → Q (.bl (wPair d)) H'
def spInt : Sp := fun vs H Q _ => ∃ v d, vs = [v] ∧ Item H v d ∧ Q (.bl (wInt d)) H
def spSpace : Sp := fun vs H Q _ => ∃ v d, vs = [v] ∧ Item H v d ∧ Q (.bl (wSpace d)) H
def spAsc : Sp := fun vs H Q _ => ∃ (p : Addr) (zs : List Str), vs = [.ref p] ∧ H p = some (.tup (zs.map V.str)) ∧ zs.length ≤ 10 ∧ ∀ H', Same H H' → Q (.bl (asc (zs.map fun z => z.cps.toList))) H'
def spLaw (K : PySem.W.Frag) : Sp := fun vs H Q _ => ∃ (a : Addr) (ns : List Int), vs = [.ref a] ∧ SqL K H a (ns.map V.int) ∧ ns.length ≤ 63 ∧ ∀ H', Q (.bl true) H'

def itStr : Dv → Bool
  | .str _ => true
  | _ => false
def itInt : Dv → Bool
  | .int _ => true
  | .bl _ => true
  | _ => false
def itBool : Dv → Bool
  | .bl _ => true
  | _ => false
def itTup : Dv → Bool
  | .tup _ => true
  | _ => false
section
variable {K : PySem.W.Frag} {H : Hp} {v : V} {d : Dv} {Q : VK}
theorem rd_isiStr (h : Item H v d) (q : Q (.bl (itStr d)) H) : rIsi K [v, .ty "str"] H Q := by
  cases h with
  | int i => exact rd_isi (b := false) (.base (.int i)) (by decide +kernel) q
  | str z hz ok => exact rd_isi (b := true) (.base (.str z)) (by decide +kernel) q
  | bl b => exact rd_isi (b := false) (.base (.bl b)) (by decide +kernel) q
  | non => exact rd_isi (b := false) (.base .non) (by decide +kernel) q
  | lst e => exact rd_isi (b := false) (.base (.lst e)) (by decide +kernel) q
  | dct e => exact rd_isi (b := false) (.base (.dK e)) (by decide +kernel) q
  | tup ds e => exact rd_isi (b := false) (.base (.tup e)) (by decide +kernel) q
theorem rd_isiInt (h : Item H v d) (q : Q (.bl (itInt d)) H) : rIsi K [v, .ty "int"] H Q := by
  cases h with
  | int i => exact rd_isi (b := true) (.base (.int i)) (by decide +kernel) q
  | str z hz ok => exact rd_isi (b := false) (.base (.str z)) (by decide +kernel) q
  | bl b => exact rd_isi (b := true) (.base (.bl b)) (by decide +kernel) q
  | non => exact rd_isi (b := false) (.base .non) (by decide +kernel) q
  | lst e => exact rd_isi (b := false) (.base (.lst e)) (by decide +kernel) q
  | dct e => exact rd_isi (b := false) (.base (.dK e)) (by decide +kernel) q
  | tup ds e => exact rd_isi (b := false) (.base (.tup e)) (by decide +kernel) q
theorem rd_isiBool (h : Item H v d) (q : Q (.bl (itBool d)) H) : rIsi K [v, .ty "bool"] H Q := by
  cases h with
  | int i => exact rd_isi (b := false) (.base (.int i)) (by decide +kernel) q
  | str z hz ok => exact rd_isi (b := false) (.base (.str z)) (by decide +kernel) q
  | bl b => exact rd_isi (b := true) (.base (.bl b)) (by decide +kernel) q
  | non => exact rd_isi (b := false) (.base .non) (by decide +kernel) q
  | lst e => exact rd_isi (b := false) (.base (.lst e)) (by decide +kernel) q
  | dct e => exact rd_isi (b := false) (.base (.dK e)) (by decide +kernel) q
  | tup ds e => exact rd_isi (b := false) (.base (.tup e)) (by decide +kernel) q
theorem rd_isiTup (h : Item H v d) (q : Q (.bl (itTup d)) H) : rIsi K [v, .ty "tuple"] H Q := by
  cases h with
  | int i => exact rd_isi (b := false) (.base (.int i)) (by decide +kernel) q
  | str z hz ok => exact rd_isi (b := false) (.base (.str z)) (by decide +kernel) q
  | bl b => exact rd_isi (b := false) (.base (.bl b)) (by decide +kernel) q
  | non => exact rd_isi (b := false) (.base .non) (by decide +kernel) q
  | lst e => exact rd_isi (b := false) (.base (.lst e)) (by decide +kernel) q
  | dct e => exact rd_isi (b := false) (.base (.dK e)) (by decide +kernel) q
  | tup ds e => exact rd_isi (b := true) (.base (.tup e)) (by decide +kernel) q
theorem item_int (h : Item H v d) (h1 : itInt d = true) (h2 : itBool d = false) : ∃ i, v = .int i ∧ d = .int i := by
  cases h with
  | int i => exact ⟨i, rfl, rfl⟩
  | bl b => cases h2
  | _ => cases h1
theorem item_str (h : Item H v d) (h1 : itStr d = true) : ∃ z, v = .str z ∧ d = .str z ∧ z.length ≤ 1000 ∧ Sok z := by
  cases h with
  | str z hz ok => exact ⟨z, rfl, rfl, hz, ok⟩
  | _ => cases h1
theorem Item.same {H' : Hp} (s : Same H H') (h : Item H v d) : Item H' v d := by
  cases h with
  | int i => exact .int i
  | str z hz ok => exact .str z hz ok
  | bl b => exact .bl b
  | non => exact .non
  | lst e => exact .lst (s _ _ e)
  | dct e => exact .dct (s _ _ e)
  | tup ds e => exact .tup ds (s _ _ e)
theorem items_same {H' : Hp} (s : Same H H') : ∀ {xs : List V} {ds : List Dv}, Paired (Item H) xs ds → Paired (Item H') xs ds
  | _, _, .nil => .nil
  | _, _, .cons h t => .cons (h.same s) (items_same s t)
theorem Den.same {H' : Hp} (s : Same H H') (h : Den K H v d) : Den K H' v d := by
  cases h with
  | one h n => exact .one (h.same s) n
  | tup e hi hl hd =>
    obtain ⟨es, h1, h2⟩ := hd
    exact .tup (s _ _ e) (items_same s hi) hl ⟨es, dpAll_same s es _ h1, h2⟩
theorem Den.item (h : Den K H v d) : Item H v d := by
  cases h with
  | one h n => exact h
  | tup e hi hl hd => exact .tup _ e
theorem den_tup (h : Den K H v d) (h1 : itTup d = true) : ∃ p xs ds, v = .ref p ∧ d = .tup ds ∧ H p = some (.tup xs) ∧ Paired (Item H) xs ds ∧ xs.length ≤ 10 ∧ ∃ es, DpAll K H xs es ∧ ∀ e ∈ es, e.canLay0 = true ∧ e.depth ≤ 3 := by
  cases h with
  | one h n =>
    cases d with
    | tup ds => exact absurd rfl (n ds)
    | _ => cases h1
  | tup e hi hl hd => exact ⟨_, _, _, rfl, rfl, e, hi, hl, hd⟩
theorem items_get {xs : List V} {ds : List Dv} (h : Paired (Item H) xs ds) (i : Nat) (hi : i < xs.length) : ∃ d, ds[i]? = some d ∧ Item H (xs.getD i .non) d := by
  induction h generalizing i with
  | nil => exact absurd hi (Nat.not_lt_zero _)
  | @cons x d xs ds hx ht ih =>
    cases i with
    | zero => exact ⟨d, rfl, hx⟩
    | succ i => exact ih i (Nat.lt_of_succ_lt_succ hi)
end
theorem len_cps (z : Str) : z.cps.toList.length = z.length := by simp [Str.length]
theorem okc_yes {c : Nat} (h : (!decide ([c] < ("a" : Str).cps.toList)) = true) : okc c = !decide (("z" : Str).cps.toList < [c]) := by
  have e : ("a" : Str).cps.toList = [97] := by decide +kernel
  have e2 : ("z" : Str).cps.toList = [122] := by decide +kernel
  rw [e] at h
  rw [e2]
  unfold okc
  rw [h]
  rfl
theorem okc_no {c : Nat} (h : (!decide ([c] < ("a" : Str).cps.toList)) = false) : okc c = false := by
  have e : ("a" : Str).cps.toList = [97] := by decide +kernel
  rw [e] at h
  unfold okc
  rw [h]
  rfl
theorem name_all (z : Str) : ((List.range z.cps.size).map (fun j => okc (z.cps.toList.getD j 0))).all id = z.cps.toList.all okc := by
  rw [List.all_map, ← range_all 0 z.cps.toList okc, Array.length_toList]
  rfl
theorem items_all {H : Hp} {xs : List V} {ds : List Dv} (h : Paired (Item H) xs ds) : xs.length = ds.length := Paired.length h
theorem names_str {H : Hp} : ∀ {xs : List V} {ds : List Dv}, Paired (Item H) xs ds → ds.all wName = true → ∃ zs : List Str, xs = zs.map V.str ∧ ds = zs.map Dv.str
  | _, _, .nil, _ => ⟨[], rfl, rfl⟩
  | _, _, .cons (a := x) (b := d) hx ht, h => by
    rw [List.all_cons, Bool.and_eq_true] at h
    obtain ⟨zs, rfl, rfl⟩ := names_str ht h.2
    have hs : itStr d = true := by cases d <;> first | rfl | (exact absurd h.1 (by simp [wName]))
    obtain ⟨z, rfl, rfl, _, _⟩ := item_str hx hs
    exact ⟨z :: zs, rfl, rfl⟩
theorem sgn_map (zs : List Str) : (zs.map Dv.str).map sgn = zs.map fun z => z.cps.toList := by
  rw [List.map_map]
  rfl
theorem asc_range : ∀ l : List (List Nat), (List.range (l.length - 1)).all (fun j => decide (l.getD j [] < l.getD (j + 1) [])) = asc l
  | [] => rfl
  | [_] => rfl
  | a :: b :: r => by
    have ih := asc_range (b :: r)
    show (List.range (r.length + 1)).all _ = (decide (a < b) && asc (b :: r))
    rw [← ih, List.range_succ_eq_map, List.all_cons, List.all_map]
    rfl
theorem okc_not {c : Nat} : (!okc c) = (decide ([c] < ("a" : Str).cps.toList) || decide (("z" : Str).cps.toList < [c])) := by
  have e : ("a" : Str).cps.toList = [97] := by decide +kernel
  have e2 : ("z" : Str).cps.toList = [122] := by decide +kernel
  rw [e, e2]
  unfold okc
  rw [Bool.not_and, Bool.not_not, Bool.not_not]
theorem filt_not {α : Type} (l : List α) (g : α → Bool) : (l.filter fun j => !g j).isEmpty = l.all g := by
  induction l with
  | nil => rfl
  | cons a l ih =>
    rw [List.all_cons, ← ih, List.filter_cons]
    cases g a <;> simp
def unS : V → PyData
  | .str z => .str z
  | _ => .none
theorem sok_by {z : Str} (h : (z.cps.toList.all fun c => decide (c < 1114112)) = true) : Sok z := fun c hc => of_decide_eq_true (List.all_eq_true.mp h c hc)

theorem str_app (x y : Str) : (x ++ y).cps.toList = x.cps.toList ++ y.cps.toList := TL.tl_append x y
theorem str_app_len (x y : Str) : (x ++ y).length = x.length + y.length := by
  rw [← len_cps, ← len_cps, ← len_cps, str_app, List.length_append]
theorem strs_of : ∀ {ys : List V}, (∀ y ∈ ys, ∃ z : Str, y = .str z ∧ z.length = 1 ∧ Sok z) → ∃ zs : List Str, ys = zs.map V.str ∧ ∀ z ∈ zs, z.length = 1 ∧ Sok z
  | [], _ => ⟨[], rfl, fun _ h => nomatch h⟩
  | y :: r, h => by
    obtain ⟨zs, rfl, hz⟩ := strs_of fun x hx => h x (List.mem_cons_of_mem _ hx)
    obtain ⟨z, rfl, hl⟩ := h y List.mem_cons_self
    refine ⟨z :: zs, rfl, fun x hx => ?_⟩
    rcases List.mem_cons.mp hx with rfl | hx
    · exact hl
    · exact hz x hx

theorem items_strs {H : Hp} : ∀ {zs : List Str}, (∀ z ∈ zs, z.length ≤ 1000 ∧ Sok z) → Paired (Item H) (zs.map V.str) (zs.map Dv.str)
  | [], _ => .nil
  | z :: r, h => .cons (.str z (h z List.mem_cons_self).1 (h z List.mem_cons_self).2) (items_strs fun x hx => h x (List.mem_cons_of_mem _ hx))
theorem den_strs {K : PySem.W.Frag} {H : Hp} {p : Addr} {zs : List Str} (hp : H p = some (.tup (zs.map V.str))) (h : ∀ z ∈ zs, z.length ≤ 1000 ∧ Sok z) (hl : zs.length ≤ 10) : Den K H (.ref p) (.tup (zs.map Dv.str)) := by
  refine .tup hp (items_strs h) (by rw [List.length_map]; exact hl) ⟨zs.map PyData.str, dp_allJ fun z _ => .str z, fun e he => ?_⟩
  obtain ⟨z, hz, rfl⟩ := List.mem_map.mp he
  exact ⟨(h z hz).2.ok, Nat.zero_le _⟩
theorem words_of : ∀ {ys : List V}, (∀ y ∈ ys, ∃ z : Str, y = .str z ∧ z.length ≤ 1000 ∧ Sok z) → ∃ zs : List Str, ys = zs.map V.str ∧ ∀ z ∈ zs, z.length ≤ 1000 ∧ Sok z
  | [], _ => ⟨[], rfl, fun _ h => nomatch h⟩
  | y :: r, h => by
    obtain ⟨zs, rfl, hz⟩ := words_of fun x hx => h x (List.mem_cons_of_mem _ hx)
    obtain ⟨z, rfl, hl⟩ := h y List.mem_cons_self
    refine ⟨z :: zs, rfl, fun x hx => ?_⟩
    rcases List.mem_cons.mp hx with rfl | hx
    · exact hl
    · exact hz x hx
theorem new_ne {H : Hp} {l a : Addr} (hl : H l = none) (hb : BagAt H a) : l ≠ a := fun z => by
  obtain ⟨_, _, _, e, _⟩ := hb
  rw [← z, hl] at e
  cases e
/-- a tuple of written texts and flat things -/
theorem den_tup2 {K : PySem.W.Frag} {H : Hp} {p : Addr} {xs : List V} {ds : List Dv} {es : List PyData} (hp : H p = some (.tup xs)) (hi : Paired (Item H) xs ds) (hd : DpAll K H xs es) (he : (es.all fun e => e.canLay0 && decide (e.depth ≤ 3)) = true) (hl : xs.length ≤ 10) : Den K H (.ref p) (.tup ds) :=
  .tup hp hi hl ⟨es, hd, fun e h => by
    have := List.all_eq_true.mp he e h
    rw [Bool.and_eq_true] at this
    exact ⟨this.1, of_decide_eq_true this.2⟩⟩

def six (a b c d e f : Bool) : PyData := .list [.bool a, .bool b, .bool c, .bool d, .bool e, .bool f]
theorem six_dp {K : PySem.W.Frag} {H : Hp} (a b c d e f : Bool) : DpAll K H [.bl a, .bl b, .bl c, .bl d, .bl e, .bl f] [.bool a, .bool b, .bool c, .bool d, .bool e, .bool f] :=
  .cons (.bl a) (.cons (.bl b) (.cons (.bl c) (.cons (.bl d) (.cons (.bl e) (.cons (.bl f) .nil)))))
theorem six_show (a b c d e f : Bool) : (six a b c d e f).showable = true := rfl
theorem six_len (a b c d e f : Bool) : (six a b c d e f).shown.length ≤ sizeLine := by
  revert a b c d e f
  decide +kernel
theorem in12 (i : Int) : inV (.int i) [.int 1, .int 2] = wSpace (.int i) := by
  show ((1 : Int) == i || ((2 : Int) == i || false)) = (decide (i.natAbs < 10 ^ 2000) && (decide (1 ≤ i) && decide (i ≤ 2)))
  by_cases h : 1 ≤ i ∧ i ≤ 2
  · have e : i = 1 ∨ i = 2 := by omega
    have h0 : i.natAbs < 10 ^ 2000 := Nat.lt_of_lt_of_le (show i.natAbs < 10 ^ 1 by omega) (Nat.pow_le_pow_right (by decide) (by decide))
    rw [decide_eq_true h0, decide_eq_true h.1, decide_eq_true h.2]
    rcases e with rfl | rfl <;> rfl
  · have e1 : ((1 : Int) == i) = false := by
      rw [beq_eq_false_iff_ne]
      omega
    have e2 : ((2 : Int) == i) = false := by
      rw [beq_eq_false_iff_ne]
      omega
    have e3 : (decide (1 ≤ i) && decide (i ≤ 2)) = false := by
      rw [← Bool.decide_and]
      exact decide_eq_false h
    rw [e1, e2, e3, Bool.and_false]
    rfl
theorem sq_kept {K : PySem.W.Frag} {H H' H'' : Hp} {a p : Addr} {xs : List V} (hp : H p = none) (s : Same H H') (b : But p H' H'') (h : SqL K H a xs) : SqL K H'' a xs := by
  rcases h with (h | ⟨o, h⟩) | h
  · exact Or.inl (Or.inl (b _ _ (fun z => by rw [z, hp] at h; cases h) (s _ _ h)))
  · exact Or.inl (Or.inr ⟨o, b _ _ (fun z => by rw [z, hp] at h; cases h) (s _ _ h)⟩)
  · exact Or.inr h
theorem two_le_pow {n : Nat} (h : 1 ≤ n) : (2 : Int) ≤ 10 ^ n := by
  obtain ⟨m, rfl⟩ : ∃ m, n = m + 1 := ⟨n - 1, by omega⟩
  have h1 : (1 : Nat) ≤ 10 ^ m := Nat.pow_pos (by decide)
  have h2 : (10 : Int) ^ (m + 1) = ((10 ^ (m + 1) : Nat) : Int) := by rw [Int.natCast_pow]; rfl
  rw [h2, Nat.pow_succ]
  omega
theorem wInt_int (i : Int) : wInt (.int i) = decide (i.natAbs < 10 ^ 2000) := rfl
theorem edge_gen (x : Int) (y : Nat) (h : 2 ≤ x) (n : x.natAbs = y) : decide (x.natAbs < y) = false ∧ decide ((x - 1).natAbs < y) = true ∧ decide ((-x).natAbs < y) = false ∧ decide ((1 - x).natAbs < y) = true :=
  ⟨decide_eq_false (by omega), decide_eq_true (by omega), decide_eq_false (by omega), decide_eq_true (by omega)⟩
theorem edge_at : wInt (.int (10 ^ 2000)) = false ∧ wInt (.int (10 ^ 2000 - 1)) = true ∧ wInt (.int (-(10 ^ 2000))) = false ∧ wInt (.int (1 - 10 ^ 2000)) = true := by
  rw [wInt_int, wInt_int, wInt_int, wInt_int]
  exact edge_gen (10 ^ 2000) (10 ^ 2000) (two_le_pow (Nat.le_of_ble_eq_true rfl)) (by rw [Int.natAbs_pow]; rfl)

end K01
namespace K01
open PySem PySem.Spec PyProof.Rows L2 Lay
local macro_rules | `(tactic| walk_at "rd1") => `(tactic| (first
  | with_reducible refine rd_seq ?_
  | with_reducible refine rd_next ?_
  | with_reducible refine rd_asg ?_
  | with_reducible refine rd_name ?_
  | with_reducible refine rd_ret ?_
  | with_reducible refine rd_drop ?_
  | with_reducible refine rd_ifS ?_
  | with_reducible refine rd_c ?_
  | ((with_reducible refine rd_var (v := ?vv) ?hv ?_); (case hv => exact rfl))
  | with_reducible refine rd_op ?_
  | with_reducible refine rd_un ?_
  | with_reducible refine rd_CB ?_
  | with_reducible refine rd_Cl ?_
  | with_reducible refine rd_nil ?_
  | with_reducible refine rd_cons ?_
  | with_reducible refine rd_test ?_
  | with_reducible refine rd_B ?_
  | with_reducible refine rd_bl ?_
  | with_reducible refine rd_not ?_
  | with_reducible refine rd_and ?_
  | with_reducible refine rd_or ?_
  | with_reducible refine rd_andV ?_
  | with_reducible refine rd_orV ?_
  | with_reducible refine rd_notV ?_
  | with_reducible refine rd_ifE ?_
  | with_reducible refine rd_chain ?_
  | with_reducible refine rd_tup ?_
  | with_reducible refine rd_lst ?_
  | with_reducible refine rd_add ?_
  | with_reducible refine rd_sub ?_
  | with_reducible refine rd_lt ?_
  | with_reducible refine rd_le ?_
  | with_reducible refine rd_gt ?_
  | with_reducible refine rd_ge ?_
  | with_reducible refine rd_neg ?_
  | with_reducible refine rd_eqI ?_
  | with_reducible refine rd_neI ?_
  | with_reducible refine rd_int1 ?_
  | with_reducible refine rd_int1b ?_
  | with_reducible refine rd_abs ?_
  | with_reducible refine rd_max2 ?_
  | with_reducible refine rd_min2 ?_
  | with_reducible refine rd_ltZ ?_
  | with_reducible refine rd_leZ ?_
  | with_reducible refine rd_gtZ ?_
  | with_reducible refine rd_geZ ?_
  | with_reducible refine rd_gsub ?_
  | with_reducible refine rd_for ?_
  | with_reducible refine rd_rng1 ?_
  | with_reducible refine rd_iTup ?_
  | with_reducible refine rd_iList ?_
  | with_reducible refine rd_iStr ?_
  | with_reducible refine rd_lc ?_
  | with_reducible refine rd_bits ?_
  | with_reducible refine rd_yes ?_
  | with_reducible refine rd_sl ?_
  | with_reducible refine rd_noP ?_
  | with_reducible refine rd_part ?_
  | with_reducible refine rd_i ?_
  | with_reducible refine rd_s ?_
  | with_reducible refine rd_disp1 ?_
  | with_reducible refine rd_dnew ?_
  | with_reducible refine rd_M1 ?_
  | with_reducible refine rd_isS ?_
  | with_reducible refine rd_r ?_
  | with_reducible refine iteT ?_
  | with_reducible refine iteF ?_
  | ((with_reducible refine rd_new ?hn ?_); (case hn => exact Nat.le_of_ble_eq_true rfl))
  | ((with_reducible refine rd_mod ?hm ?_); (case hm => decide))
  | ((with_reducible refine rd_fdivW ?hm ?_); (case hm => exact wide_div (by decide) (b := 20) (by decide) (by decide) (by decide)))
  | ((with_reducible refine rd_mul ?hm ?_); (case hm => first | exact mul_lit ⟨by decide, by decide⟩ | exact mul_rit ⟨by decide, by decide⟩ | exact mul_lit ⟨by omega, by omega⟩ | exact mul_rit ⟨by omega, by omega⟩))
  | ((with_reducible refine rd_pow ?hm ?_); (case hm => exact ⟨by decide, by decide, by decide⟩))))
local macro_rules | `(tactic| walk_at "rd") => `(tactic| (repeat (walk_at "rd1")))
local macro_rules | `(tactic| walk_at "hp") => `(tactic| (first | assumption | exact upd_same | (refine up_old (by assumption) ?_; walk_at "hp")))
section
variable {P : Program} {w : World} {K : PySem.W.Frag} {mg : Str → Option Value} {base : Heap}
theorem ok_least_longer (B : Bi mg) (D : DefAt K mg "_least_longer" s_least_longer ["digits"])  : Cal P w K mg base "_least_longer" 1 ["digits"] (spLong) := by
  refine cal_of D sc_least_longer (fun vs H Q E h => ?_) (fun f cdv A outer s H vs Q E hq hr h => ?_)
  · obtain ⟨n, rfl, _⟩ := h; rfl
  · have hu := hr.units
    replace hq := Quiet.deeper hq (envOfC "_least_longer" (defScope s_least_longer) s.heap.objs.size f cdv)
    skip
    refine ⟨_, (pss_cons (ps_set (i := 1) sc_least_longer.nd rfl (by first | exact Or.inl rfl | exact Or.inr rfl) pe_int)
        (pss_cons (ps_for PassesOwn.never (by rfl) (pi_range1 (by rfl) B.b_range (pa_cons (pe_op op_fdivW (pv 0) pe_int) pa_nil)) (pg_name (i := 2) sc_least_longer.nd rfl (by first | exact Or.inl rfl | exact Or.inr rfl)) (pss_one (ps_set (i := 1) sc_least_longer.nd rfl (by first | exact Or.inl rfl | exact Or.inr rfl) (pe_op op_mulW (pv 1) (pe_op op_pow pe_int pe_int)))))
        (pss_cons (ps_for PassesOwn.never (by rfl) (pi_range1 (by rfl) B.b_range (pa_cons (pe_op op_sub (pv 0) (pe_op op_mul (pe_op op_fdivW (pv 0) pe_int) pe_int)) pa_nil)) (pg_name (i := 2) sc_least_longer.nd rfl (by first | exact Or.inl rfl | exact Or.inr rfl)) (pss_one (ps_set (i := 1) sc_least_longer.nd rfl (by first | exact Or.inl rfl | exact Or.inr rfl) (pe_op op_mulW (pv 1) pe_int))))
        (pss_one (ps_ret (pv 1)))))), ?_⟩
    obtain ⟨n, rfl, hn, k⟩ := h
    refine rd_at [some (.int n), none, none] rfl ?_
    walk_at "rd"
    refine ⟨_, rfl, by omega, by omega, ?_⟩
    have e1 : ((n : Int) / 20).toNat = n / 20 := by omega
    rw [e1]
    refine for_rng (fun i σ' H' => ∃ v, σ' = [some (.int n), some (.int (10 ^ (20 * i))), v] ∧ H' = H) ⟨none, rfl, rfl⟩ ?_ ?_
    · rintro i σ' H' hi ⟨v, rfl, rfl⟩
      walk_at "rd"
      refine rd_mulW (by simpa using pow10_mul (a := 20 * i) (b := 20) (by omega)) ?_
      walk_at "rd"
      refine ⟨some (.int (0 + (i : Int))), ?_, rfl⟩
      have e : (10 : Int) ^ (20 * i) * 10 ^ (20 : Int).toNat = 10 ^ (20 * (i + 1)) := by
        rw [show (20 : Int).toNat = 20 from rfl, ← Int.pow_add]
        rfl
      rw [e]
      rfl
    rintro σ' H' ⟨v, rfl, rfl⟩
    walk_at "rd"
    refine ⟨_, rfl, by omega, by omega, ?_⟩
    have e2 : ((n : Int) - (n : Int) / 20 * 20).toNat = n % 20 := by omega
    rw [e2]
    refine for_rng (fun i σ'' H'' => ∃ v, σ'' = [some (.int n), some (.int (10 ^ (20 * (n / 20) + i))), v] ∧ H'' = H') ⟨_, rfl, rfl⟩ ?_ ?_
    · rintro i σ'' H'' hi ⟨v, rfl, rfl⟩
      walk_at "rd"
      refine rd_mulW (by simpa using pow10_mul (a := 20 * (n / 20) + i) (b := 1) (by omega)) ?_
      walk_at "rd"
      refine ⟨some (.int (0 + (i : Int))), ?_, rfl⟩
      have e : (10 : Int) ^ (20 * (n / 20) + i) * 10 = 10 ^ (20 * (n / 20) + (i + 1)) := (Int.pow_succ _ _).symm
      rw [e]
      rfl
    rintro σ'' H'' ⟨v, rfl, rfl⟩
    walk_at "rd"
    have e3 : 20 * (n / 20) + n % 20 = n := by omega
    rw [e3]
    exact k
end
section
variable {P : Program} {w : World} {K : PySem.W.Frag} {mg : Str → Option Value} {base : Heap}
theorem okis_name (B : Bi mg) (D : DefAt K mg "is_name" sis_name ["value"])  : Cal P w K mg base "is_name" 1 ["value"] (spName) := by
  refine cal_of D scis_name (fun vs H Q E h => ?_) (fun f cdv A outer s H vs Q E hq hr h => ?_)
  · obtain ⟨v, d, rfl, _⟩ := h; rfl
  · have hu := hr.units
    replace hq := Quiet.deeper hq (envOfC "is_name" (defScope sis_name) s.heap.objs.size f cdv)
    obtain ⟨t_MAX_LETTERS, k_MAX_LETTERS⟩ := B.c_MAX_LETTERS
    skip
    refine ⟨_, (pss_cons (ps_if (PW.pt (pw_or (pt_not (pt_val (pe_callB (r := rIsi K) (by exact call_isi) (by rfl) B.b_isinstance (by decide +kernel) (pa_cons (pv 0) (pa_cons (pe_bltn (v := .ty "str") (u := .type "str") (by rfl) B.b_str (by decide +kernel) rfl) pa_nil))))) (pw_or1 (pt_not (pt_chain op_le op_le pe_int (pe_callB q_lenZ (by rfl) B.b_len (by decide +kernel) (pa_cons (pv 0) pa_nil)) (pe_glob (v := .int 4) (by rfl) k_MAX_LETTERS ⟨_, rfl⟩)))))) (pss_one (ps_ret pe_bl)) pss_nil)
        (pss_one (ps_ret (pe_callB (r := rAll K) (by exact (cr_all rfl)) (by rfl) B.b_all (by decide +kernel) (pa_cons (pe_lc (own := [("letter", 1)]) (g := gName 1) (tt := tYes) (by rfl) scis_name.nd (pi_str (pv 0)) (blkOk_by (own := [("letter", 1)]) (N := ["value", "letter"]) (sc := defScope sis_name) (by decide +kernel)) (fun _ _ _ _ _ => (pg_name (i := 1) scis_name.nd rfl (by first | exact Or.inl rfl | exact Or.inr rfl))) (fun _ _ _ _ _ => pts_nil) (fun _ _ _ _ _ => (pe_chain q_leZ q_leZ pe_str (pv 1) pe_str))) pa_nil))))), ?_⟩
    obtain ⟨v, d, rfl, hv, k⟩ := h
    refine rd_at [some v, none] rfl ?_
    walk_at "rd"
    refine rd_isiStr hv ?_
    walk_at "rd"
    refine rd_ifb (fun h1 => ?_) (fun h1 => ?_)
    · walk_at "rd"
      rw [show wName d = false by cases d <;> first | rfl | (simp [itStr] at h1)] at k
      exact k _ (Same.refl _)
    · obtain ⟨z, rfl, rfl, hz, _⟩ := item_str hv (by simpa using h1)
      walk_at "rd"
      refine rd_lenS (Nat.le_trans hz (by decide)) ?_
      walk_at "rd"
      refine rd_ite (fun h2 => ?_) (fun h2 => ?_)
      · walk_at "rd"
        refine rd_iteN (fun h3 => ?_) (fun h3 => ?_)
        · walk_at "rd"
          rw [name_long (show ¬ (1 ≤ z.length ∧ z.length ≤ 4) by omega)] at k
          exact k _ (Same.refl _)
        · walk_at "rd"
          intro E hE
          refine lc_same (wk_str z) (b := fun _ => true) (f := fun j => .bl (okc (z.cps.toList.getD j 0))) (by have := len_cps z; rw [Array.length_toList] at this; omega) hE (fun _ _ => trivial) (fun j _ H' _ R kk => rd_yes (kk H' (Same.refl _))) ?_ ?_
          · intro j hj _ H' hs R kk
            walk_at "rd"
            refine rd_ifb (fun a1 => ?_) (fun a1 => ?_)
            · walk_at "rd"
              rw [← okc_yes a1]
              exact kk _ (Same.refl _)
            · have kk := kk _ (Same.refl _)
              rw [okc_no a1] at kk
              exact kk
          · intro H' hs hl
            rw [filt_yes, show (fun j => V.bl (okc (z.cps.toList.getD j 0))) = V.bl ∘ (fun j => okc (z.cps.toList.getD j 0)) from rfl, ← List.map_map] at hl
            walk_at "rd"
            refine rd_all (SqL.of hl) ?_
            rw [name_all]
            have k := k _ hs
            rw [wName_str, decide_eq_true (show 1 ≤ z.length ∧ z.length ≤ 4 by omega)] at k
            exact k
      · walk_at "rd"
        rw [name_long (show ¬ (1 ≤ z.length ∧ z.length ≤ 4) by omega)] at k
        exact k _ (Same.refl _)
end
section
variable {P : Program} {w : World} {K : PySem.W.Frag} {mg : Str → Option Value} {base : Heap}
theorem okis_ascending (B : Bi mg) (D : DefAt K mg "is_ascending" sis_ascending ["values"])  : Cal P w K mg base "is_ascending" 1 ["values"] (spAsc) := by
  refine cal_of D scis_ascending (fun vs H Q E h => ?_) (fun f cdv A outer s H vs Q E hq hr h => ?_)
  · obtain ⟨p, zs, rfl, _⟩ := h; rfl
  · have hu := hr.units
    replace hq := Quiet.deeper hq (envOfC "is_ascending" (defScope sis_ascending) s.heap.objs.size f cdv)
    skip
    refine ⟨_, (pss_one (ps_ret (pe_callB (r := rAll K) (by exact (cr_all rfl)) (by rfl) B.b_all (by decide +kernel) (pa_cons (pe_lc (own := [("at", 1)]) (g := gName 1) (tt := tYes) (by rfl) scis_ascending.nd (pi_range1 (by rfl) B.b_range (pa_cons (pe_op op_sub (pe_callB (r := rLenQ K) (by exact q_lenQ) (by rfl) B.b_len (by decide +kernel) (pa_cons (pv 0) pa_nil)) pe_int) pa_nil)) (blkOk_by (own := [("at", 1)]) (N := ["values", "at"]) (sc := defScope sis_ascending) (by decide +kernel)) (fun _ _ _ _ _ => (pg_name (i := 1) scis_ascending.nd rfl (by first | exact Or.inl rfl | exact Or.inr rfl))) (fun _ _ _ _ _ => pts_nil) (fun _ _ _ _ _ => (pe_cmpR q_ltZ (pe_ix (r := rIxT K) (by exact ix_tup) (pv 0) (pv 1) (fun _ _ => rfl)) (pe_ix (r := rIxT K) (by exact ix_tup) (pv 0) (pe_op op_add (pv 1) pe_int) (fun _ _ => rfl)) (nomark _)))) pa_nil)))), ?_⟩
    obtain ⟨p, zs, rfl, hp, hl, k⟩ := h
    refine rd_at [some (.ref p), none] rfl ?_
    walk_at "rd"
    refine rd_lenT (SqT.of hp) ?_
    walk_at "rd"
    rw [List.length_map]
    refine ⟨_, rfl, by omega, by omega, ?_⟩
    rw [show ((zs.length : Int) - 1).toNat = zs.length - 1 by omega]
    intro E hE
    refine lc_same (wk_rng (zs.length - 1)) (b := fun _ => true) (f := fun j => .bl (decide ((zs.map fun z => z.cps.toList).getD j [] < (zs.map fun z => z.cps.toList).getD (j + 1) []))) (by omega) hE (fun _ _ => trivial) (fun j _ H' _ R kk => rd_yes (kk H' (Same.refl _))) ?_ ?_
    · intro j hj _ H' hs R kk
      walk_at "rd"
      have g : ∀ i (h : i < zs.length), (zs.map V.str)[i]? = some (V.str zs[i]) := fun i h => by rw [List.getElem?_map, List.getElem?_eq_getElem h]; rfl
      refine rd_ixT (SqT.of (hs _ _ hp)) (at_z (v := V.str (zs[j]'(by omega))) (by omega) ?_) ?_
      · rw [show (0 + (j : Int)).toNat = j by omega]
        exact g j (by omega)
      walk_at "rd"
      refine rd_ixT (SqT.of (hs _ _ hp)) (at_z (v := V.str (zs[j + 1]'(by omega))) (by omega) ?_) ?_
      · rw [show (0 + (j : Int) + 1).toNat = j + 1 by omega]
        exact g (j + 1) (by omega)
      walk_at "rd"
      have kk := kk _ (Same.refl _)
      have g2 : ∀ i (h : i < zs.length), (zs.map fun z => z.cps.toList).getD i [] = zs[i].cps.toList := fun i h => by rw [List.getD_eq_getElem?_getD, List.getElem?_map, List.getElem?_eq_getElem h]; rfl
      rw [g2 j (by omega), g2 (j + 1) (by omega)] at kk
      exact kk
    · intro H' hs hl2
      rw [filt_yes, show (fun j => V.bl (decide ((zs.map fun z => z.cps.toList).getD j [] < (zs.map fun z => z.cps.toList).getD (j + 1) []))) = V.bl ∘ (fun j => decide ((zs.map fun z => z.cps.toList).getD j [] < (zs.map fun z => z.cps.toList).getD (j + 1) [])) from rfl, ← List.map_map] at hl2
      walk_at "rd"
      refine rd_all (SqL.of hl2) ?_
      rw [List.all_map]
      have e := asc_range (zs.map fun z => z.cps.toList)
      rw [List.length_map] at e
      have k := k _ hs
      rw [← e] at k
      exact k
end
section
variable {P : Program} {w : World} {K : PySem.W.Frag} {mg : Str → Option Value} {base : Heap}
theorem ok_law_bag (B : Bi mg) (D : DefAt K mg "_law_bag" s_law_bag ["_law_script", "_law_at"])  : Cal P w K mg base "_law_bag" 1 ["_law_script", "_law_at"] (spBag K) := by
  refine cal_of D sc_law_bag (fun vs H Q E h => ?_) (fun f cdv A outer s H vs Q E hq hr h => ?_)
  · obtain ⟨a, ns, i, rfl, _⟩ := h; rfl
  · have hu := hr.units
    replace hq := Quiet.deeper hq (envOfC "_law_bag" (defScope s_law_bag) s.heap.objs.size f cdv)
    skip
    refine ⟨_, (pss_cons (ps_set (i := 2) sc_law_bag.nd rfl (by first | exact Or.inl rfl | exact Or.inr rfl) (pe_ifExp (pt_cmpR op_lt (pv 1) (pe_callB (r := rLenQ K) (by exact q_lenQ) (by rfl) B.b_len (by decide +kernel) (pa_cons (pv 0) pa_nil)) (nomark _)) (pe_ix (r := rIxL K) (by exact ix_list) (pv 0) (pv 1) (fun _ _ => rfl)) (pe_op op_add (pe_op op_add (pe_callB (r := rSum K) (by exact (cr_sum rfl)) (by rfl) B.b_sum (by decide +kernel) (pa_cons (pe_slice (r := rSlL K) (by exact sl_list) (pv 0) po_none (po_some pe_int)) pa_nil)) (pe_op op_mul pe_int (pv 1))) pe_int)))
        (pss_cons (ps_set (i := 3) sc_law_bag.nd rfl (by first | exact Or.inl rfl | exact Or.inr rfl) (pe_op op_mod (pe_callTy q_int (by rfl) B.b_int (by decide +kernel) (pa_cons (pe_callB q_abs (by rfl) B.b_abs (by decide +kernel) (pa_cons (pv 2) pa_nil)) pa_nil)) (pe_op op_powW (pe_op op_pow pe_int pe_int) pe_int)))
        (pss_cons (ps_set (i := 4) sc_law_bag.nd rfl (by first | exact Or.inl rfl | exact Or.inr rfl) (pe_op op_add (pe_op op_add (pe_op op_add (pe_op op_mul (pe_op op_mod (pe_callTy q_int (by rfl) B.b_int (by decide +kernel) (pa_cons (pv 3) pa_nil)) pe_int) pe_int) (pe_op op_mul pe_int (pv 1))) (pe_op op_mul pe_int (pe_callTy q_int (by rfl) B.b_int (by decide +kernel) (pa_cons (pe_cmpR op_lt (pv 2) pe_int (nomark _)) pa_nil)))) pe_int))
        (pss_one (ps_ret (pe_lst (pa_cons (pe_callB (q_max2 rfl) (by rfl) B.b_max (by decide +kernel) (pa_cons pe_int (pa_cons (pe_op op_sub (pv 3) (pe_op op_pow pe_int pe_int)) pa_nil))) (pa_cons (pe_op op_mod (pe_callTy q_int (by rfl) B.b_int (by decide +kernel) (pa_cons (pv 4) pa_nil)) pe_int) (pa_cons pe_int pa_nil))))))))), ?_⟩
    obtain ⟨a, ns, i, rfl, hS, k⟩ := h
    refine rd_at [some (.ref a), some (.int i), none, none, none] rfl ?_
    refine rd_seq (rd_asg ?_)
    refine rd_with (fun v H1 => ∃ z : Int, v = .int z ∧ Same H H1) (fun Q' k' => ?_) ?_
    · walk_at "rd"
      refine rd_lenL hS ?_
      walk_at "rd"
      refine rd_ite (fun hi => ?_) (fun hi => ?_)
      · rw [List.length_map] at hi
        have hi2 : i < ns.length := by omega
        walk_at "rd"
        refine rd_ixL hS (at_nat (j := i) (v := .int ns[i]) (by rw [List.getElem?_map, List.getElem?_eq_getElem hi2]; rfl)) ?_
        exact k' _ _ ⟨_, rfl, Same.refl H⟩
      · walk_at "rd"
        refine rd_slL hS (fun p hp => ?_)
        obtain ⟨ms, hms⟩ := cut_ints ns none (some 1)
        rw [hms]
        walk_at "rd"
        refine rd_sum (SqL.of upd_same) ?_
        walk_at "rd"
        exact k' _ _ ⟨_, rfl, fun b o e => up_old hp e⟩
    rintro v H1 ⟨z, rfl, hs⟩
    walk_at "rd"
    refine rd_powW ⟨by decide, by decide +kernel⟩ ?_
    refine rd_mod (by decide +kernel) ?_
    have g1 := Int.emod_nonneg (if z < 0 then -z else z) (show ((10 : Int) ^ (47 : Int).toNat) ^ (13 : Int).toNat ≠ 0 by decide +kernel)
    generalize (if z < 0 then -z else z) % ((10 : Int) ^ (47 : Int).toNat) ^ (13 : Int).toNat = g at g1
    walk_at "rd"
    have m1 := Int.emod_nonneg g (show (2305843009213693669 : Int) ≠ 0 by decide)
    have m2 := Int.emod_lt_of_pos g (show (0 : Int) < 2305843009213693669 by decide)
    generalize g % 2305843009213693669 = m at m1 m2
    walk_at "rd"
    intro p hp
    refine k p _ (hs.free hp) (fun b o e => up_old hp (hs b o e)) ⟨_, _, _, upd_same, ?_, Int.emod_nonneg _ (by decide), by decide⟩
    split <;> omega
end
section
variable {P : Program} {w : World} {K : PySem.W.Frag} {mg : Str → Option Value} {base : Heap}
theorem ok_law_draw (B : Bi mg) (D : DefAt K mg "_law_draw" s_law_draw ["_law_bag_here", "_law_total"])  : Cal P w K mg base "_law_draw" 1 ["_law_bag_here", "_law_total"] (spDraw) := by
  refine cal_of D sc_law_draw (fun vs H Q E h => ?_) (fun f cdv A outer s H vs Q E hq hr h => ?_)
  · obtain ⟨a, n, rfl, _⟩ := h; rfl
  · have hu := hr.units
    replace hq := Quiet.deeper hq (envOfC "_law_draw" (defScope s_law_draw) s.heap.objs.size f cdv)
    skip
    refine ⟨_, (pss_cons (ps_if (pt_cmpR op_gt (pe_ix (r := rIxL K) (by exact ix_list) (pv 0) pe_int (fun _ _ => rfl)) pe_int (nomark _)) (pss_cons (ps_set (i := 2) sc_law_draw.nd rfl (by first | exact Or.inl rfl | exact Or.inr rfl) (pe_op op_mod (pe_callTy q_int (by rfl) B.b_int (by decide +kernel) (pa_cons (pe_ix (r := rIxL K) (by exact ix_list) (pv 0) pe_int (fun _ _ => rfl)) pa_nil)) (pv 1)))
        (pss_cons (ps_asg (pe_op op_fdivW (pe_ix (r := rIxL K) (by exact ix_list) (pv 0) pe_int (fun _ _ => rfl)) (pv 1)) (pg_sub (pv 0) pe_int set_list))
        (pss_one (ps_ret (pv 2))))) pss_nil)
        (pss_cons (ps_asg (pe_op op_add (pe_ix (r := rIxL K) (by exact ix_list) (pv 0) pe_int (fun _ _ => rfl)) pe_int) (pg_sub (pv 0) pe_int set_list))
        (pss_cons (ps_set (i := 3) sc_law_draw.nd rfl (by first | exact Or.inl rfl | exact Or.inr rfl) (pe_op op_mod (pe_callTy q_int (by rfl) B.b_int (by decide +kernel) (pa_cons (pe_op op_add (pe_ix (r := rIxL K) (by exact ix_list) (pv 0) pe_int (fun _ _ => rfl)) (pe_op op_mul pe_int (pe_ix (r := rIxL K) (by exact ix_list) (pv 0) pe_int (fun _ _ => rfl)))) pa_nil)) pe_int))
        (pss_cons (ps_set (i := 4) sc_law_draw.nd rfl (by first | exact Or.inl rfl | exact Or.inr rfl) (pe_op op_add (pe_op op_mul (pe_op op_mod (pe_callTy q_int (by rfl) B.b_int (by decide +kernel) (pa_cons (pe_op op_mul (pv 3) (pv 3)) pa_nil)) pe_int) (pv 3)) (pe_op op_mul pe_int (pe_ix (r := rIxL K) (by exact ix_list) (pv 0) pe_int (fun _ _ => rfl)))))
        (pss_one (ps_ret (pe_op op_mod (pe_callTy q_int (by rfl) B.b_int (by decide +kernel) (pa_cons (pe_op op_fdivW (pe_op op_mod (pe_callTy q_int (by rfl) B.b_int (by decide +kernel) (pa_cons (pv 4) pa_nil)) pe_int) pe_int) pa_nil)) (pv 1)))))))), ?_⟩
    obtain ⟨a, n, rfl, ⟨g, m, c, ha, hg, hm, hc⟩, h1, h2, k⟩ := h
    refine rd_at [some (.ref a), some (.int n), none, none, none] rfl ?_
    have n0 : (0 : Int) < n := by omega
    walk_at "rd"
    refine rd_ixL (SqL.of ha) (at_nat (j := 0) rfl) ?_
    walk_at "rd"
    refine rd_ite (fun h0 => ?_) (fun h0 => ?_)
    · walk_at "rd"
      refine rd_ixL (SqL.of ha) (at_nat (j := 0) rfl) ?_
      walk_at "rd"
      refine rd_mod n0 ?_
      walk_at "rd"
      refine rd_ixL (SqL.of ha) (at_nat (j := 0) rfl) ?_
      walk_at "rd"
      refine rd_fdivW (wide_div n0 (b := 20) (by omega) (by decide) (by decide)) ?_
      walk_at "rd"
      refine rd_setL ha (j := 0) rfl rfl ?_
      walk_at "rd"
      refine k _ _ (Int.emod_nonneg _ (by omega)) (Int.emod_lt_of_pos _ n0) But.upd ⟨_, _, _, upd_same, Int.ediv_nonneg hg (by omega), hm, hc⟩
    · walk_at "rd"
      refine rd_ixL (SqL.of ha) (at_nat (j := 2) rfl) ?_
      walk_at "rd"
      refine rd_setL ha (j := 2) rfl rfl ?_
      walk_at "rd"
      have ha2 : upd H a (.lst [.int g, .int m, .int (c + 1)]) a = some (.lst [.int g, .int m, .int (c + 1)]) := upd_same
      refine rd_ixL (SqL.of ha2) (at_nat (j := 1) rfl) ?_
      walk_at "rd"
      refine rd_ixL (SqL.of ha2) (at_nat (j := 2) rfl) ?_
      walk_at "rd"
      have o1 := Int.emod_nonneg (m + 1048613 * (c + 1)) (show (2305843009213693951 : Int) ≠ 0 by decide)
      have o2 := Int.emod_lt_of_pos (m + 1048613 * (c + 1)) (show (0 : Int) < 2305843009213693951 by decide)
      generalize (m + 1048613 * (c + 1)) % 2305843009213693951 = one at o1 o2
      walk_at "rd"
      refine rd_ixL (SqL.of ha2) (at_nat (j := 2) rfl) ?_
      walk_at "rd"
      refine rd_mod n0 ?_
      exact k _ _ (Int.emod_nonneg _ (by omega)) (Int.emod_lt_of_pos _ n0) But.upd ⟨_, _, _, ha2, hg, hm, by omega⟩
end
section
variable {P : Program} {w : World} {K : PySem.W.Frag} {mg : Str → Option Value} {base : Heap}
theorem ok_law_power (B : Bi mg) (D : DefAt K mg "_law_power" s_law_power ["_law_many"])  : Cal P w K mg base "_law_power" 1 ["_law_many"] (spPower) := by
  refine cal_of D sc_law_power (fun vs H Q E h => ?_) (fun f cdv A outer s H vs Q E hq hr h => ?_)
  · obtain ⟨n, rfl, _⟩ := h; rfl
  · have hu := hr.units
    replace hq := Quiet.deeper hq (envOfC "_law_power" (defScope s_law_power) s.heap.objs.size f cdv)
    skip
    refine ⟨_, (pss_cons (ps_set (i := 1) sc_law_power.nd rfl (by first | exact Or.inl rfl | exact Or.inr rfl) pe_int)
        (pss_cons (ps_for PassesOwn.never (by rfl) (pi_range1 (by rfl) B.b_range (pa_cons (pe_op op_fdivW (pv 0) pe_int) pa_nil)) (pg_name (i := 2) sc_law_power.nd rfl (by first | exact Or.inl rfl | exact Or.inr rfl)) (pss_one (ps_set (i := 1) sc_law_power.nd rfl (by first | exact Or.inl rfl | exact Or.inr rfl) (pe_op op_mulW (pv 1) (pe_op op_pow pe_int pe_int)))))
        (pss_cons (ps_for PassesOwn.never (by rfl) (pi_range1 (by rfl) B.b_range (pa_cons (pe_op op_sub (pv 0) (pe_op op_mul (pe_op op_fdivW (pv 0) pe_int) pe_int)) pa_nil)) (pg_name (i := 2) sc_law_power.nd rfl (by first | exact Or.inl rfl | exact Or.inr rfl)) (pss_one (ps_set (i := 1) sc_law_power.nd rfl (by first | exact Or.inl rfl | exact Or.inr rfl) (pe_op op_mulW (pv 1) pe_int))))
        (pss_one (ps_ret (pv 1)))))), ?_⟩
    obtain ⟨n, rfl, hn, k⟩ := h
    refine rd_at [some (.int n), none, none] rfl ?_
    walk_at "rd"
    refine ⟨_, rfl, by omega, by omega, ?_⟩
    have e1 : ((n : Int) / 50).toNat = n / 50 := by omega
    rw [e1]
    refine for_rng (fun i σ' H' => ∃ v, σ' = [some (.int n), some (.int (10 ^ (50 * i))), v] ∧ H' = H) ⟨none, rfl, rfl⟩ ?_ ?_
    · rintro i σ' H' hi ⟨v, rfl, rfl⟩
      walk_at "rd"
      refine rd_mulW (pow10_mul (by show 50 * i + 50 ≤ 100000; omega)) ?_
      walk_at "rd"
      refine ⟨some (.int (0 + (i : Int))), ?_, rfl⟩
      have e : (10 : Int) ^ (50 * i) * 10 ^ (50 : Int).toNat = 10 ^ (50 * (i + 1)) := by
        rw [show (50 : Int).toNat = 50 from rfl, ← Int.pow_add]
        rfl
      rw [e]
      rfl
    rintro σ' H' ⟨v, rfl, rfl⟩
    walk_at "rd"
    refine ⟨_, rfl, by omega, by omega, ?_⟩
    have e2 : ((n : Int) - (n : Int) / 50 * 50).toNat = n % 50 := by omega
    rw [e2]
    refine for_rng (fun i σ'' H'' => ∃ v, σ'' = [some (.int n), some (.int (10 ^ (50 * (n / 50) + i))), v] ∧ H'' = H') ⟨_, rfl, rfl⟩ ?_ ?_
    · rintro i σ'' H'' hi ⟨v, rfl, rfl⟩
      walk_at "rd"
      refine rd_mulW (by simpa using pow10_mul (a := 50 * (n / 50) + i) (b := 1) (by omega)) ?_
      walk_at "rd"
      refine ⟨some (.int (0 + (i : Int))), ?_, rfl⟩
      have e : (10 : Int) ^ (50 * (n / 50) + i) * 10 = 10 ^ (50 * (n / 50) + (i + 1)) := (Int.pow_succ _ _).symm
      rw [e]
      rfl
    rintro σ'' H'' ⟨v, rfl, rfl⟩
    walk_at "rd"
    have e3 : 50 * (n / 50) + n % 50 = n := by omega
    rw [e3]
    exact k
end
section
variable {P : Program} {w : World} {K : PySem.W.Frag} {mg : Str → Option Value} {base : Heap}
theorem ok_law_is_word (B : Bi mg) (D : DefAt K mg "_law_is_word" s_law_is_word ["_law_value"])  : Cal P w K mg base "_law_is_word" 1 ["_law_value"] (spName) := by
  refine cal_of D sc_law_is_word (fun vs H Q E h => ?_) (fun f cdv A outer s H vs Q E hq hr h => ?_)
  · obtain ⟨v, d, rfl, _⟩ := h; rfl
  · have hu := hr.units
    replace hq := Quiet.deeper hq (envOfC "_law_is_word" (defScope s_law_is_word) s.heap.objs.size f cdv)
    skip
    refine ⟨_, (pss_cons (ps_if (PW.pt (pw_or (pt_not (pt_val (pe_callB (r := rIsi K) (by exact call_isi) (by rfl) B.b_isinstance (by decide +kernel) (pa_cons (pv 0) (pa_cons (pe_bltn (v := .ty "str") (u := .type "str") (by rfl) B.b_str (by decide +kernel) rfl) pa_nil))))) (pw_or (pt_cmpR op_lt (pe_callB q_lenZ (by rfl) B.b_len (by decide +kernel) (pa_cons (pv 0) pa_nil)) pe_int (nomark _)) (pw_or1 (pt_cmpR op_gt (pe_callB q_lenZ (by rfl) B.b_len (by decide +kernel) (pa_cons (pv 0) pa_nil)) pe_int (nomark _)))))) (pss_one (ps_ret pe_bl)) pss_nil)
        (pss_one (ps_ret (pe_cmpR (r := rEqD K) (by exact (op_eqD hu)) (pe_lc (own := [("_law_sign", 1)]) (g := gName 1) (by rfl) sc_law_is_word.nd (pi_str (pv 0)) (blkOk_by (own := [("_law_sign", 1)]) (N := ["_law_value", "_law_sign"]) (sc := defScope s_law_is_word) (by decide +kernel)) (fun _ _ _ _ _ => (pg_name (i := 1) sc_law_is_word.nd rfl (by first | exact Or.inl rfl | exact Or.inr rfl))) (fun _ _ _ _ _ => (pts_one (PW.pt (pw_or (pt_cmpR q_ltZ (pv 1) pe_str (nomark _)) (pw_or1 (pt_cmpR q_gtZ (pv 1) pe_str (nomark _))))))) (fun _ _ _ _ _ => (pv 1))) (pe_lst pa_nil) (nomark _))))), ?_⟩
    obtain ⟨v, d, rfl, hv, k⟩ := h
    refine rd_at [some v, none] rfl ?_
    walk_at "rd"
    refine rd_isiStr hv ?_
    walk_at "rd"
    refine rd_ifb (fun h1 => ?_) (fun h1 => ?_)
    · walk_at "rd"
      rw [show wName d = false by cases d <;> first | rfl | (simp [itStr] at h1)] at k
      exact k _ (Same.refl _)
    · obtain ⟨z, rfl, rfl, hz, ok⟩ := item_str hv (by simpa using h1)
      walk_at "rd"
      refine rd_lenS (Nat.le_trans hz (by decide)) ?_
      walk_at "rd"
      refine rd_ite (fun h2 => ?_) (fun h2 => ?_)
      · walk_at "rd"
        rw [name_long (show ¬ (1 ≤ z.length ∧ z.length ≤ 4) by omega)] at k
        exact k _ (Same.refl _)
      · walk_at "rd"
        refine rd_lenS (Nat.le_trans hz (by decide)) ?_
        walk_at "rd"
        refine rd_ite (fun h3 => ?_) (fun h3 => ?_)
        · walk_at "rd"
          rw [name_long (show ¬ (1 ≤ z.length ∧ z.length ≤ 4) by omega)] at k
          exact k _ (Same.refl _)
        · walk_at "rd"
          intro E hE
          refine lc_same (wk_str z) (b := fun j => !okc (z.cps.toList.getD j 0)) (f := fun j => .str ⟨#[z.cps.toList.getD j 0]⟩) (by have := len_cps z; rw [Array.length_toList] at this; omega) hE (fun _ _ => trivial) ?_ ?_ ?_
          · intro j hj H' hs R kk
            have kk := kk _ (Same.refl _)
            walk_at "rd"
            rw [okc_not] at kk
            refine rd_ifb (fun a1 => ?_) (fun a1 => ?_)
            · walk_at "rd"
              rw [show decide ([z.cps.toList.getD j 0] < ("a" : Str).cps.toList) = true from a1] at kk
              exact kk
            · walk_at "rd"
              rw [show decide ([z.cps.toList.getD j 0] < ("a" : Str).cps.toList) = false from a1] at kk
              exact kk
          · intro j hj _ H' hs R kk
            walk_at "rd"
            exact kk _ (Same.refl _)
          · intro H' hs hl
            walk_at "rd"
            intro F hF
            have hE2 : upd H' F (.lst []) E = _ := up_old hF hl
            refine rd_eqD (.lst (SqL.of hE2) (dp_all (f := unS) ?_)) (.lst (SqL.of upd_same) .nil) (shaped_list ?_) (by decide +kernel) ?_
            · intro x hx
              obtain ⟨j, hj, rfl⟩ := List.mem_map.mp hx
              exact .str _
            · intro d hd
              rw [List.map_map] at hd
              obtain ⟨j, hj, rfl⟩ := List.mem_map.mp hd
              have hj2 : j < z.cps.toList.length := by
                have := List.mem_range.mp (List.mem_filter.mp hj).1
                rwa [Array.length_toList]
              refine ⟨(sok_one (ok _ ?_)).ok, rfl⟩
              rw [List.getD_eq_getElem?_getD, List.getElem?_eq_getElem hj2]
              exact List.getElem_mem hj2
            · rw [eqv_nil]
              have k := k (upd H' F (.lst [])) (hs.trans (fun b o e => up_old hF e))
              rw [wName_str, decide_eq_true (show 1 ≤ z.length ∧ z.length ≤ 4 by omega), Bool.true_and, ← range_all 0] at k
              rw [List.isEmpty_map, List.isEmpty_map, filt_not, ← Array.length_toList]
              exact k
end
section
variable {P : Program} {w : World} {K : PySem.W.Frag} {mg : Str → Option Value} {base : Heap}
theorem okhas_digits (B : Bi mg) (D : DefAt K mg "has_digits" shas_digits ["number", "most"]) (c_least_longer : Cal P w K mg base "_least_longer" 1 ["digits"] (spLong)) : Cal P w K mg base "has_digits" 2 ["number", "most"] (spShort) := by
  refine cal_of D schas_digits (fun vs H Q E h => ?_) (fun f cdv A outer s H vs Q E hq hr h => ?_)
  · obtain ⟨i, rfl, _⟩ := h; rfl
  · have hu := hr.units
    replace hq := Quiet.deeper hq (envOfC "has_digits" (defScope shas_digits) s.heap.objs.size f cdv)
    have hr_least_longer := hr.mono (show 1 ≤ 1 by decide)
    skip
    refine ⟨_, (pss_one (ps_ret (pe_or (pe_cmpR op_le (pe_bits (pv 0)) (pe_op op_mul pe_int (pv 1)) (nomark _)) (pe_one (pe_cmpR op_lt (pe_callB q_abs (by rfl) B.b_abs (by decide +kernel) (pa_cons (pv 0) pa_nil)) (qc c_least_longer hq hr_least_longer (by rfl) (pa_cons (pv 1) pa_nil)) (nomark _)))))), ?_⟩
    obtain ⟨i, rfl, k⟩ := h
    refine rd_at [some (.int i), some (.int 2000)] rfl ?_
    walk_at "rd"
    refine rd_ite (fun hb => ?_) (fun hb => ?_)
    · have e : i.natAbs < 10 ^ 2000 := bits_short (by omega)
      rw [decide_eq_true e] at k
      exact k
    · walk_at "rd"
      refine ⟨2000, rfl, by omega, ?_⟩
      walk_at "rd"
      have e : ((if i < 0 then -i else i) < 10 ^ 2000) ↔ i.natAbs < 10 ^ 2000 := by
        have h1 : (if i < 0 then -i else i) = (i.natAbs : Int) := by split <;> omega
        have h2 : ((10 : Int) ^ 2000) = ((10 ^ 2000 : Nat) : Int) := by norm_cast
        rw [h1, h2, Int.ofNat_lt]
      rw [decide_eq_decide.mpr e]
      exact k
end
section
variable {P : Program} {w : World} {K : PySem.W.Frag} {mg : Str → Option Value} {base : Heap}
theorem okare_names (B : Bi mg) (D : DefAt K mg "are_names" sare_names ["value"]) (cis_name : Cal P w K mg base "is_name" 1 ["value"] (spName)) : Cal P w K mg base "are_names" 2 ["value"] (spNames K) := by
  refine cal_of D scare_names (fun vs H Q E h => ?_) (fun f cdv A outer s H vs Q E hq hr h => ?_)
  · obtain ⟨v, d, rfl, _⟩ := h; rfl
  · have hu := hr.units
    replace hq := Quiet.deeper hq (envOfC "are_names" (defScope sare_names) s.heap.objs.size f cdv)
    have hris_name := hr.mono (show 1 ≤ 1 by decide)
    skip
    refine ⟨_, (pss_one (ps_ret (pe_and (pe_callB (r := rIsi K) (by exact call_isi) (by rfl) B.b_isinstance (by decide +kernel) (pa_cons (pv 0) (pa_cons (pe_bltn (v := .ty "tuple") (u := .type "tuple") (by rfl) B.b_tuple (by decide +kernel) rfl) pa_nil))) (pe_one (pe_callB (r := rAll K) (by exact (cr_all rfl)) (by rfl) B.b_all (by decide +kernel) (pa_cons (pe_lc (own := [("name", 1)]) (g := gName 1) (tt := tYes) (by rfl) scare_names.nd (pi_tup (pv 0)) (blkOk_by (own := [("name", 1)]) (N := ["value", "name"]) (sc := defScope sare_names) (by decide +kernel)) (fun _ _ _ _ _ => (pg_name (i := 1) scare_names.nd rfl (by first | exact Or.inl rfl | exact Or.inr rfl))) (fun _ _ _ _ _ => pts_nil) (fun _ _ _ _ _ => (qc cis_name hq hris_name (by rfl) (pa_cons (pv 1) pa_nil)))) pa_nil)))))), ?_⟩
    obtain ⟨v, d, rfl, hv, k⟩ := h
    refine rd_at [some v, none] rfl ?_
    walk_at "rd"
    refine rd_isiTup hv.item ?_
    walk_at "rd"
    refine rd_ifb (fun h1 => ?_) (fun h1 => ?_)
    · obtain ⟨p, xs, ds, rfl, rfl, hp, hi, hl, _⟩ := den_tup hv h1
      walk_at "rd"
      refine ⟨⟨_, SqT.of hp⟩, ?_⟩
      intro E hE
      refine lc_same (wk_tup (xs := xs) .non) (b := fun _ => true) (f := fun j => .bl (wName (ds.getD j .oth))) (by omega) hE (fun H' hs => SqT.of (hs _ _ hp)) (fun j _ H' _ R kk => rd_yes (kk H' (Same.refl _))) ?_ ?_
      · intro j hj _ H' hs R kk
        walk_at "rd"
        obtain ⟨d, hd, hx⟩ := items_get hi j hj
        have e : ds.getD j .oth = d := by rw [List.getD_eq_getElem?_getD, hd]; rfl
        rw [e] at kk
        exact ⟨_, d, rfl, hx.same hs, kk⟩
      · intro H' hs hl2
        rw [filt_yes, show (fun j => V.bl (wName (ds.getD j .oth))) = V.bl ∘ (fun j => wName (ds.getD j .oth)) from rfl, ← List.map_map] at hl2
        walk_at "rd"
        refine rd_all (SqL.of hl2) ?_
        rw [List.all_map, items_all hi]
        show Q (.bl ((List.range ds.length).all fun j => wName (ds.getD j .oth))) _
        rw [range_all]
        exact k _ hs
    · rw [show wNames d = false by cases d <;> first | rfl | (simp [itTup] at h1)] at k
      exact k _ (Same.refl _)
end
section
variable {P : Program} {w : World} {K : PySem.W.Frag} {mg : Str → Option Value} {base : Heap}
theorem ok_law_one_of (B : Bi mg) (D : DefAt K mg "_law_one_of" s_law_one_of ["_law_bag_here", "_law_items"]) (c_law_draw : Cal P w K mg base "_law_draw" 1 ["_law_bag_here", "_law_total"] (spDraw)) : Cal P w K mg base "_law_one_of" 2 ["_law_bag_here", "_law_items"] (spOne K) := by
  refine cal_of D sc_law_one_of (fun vs H Q E h => ?_) (fun f cdv A outer s H vs Q E hq hr h => ?_)
  · obtain ⟨a, it, rfl, _⟩ := h; rfl
  · have hu := hr.units
    replace hq := Quiet.deeper hq (envOfC "_law_one_of" (defScope s_law_one_of) s.heap.objs.size f cdv)
    have hr_law_draw := hr.mono (show 1 ≤ 1 by decide)
    skip
    refine ⟨_, (pss_one (ps_ret (pe_ix (r := rIx K) (by exact ix_seq) (pv 1) (qc c_law_draw hq hr_law_draw (by rfl) (pa_cons (pv 0) (pa_cons (pe_callB (r := rLenA K) (by exact q_lenA) (by rfl) B.b_len (by decide +kernel) (pa_cons (pv 1) pa_nil)) pa_nil))) (fun _ _ => rfl)))), ?_⟩
    obtain ⟨a, it, rfl, hb, h⟩ := h
    refine rd_at [some (.ref a), some it] rfl ?_
    walk_at "rd"
    rcases h with ⟨l, xs, rfl, hne, hS, h0, h1, k⟩ | ⟨z, rfl, h0, h1, k⟩
    · refine Or.inl ?_
      refine rd_lenL hS ?_
      walk_at "rd"
      refine ⟨a, _, rfl, hb, by omega, by omega, fun j H1 j0 j1 bu hb1 => ?_⟩
      have hj : j.toNat < xs.length := by omega
      refine rd_ixA (Or.inl (rd_ixL (bu.sq hne hS) (at_z (v := xs[j.toNat]) j0 (List.getElem?_eq_getElem hj)) ?_))
      exact k _ _ (List.getElem_mem hj) bu hb1
    · refine Or.inr ?_
      refine rd_lenS (Nat.le_trans h1 (by decide)) ?_
      walk_at "rd"
      refine ⟨a, _, rfl, hb, by omega, by omega, fun j H1 j0 j1 bu hb1 => ?_⟩
      have hj : j.toNat < z.cps.toList.length := by
        show j.toNat < z.cps.toList.length
        have e : z.length = z.cps.toList.length := by simp [Str.length]
        omega
      refine rd_ixA (Or.inr (Or.inr ⟨z, j, z.cps.toList[j.toNat], rfl, rfl, Nat.le_trans h1 (by decide), ?_, ?_⟩))
      · exact at_z j0 (List.getElem?_eq_getElem hj)
      · exact k _ _ (List.getElem_mem hj) bu hb1
end
section
variable {P : Program} {w : World} {K : PySem.W.Frag} {mg : Str → Option Value} {base : Heap}
theorem ok_law_are_words (B : Bi mg) (D : DefAt K mg "_law_are_words" s_law_are_words ["_law_value"]) (c_law_is_word : Cal P w K mg base "_law_is_word" 1 ["_law_value"] (spName)) : Cal P w K mg base "_law_are_words" 2 ["_law_value"] (spNames K) := by
  refine cal_of D sc_law_are_words (fun vs H Q E h => ?_) (fun f cdv A outer s H vs Q E hq hr h => ?_)
  · obtain ⟨v, d, rfl, _⟩ := h; rfl
  · have hu := hr.units
    replace hq := Quiet.deeper hq (envOfC "_law_are_words" (defScope s_law_are_words) s.heap.objs.size f cdv)
    have hr_law_is_word := hr.mono (show 1 ≤ 1 by decide)
    skip
    refine ⟨_, (pss_one (ps_ret (pe_and (pe_callB (r := rIsi K) (by exact call_isi) (by rfl) B.b_isinstance (by decide +kernel) (pa_cons (pv 0) (pa_cons (pe_bltn (v := .ty "tuple") (u := .type "tuple") (by rfl) B.b_tuple (by decide +kernel) rfl) pa_nil))) (pe_one (pe_cmpR (r := rEqD K) (by exact (op_eqD hu)) (pe_lc (own := [("_law_one", 1)]) (g := gName 1) (by rfl) sc_law_are_words.nd (pi_tup (pv 0)) (blkOk_by (own := [("_law_one", 1)]) (N := ["_law_value", "_law_one"]) (sc := defScope s_law_are_words) (by decide +kernel)) (fun _ _ _ _ _ => (pg_name (i := 1) sc_law_are_words.nd rfl (by first | exact Or.inl rfl | exact Or.inr rfl))) (fun _ _ _ _ _ => (pts_one (pt_not (pt_val (qc c_law_is_word hq hr_law_is_word (by rfl) (pa_cons (pv 1) pa_nil)))))) (fun _ _ _ _ _ => (pv 1))) (pe_lst pa_nil) (nomark _)))))), ?_⟩
    obtain ⟨v, d, rfl, hv, k⟩ := h
    refine rd_at [some v, none] rfl ?_
    walk_at "rd"
    refine rd_isiTup hv.item ?_
    walk_at "rd"
    refine rd_ifb (fun h1 => ?_) (fun h1 => ?_)
    · obtain ⟨p, xs, ds, rfl, rfl, hp, hi, hl, es, he1, he2⟩ := den_tup hv h1
      walk_at "rd"
      refine ⟨⟨_, SqT.of hp⟩, ?_⟩
      intro E hE
      refine lc_same (wk_tup (xs := xs) .non) (b := fun j => !wName (ds.getD j .oth)) (f := fun j => xs.getD j .non) (by omega) hE (fun H' hs => SqT.of (hs _ _ hp)) ?_ ?_ ?_
      · intro j hj H' hs R kk
        walk_at "rd"
        obtain ⟨d, hd, hx⟩ := items_get hi j hj
        have e : ds.getD j .oth = d := by rw [List.getD_eq_getElem?_getD, hd]; rfl
        rw [e] at kk
        exact ⟨_, d, rfl, hx.same hs, fun H'' s'' => rd_bl (kk H'' s'')⟩
      · intro j hj _ H' hs R kk
        walk_at "rd"
        exact kk _ (Same.refl _)
      · intro H' hs hl2
        walk_at "rd"
        intro F hF
        have hE2 : upd H' F (.lst []) E = _ := up_old hF hl2
        have sF : Same H' (upd H' F (.lst [])) := fun b o e => up_old hF e
        have in_ : ∀ j ∈ (List.range xs.length).filter (fun j => !wName (ds.getD j .oth)), j < xs.length := fun j hj => List.mem_range.mp (List.mem_filter.mp hj).1
        refine rd_eqD (.lst (SqL.of hE2) (dp_allJ (g := fun j => es.getD j .none) fun j hj => (dpAll_get (dpAll_same (hs.trans sF) es _ he1) j (in_ j hj)).1)) (.lst (SqL.of upd_same) .nil) (shaped_listN (n := 3) (by decide) ?_) (by decide +kernel) ?_
        · intro d hd
          obtain ⟨j, hj, rfl⟩ := List.mem_map.mp hd
          exact he2 _ (dpAll_get he1 j (in_ j hj)).2
        · rw [eqv_nil, List.isEmpty_map, filt_not, items_all hi, range_all]
          exact k _ (hs.trans sF)
    · rw [show wNames d = false by cases d <;> first | rfl | (simp [itTup] at h1)] at k
      exact k _ (Same.refl _)
end
section
variable {P : Program} {w : World} {K : PySem.W.Frag} {mg : Str → Option Value} {base : Heap}
theorem okis_integer (B : Bi mg) (D : DefAt K mg "is_integer" sis_integer ["value"]) (chas_digits : Cal P w K mg base "has_digits" 2 ["number", "most"] (spShort)) : Cal P w K mg base "is_integer" 3 ["value"] (spInt) := by
  refine cal_of D scis_integer (fun vs H Q E h => ?_) (fun f cdv A outer s H vs Q E hq hr h => ?_)
  · obtain ⟨v, d, rfl, _⟩ := h; rfl
  · have hu := hr.units
    replace hq := Quiet.deeper hq (envOfC "is_integer" (defScope sis_integer) s.heap.objs.size f cdv)
    have hrhas_digits := hr.mono (show 2 ≤ 2 by decide)
    obtain ⟨t_MAX_DIGITS, k_MAX_DIGITS⟩ := B.c_MAX_DIGITS
    skip
    refine ⟨_, (pss_one (ps_ret (pe_and (pe_callB (r := rIsi K) (by exact call_isi) (by rfl) B.b_isinstance (by decide +kernel) (pa_cons (pv 0) (pa_cons (pe_bltn (v := .ty "int") (u := .type "int") (by rfl) B.b_int (by decide +kernel) rfl) pa_nil))) (pe_and (pe_not (pe_callB (r := rIsi K) (by exact call_isi) (by rfl) B.b_isinstance (by decide +kernel) (pa_cons (pv 0) (pa_cons (pe_bltn (v := .ty "bool") (u := .type "bool") (by rfl) B.b_bool (by decide +kernel) rfl) pa_nil)))) (pe_one (qc chas_digits hq hrhas_digits (by rfl) (pa_cons (pv 0) (pa_cons (pe_glob (v := .int 2000) (by rfl) k_MAX_DIGITS ⟨_, rfl⟩) pa_nil)))))))), ?_⟩
    obtain ⟨v, d, rfl, hv, k⟩ := h
    refine rd_at [some v] rfl ?_
    walk_at "rd"
    refine rd_isiInt hv ?_
    walk_at "rd"
    refine rd_ifb (fun h1 => ?_) (fun h1 => ?_)
    · walk_at "rd"
      refine rd_isiBool hv ?_
      walk_at "rd"
      refine rd_ifb (fun h2 => ?_) (fun h2 => ?_)
      · obtain ⟨i, rfl, rfl⟩ := item_int hv h1 (by simpa using h2)
        walk_at "rd"
        exact ⟨i, rfl, k⟩
      · rw [show wInt d = false by cases d <;> first | rfl | (simp [itBool] at h2)] at k
        exact k
    · rw [show wInt d = false by cases d <;> first | rfl | (simp [itInt] at h1)] at k
      exact k
end
section
variable {P : Program} {w : World} {K : PySem.W.Frag} {mg : Str → Option Value} {base : Heap}
theorem okis_lot (B : Bi mg) (D : DefAt K mg "is_lot" sis_lot ["value"]) (care_names : Cal P w K mg base "are_names" 2 ["value"] (spNames K)) (cis_ascending : Cal P w K mg base "is_ascending" 1 ["values"] (spAsc)) : Cal P w K mg base "is_lot" 3 ["value"] (spLot K) := by
  refine cal_of D scis_lot (fun vs H Q E h => ?_) (fun f cdv A outer s H vs Q E hq hr h => ?_)
  · obtain ⟨v, d, rfl, _⟩ := h; rfl
  · have hu := hr.units
    replace hq := Quiet.deeper hq (envOfC "is_lot" (defScope sis_lot) s.heap.objs.size f cdv)
    have hrare_names := hr.mono (show 2 ≤ 2 by decide)
    have hris_ascending := hr.mono (show 1 ≤ 2 by decide)
    skip
    refine ⟨_, (pss_one (ps_ret (pe_and (qc care_names hq hrare_names (by rfl) (pa_cons (pv 0) pa_nil)) (pe_one (qc cis_ascending hq hris_ascending (by rfl) (pa_cons (pv 0) pa_nil)))))), ?_⟩
    obtain ⟨v, d, rfl, hv, k⟩ := h
    refine rd_at [some v] rfl ?_
    walk_at "rd"
    refine ⟨v, d, rfl, hv, fun H1 s1 => ?_⟩
    walk_at "rd"
    refine rd_ifb (fun h1 => ?_) (fun h1 => ?_)
    · cases hv with
      | one h n => cases d <;> first | (cases h1) | exact absurd rfl (n _)
      | @tup p xs ds hp hi hl hd =>
        obtain ⟨zs, rfl, rfl⟩ := names_str hi h1
        walk_at "rd"
        refine ⟨p, zs, rfl, s1 _ _ hp, by simpa using hl, fun H2 s2 => ?_⟩
        have k := k _ (s1.trans s2)
        rw [wLot_tup, show (zs.map Dv.str).all wName = true from h1, sgn_map] at k
        exact k
    · have k := k _ s1
      rw [show wLot d = false by cases d <;> first | rfl | (rw [wLot_tup, show List.all _ wName = false from h1]; rfl)] at k
      exact k
end
section
variable {P : Program} {w : World} {K : PySem.W.Frag} {mg : Str → Option Value} {base : Heap}
theorem ok_law_word (B : Bi mg) (D : DefAt K mg "_law_word" s_law_word ["_law_bag_here"]) (c_law_draw : Cal P w K mg base "_law_draw" 1 ["_law_bag_here", "_law_total"] (spDraw)) (c_law_one_of : Cal P w K mg base "_law_one_of" 2 ["_law_bag_here", "_law_items"] (spOne K)) : Cal P w K mg base "_law_word" 3 ["_law_bag_here"] (spWord) := by
  refine cal_of D sc_law_word (fun vs H Q E h => ?_) (fun f cdv A outer s H vs Q E hq hr h => ?_)
  · obtain ⟨a, rfl, _⟩ := h; rfl
  · have hu := hr.units
    replace hq := Quiet.deeper hq (envOfC "_law_word" (defScope s_law_word) s.heap.objs.size f cdv)
    have hr_law_draw := hr.mono (show 1 ≤ 2 by decide)
    have hr_law_one_of := hr.mono (show 2 ≤ 2 by decide)
    skip
    refine ⟨_, (pss_cons (ps_set (i := 1) sc_law_word.nd rfl (by first | exact Or.inl rfl | exact Or.inr rfl) (pe_op q_catZ pe_str (qc c_law_one_of hq hr_law_one_of (by rfl) (pa_cons (pv 0) (pa_cons (pe_lst (pa_cons pe_str (pa_cons pe_str (pa_cons pe_str (pa_cons pe_str (pa_cons pe_str (pa_cons pe_str (pa_cons pe_str (pa_cons pe_str (pa_cons pe_str pa_nil)))))))))) pa_nil)))))
        (pss_one (ps_ret (q_join pe_str (pe_lc (own := [("_law_turn", 2)]) (g := gName 2) (tt := tYes) (by rfl) sc_law_word.nd (pi_range1 (by rfl) B.b_range (pa_cons (qc c_law_draw hq hr_law_draw (by rfl) (pa_cons (pv 0) (pa_cons pe_int pa_nil))) pa_nil)) (blkOk_by (own := [("_law_turn", 2)]) (N := ["_law_bag_here", "_law_signs", "_law_turn"]) (sc := defScope s_law_word) (by decide +kernel)) (fun _ _ _ _ _ => (pg_name (i := 2) sc_law_word.nd rfl (by first | exact Or.inl rfl | exact Or.inr rfl))) (fun _ _ _ _ _ => pts_nil) (fun _ _ _ _ _ => (qc c_law_one_of hq hr_law_one_of (by rfl) (pa_cons (pv 0) (pa_cons (pv 1) pa_nil))))))))), ?_⟩
    obtain ⟨a, rfl, hb, k⟩ := h
    refine rd_at [some (.ref a), none, none] rfl ?_
    walk_at "rd"
    intro l hl
    have nla : l ≠ a := fun z => by
      obtain ⟨_, _, _, e, _⟩ := hb
      rw [← z, hl] at e
      cases e
    refine ⟨a, _, rfl, BagAt.old hl hb, Or.inl ⟨l, _, rfl, nla, SqL.of upd_same, by decide, by decide, fun v H1 hv bu hb1 => ?_⟩⟩
    obtain ⟨z, rfl, hz1, hz2⟩ : ∃ z : Str, v = .str z ∧ z.length = 1 ∧ Sok z := by
      simp only [List.mem_cons, List.not_mem_nil, or_false] at hv
      rcases hv with rfl | rfl | rfl | rfl | rfl | rfl | rfl | rfl | rfl <;> exact ⟨_, rfl, by decide +kernel, sok_by (by decide +kernel)⟩
    refine rd_catZ (by rw [hz1]; decide +kernel) ?_
    walk_at "rd"
    refine ⟨a, 7, rfl, hb1, by decide, by decide, fun j H2 j0 j1 bu2 hb2 => ?_⟩
    walk_at "rd"
    refine ⟨_, rfl, by omega, by omega, ?_⟩
    intro E2 hE2
    have zn : ∀ x : Str, Sok (x ++ z) ↔ Sok x := fun x => ⟨fun h c hc => h c (by rw [str_app]; exact List.mem_append_left _ hc), fun h c hc => by
      rw [str_app] at hc
      rcases List.mem_append.mp hc with q | q
      · exact h c q
      · exact hz2 c q⟩
    refine lc_bag (n := j.toNat) (by omega) hE2 hb2 (fun v => ∃ y : Str, v = .str y ∧ y.length = 1 ∧ Sok y) ?_ ?_
    · intro i hi H' bu' hb' R kk
      walk_at "rd"
      refine ⟨a, _, rfl, hb', Or.inr ⟨_, rfl, ?_, ?_, fun c H'' hc bu'' hb'' => kk _ _ ⟨_, rfl, rfl, sok_one ?_⟩ bu'' hb''⟩⟩
      · rw [str_app_len, hz1]
        exact Nat.succ_pos _
      · rw [str_app_len, hz1]
        decide +kernel
      · exact (zn _).mpr (sok_by (by decide +kernel)) c hc
    · intro ys H' hy hP bu' hb' hl2
      obtain ⟨zs, rfl, hzs⟩ := strs_of hP
      walk_at "rd"
      rw [List.length_map] at hy
      have hj := join_ones hzs
      refine rd_join (SqL.of hl2) ?_ ?_
      · rw [hj.1, show ("" : Str).length = 0 from rfl]
        omega
      · refine k _ _ (by rw [hj.2.1]; omega) hj.2.2 (fun b o nb e => ?_) hb'
        exact bu' b o nb (bu2 b o nb (bu b o nb (up_old hl e)))
end
section
variable {P : Program} {w : World} {K : PySem.W.Frag} {mg : Str → Option Value} {base : Heap}
theorem okis_pair (B : Bi mg) (D : DefAt K mg "is_pair" sis_pair ["value"]) (cis_lot : Cal P w K mg base "is_lot" 3 ["value"] (spLot K)) : Cal P w K mg base "is_pair" 4 ["value"] (spPair K) := by
  refine cal_of D scis_pair (fun vs H Q E h => ?_) (fun f cdv A outer s H vs Q E hq hr h => ?_)
  · obtain ⟨v, d, rfl, _⟩ := h; rfl
  · have hu := hr.units
    replace hq := Quiet.deeper hq (envOfC "is_pair" (defScope sis_pair) s.heap.objs.size f cdv)
    have hris_lot := hr.mono (show 3 ≤ 3 by decide)
    skip
    refine ⟨_, (pss_one (ps_ret (pe_and (qc cis_lot hq hris_lot (by rfl) (pa_cons (pv 0) pa_nil)) (pe_one (pe_cmpR op_eq (pe_callB (r := rLenQ K) (by exact q_lenQ) (by rfl) B.b_len (by decide +kernel) (pa_cons (pv 0) pa_nil)) pe_int (nomark _)))))), ?_⟩
    obtain ⟨v, d, rfl, hv, k⟩ := h
    refine rd_at [some v] rfl ?_
    walk_at "rd"
    refine ⟨v, d, rfl, hv, fun H1 s1 => ?_⟩
    walk_at "rd"
    refine rd_ifb (fun h1 => ?_) (fun h1 => ?_)
    · cases hv with
      | one h n => cases d <;> first | (cases h1) | exact absurd rfl (n _)
      | @tup p xs ds hp hi hl hd =>
        walk_at "rd"
        refine rd_lenT (SqT.of (s1 _ _ hp)) ?_
        walk_at "rd"
        have k := k _ s1
        rw [wPair_tup, show (ds.all wName && asc (ds.map sgn)) = true from h1, Bool.true_and, ← items_all hi] at k
        have e : ((xs.length : Int) = 2) ↔ xs.length = 2 := by omega
        rw [decide_eq_decide.mpr e]
        exact k
    · have k := k _ s1
      rw [show wPair d = false by cases d <;> first | rfl | (rw [wPair_tup, show (List.all _ wName && asc _) = false from h1]; rfl)] at k
      exact k
end
section
variable {P : Program} {w : World} {K : PySem.W.Frag} {mg : Str → Option Value} {base : Heap}
theorem okis_space (B : Bi mg) (D : DefAt K mg "is_space" sis_space ["value"]) (cis_integer : Cal P w K mg base "is_integer" 3 ["value"] (spInt)) : Cal P w K mg base "is_space" 4 ["value"] (spSpace) := by
  refine cal_of D scis_space (fun vs H Q E h => ?_) (fun f cdv A outer s H vs Q E hq hr h => ?_)
  · obtain ⟨v, d, rfl, _⟩ := h; rfl
  · have hu := hr.units
    replace hq := Quiet.deeper hq (envOfC "is_space" (defScope sis_space) s.heap.objs.size f cdv)
    have hris_integer := hr.mono (show 3 ≤ 3 by decide)
    skip
    refine ⟨_, (pss_one (ps_ret (pe_and (qc cis_integer hq hris_integer (by rfl) (pa_cons (pv 0) pa_nil)) (pe_one (pe_chain op_le op_le pe_int (pv 0) pe_int))))), ?_⟩
    obtain ⟨v, d, rfl, hv, k⟩ := h
    refine rd_at [some v] rfl ?_
    walk_at "rd"
    refine ⟨v, d, rfl, hv, ?_⟩
    walk_at "rd"
    refine rd_ifb (fun h1 => ?_) (fun h1 => ?_)
    · cases hv with
      | int i =>
        walk_at "rd"
        refine rd_ifb (fun h2 => ?_) (fun h2 => ?_)
        · walk_at "rd"
          rw [show wSpace (.int i) = decide (i ≤ 2) by show (decide _ && (decide (1 ≤ i) && _)) = _; rw [h2, show decide (i.natAbs < 10 ^ 2000) = true from h1]; rfl] at k
          exact k
        · rw [show wSpace (.int i) = false by show (decide _ && (decide (1 ≤ i) && _)) = _; rw [h2]; simp] at k
          exact k
      | _ => cases h1
    · have e : wSpace d = false := by
        cases d with
        | int i => show (decide _ && _) = _; rw [show decide (i.natAbs < 10 ^ 2000) = false from h1]; rfl
        | _ => rfl
      rw [e] at k
      exact k
end
section
variable {P : Program} {w : World} {K : PySem.W.Frag} {mg : Str → Option Value} {base : Heap}
theorem ok_law_any (B : Bi mg) (D : DefAt K mg "_law_any" s_law_any ["_law_bag_here"]) (c_law_draw : Cal P w K mg base "_law_draw" 1 ["_law_bag_here", "_law_total"] (spDraw)) (c_law_one_of : Cal P w K mg base "_law_one_of" 2 ["_law_bag_here", "_law_items"] (spOne K)) (c_law_power : Cal P w K mg base "_law_power" 1 ["_law_many"] (spPower)) (c_law_word : Cal P w K mg base "_law_word" 3 ["_law_bag_here"] (spWord)) : Cal P w K mg base "_law_any" 4 ["_law_bag_here"] (spAny K) := by
  refine cal_of D sc_law_any (fun vs H Q E h => ?_) (fun f cdv A outer s H vs Q E hq hr h => ?_)
  · obtain ⟨a, rfl, _⟩ := h; rfl
  · have hu := hr.units
    replace hq := Quiet.deeper hq (envOfC "_law_any" (defScope s_law_any) s.heap.objs.size f cdv)
    have hr_law_draw := hr.mono (show 1 ≤ 3 by decide)
    have hr_law_one_of := hr.mono (show 2 ≤ 3 by decide)
    have hr_law_power := hr.mono (show 1 ≤ 3 by decide)
    have hr_law_word := hr.mono (show 3 ≤ 3 by decide)
    skip
    refine ⟨_, (pss_cons (ps_set (i := 1) sc_law_any.nd rfl (by first | exact Or.inl rfl | exact Or.inr rfl) (qc c_law_draw hq hr_law_draw (by rfl) (pa_cons (pv 0) (pa_cons pe_int pa_nil))))
        (pss_cons (ps_if (pt_cmpR op_eq (pv 1) pe_int (nomark _)) (pss_one (ps_ret (qc c_law_word hq hr_law_word (by rfl) (pa_cons (pv 0) pa_nil)))) pss_nil)
        (pss_cons (ps_if (pt_cmpR op_eq (pv 1) pe_int (nomark _)) (pss_one (ps_ret (pe_callTy (r := rTupOf K) (by exact q_tupOf) (by rfl) B.b_tuple (by decide +kernel) (pa_cons (pe_lc (own := [("_law_turn", 3)]) (g := gName 3) (tt := tYes) (by rfl) sc_law_any.nd (pi_range1 (by rfl) B.b_range (pa_cons (qc c_law_draw hq hr_law_draw (by rfl) (pa_cons (pv 0) (pa_cons pe_int pa_nil))) pa_nil)) (blkOk_by (own := [("_law_turn", 3)]) (N := ["_law_bag_here", "_law_way", "_law_digits", "_law_turn"]) (sc := defScope s_law_any) (by decide +kernel)) (fun _ _ _ _ _ => (pg_name (i := 3) sc_law_any.nd rfl (by first | exact Or.inl rfl | exact Or.inr rfl))) (fun _ _ _ _ _ => pts_nil) (fun _ _ _ _ _ => (qc c_law_word hq hr_law_word (by rfl) (pa_cons (pv 0) pa_nil)))) pa_nil)))) pss_nil)
        (pss_cons (ps_if (pt_cmpR op_eq (pv 1) pe_int (nomark _)) (pss_one (ps_ret (pe_callTy (r := rTupOf K) (by exact q_tupOf) (by rfl) B.b_tuple (by decide +kernel) (pa_cons (pe_callB (r := rSortedS K) (by exact cr_sortedS) (by rfl) B.b_sorted (by decide +kernel) (pa_cons (pe_lc (own := [("_law_turn", 3)]) (g := gName 3) (tt := tYes) (by rfl) sc_law_any.nd (pi_range1 (by rfl) B.b_range (pa_cons (qc c_law_draw hq hr_law_draw (by rfl) (pa_cons (pv 0) (pa_cons pe_int pa_nil))) pa_nil)) (blkOk_by (own := [("_law_turn", 3)]) (N := ["_law_bag_here", "_law_way", "_law_digits", "_law_turn"]) (sc := defScope s_law_any) (by decide +kernel)) (fun _ _ _ _ _ => (pg_name (i := 3) sc_law_any.nd rfl (by first | exact Or.inl rfl | exact Or.inr rfl))) (fun _ _ _ _ _ => pts_nil) (fun _ _ _ _ _ => (qc c_law_one_of hq hr_law_one_of (by rfl) (pa_cons (pv 0) (pa_cons (pe_lst (pa_cons pe_str (pa_cons pe_str (pa_cons pe_str (pa_cons pe_str (pa_cons pe_str (pa_cons pe_str (pa_cons pe_str pa_nil)))))))) pa_nil))))) pa_nil)) pa_nil)))) pss_nil)
        (pss_cons (ps_if (pt_cmpR op_eq (pv 1) pe_int (nomark _)) (pss_one (ps_ret (pe_callTy (r := rTupOf K) (by exact q_tupOf) (by rfl) B.b_tuple (by decide +kernel) (pa_cons (pe_lc (own := [("_law_turn", 3)]) (g := gName 3) (tt := tYes) (by rfl) sc_law_any.nd (pi_range1 (by rfl) B.b_range (pa_cons pe_int pa_nil)) (blkOk_by (own := [("_law_turn", 3)]) (N := ["_law_bag_here", "_law_way", "_law_digits", "_law_turn"]) (sc := defScope s_law_any) (by decide +kernel)) (fun _ _ _ _ _ => (pg_name (i := 3) sc_law_any.nd rfl (by first | exact Or.inl rfl | exact Or.inr rfl))) (fun _ _ _ _ _ => pts_nil) (fun _ _ _ _ _ => (qc c_law_one_of hq hr_law_one_of (by rfl) (pa_cons (pv 0) (pa_cons (pe_lst (pa_cons pe_str (pa_cons pe_str (pa_cons pe_str (pa_cons pe_str (pa_cons pe_str (pa_cons pe_str pa_nil))))))) pa_nil))))) pa_nil)))) pss_nil)
        (pss_cons (ps_if (pt_cmpR op_eq (pv 1) pe_int (nomark _)) (pss_one (ps_ret (qc c_law_one_of hq hr_law_one_of (by rfl) (pa_cons (pv 0) (pa_cons (pe_lst (pa_cons pe_int (pa_cons pe_int (pa_cons pe_int (pa_cons pe_int (pa_cons (pe_un un_neg pe_int) (pa_cons (pe_un un_neg pe_int) (pa_cons (pe_op op_pow pe_int pe_int) (pa_cons pe_bl (pa_cons pe_bl (pa_cons pe_non pa_nil))))))))))) pa_nil))))) pss_nil)
        (pss_cons (ps_if (pt_cmpR op_eq (pv 1) pe_int (nomark _)) (pss_cons (ps_set (i := 2) sc_law_any.nd rfl (by first | exact Or.inl rfl | exact Or.inr rfl) (qc c_law_one_of hq hr_law_one_of (by rfl) (pa_cons (pv 0) (pa_cons (pe_lst (pa_cons pe_int (pa_cons pe_int (pa_cons pe_int (pa_cons pe_int pa_nil))))) pa_nil))))
        (pss_one (ps_ret (pe_op op_mul (qc c_law_one_of hq hr_law_one_of (by rfl) (pa_cons (pv 0) (pa_cons (pe_lst (pa_cons pe_int (pa_cons (pe_un un_neg pe_int) pa_nil))) pa_nil))) (pe_op op_sub (qc c_law_power hq hr_law_power (by rfl) (pa_cons (pv 2) pa_nil)) (qc c_law_draw hq hr_law_draw (by rfl) (pa_cons (pv 0) (pa_cons pe_int pa_nil)))))))) pss_nil)
        (pss_cons (ps_if (pt_cmpR op_eq (pv 1) pe_int (nomark _)) (pss_one (ps_ret (qc c_law_one_of hq hr_law_one_of (by rfl) (pa_cons (pv 0) (pa_cons (pe_lst (pa_cons (pe_lst (pa_cons pe_str (pa_cons pe_str pa_nil))) (pa_cons (pe_disp (pps_cons pe_str pe_int pps_nil) (by rfl) (by rfl) (fun z => by cases z) (by decide)) (pa_cons pe_dnewK (pa_cons (pe_lst pa_nil) (pa_cons (pe_tup (pa_cons pe_str (pa_cons pe_int pa_nil))) (pa_cons (pe_tup (pa_cons (pe_tup (pa_cons pe_str (pa_cons pe_str pa_nil))) (pa_cons pe_str pa_nil))) (pa_cons (pe_tup (pa_cons pe_non pa_nil)) (pa_cons (pe_tup (pa_cons pe_str (pa_cons (pe_lst (pa_cons pe_str pa_nil)) pa_nil))) (pa_cons (pe_tup (pa_cons (pe_tup pa_nil) (pa_cons (pe_tup pa_nil) pa_nil))) pa_nil)))))))))) pa_nil))))) pss_nil)
        (pss_one (ps_ret (qc c_law_one_of hq hr_law_one_of (by rfl) (pa_cons (pv 0) (pa_cons (pe_lst (pa_cons pe_str (pa_cons (pe_tup pa_nil) (pa_cons pe_str (pa_cons pe_str (pa_cons (pe_tup (pa_cons pe_str pa_nil)) (pa_cons (pe_tup (pa_cons pe_str (pa_cons pe_str pa_nil))) (pa_cons (pe_tup (pa_cons pe_str (pa_cons pe_str pa_nil))) (pa_cons (pe_tup (pa_cons pe_str (pa_cons pe_str (pa_cons pe_str pa_nil)))) (pa_cons (pe_tup (pa_cons pe_str (pa_cons pe_str pa_nil))) (pa_cons pe_str pa_nil))))))))))) pa_nil))))))))))))), ?_⟩
    obtain ⟨a, rfl, hb, k⟩ := h
    refine rd_at [some (.ref a), none, none, none] rfl ?_
    walk_at "rd"
    refine ⟨a, 8, rfl, hb, by decide, by decide, fun way H1 w0 w1 bu1 hb1 => ?_⟩
    walk_at "rd"
    refine rd_ite (fun e0 => ?_) (fun n0 => ?_)
    · walk_at "rd"
      exact ⟨a, rfl, hb1, fun z H2 hz ok bu hb2 => k _ _ _ (.one (.str z (by omega) ok) (fun _ q => nomatch q)) (bu1.trans bu) hb2⟩
    walk_at "rd"
    refine rd_ite (fun e0 => ?_) (fun n1 => ?_)
    · walk_at "rd"
      refine ⟨a, 4, rfl, hb1, by decide, by decide, fun j H2 j0 j1 bu2 hb2 => ?_⟩
      walk_at "rd"
      refine ⟨_, rfl, by omega, by omega, ?_⟩
      intro E2 hE2
      refine lc_bag (n := j.toNat) (by omega) hE2 hb2 (fun v => ∃ y : Str, v = .str y ∧ y.length ≤ 1000 ∧ Sok y) ?_ ?_
      · intro i hi H' bu' hb' R kk
        walk_at "rd"
        exact ⟨a, rfl, hb', fun z H'' hz ok bu'' hb'' => kk _ _ ⟨z, rfl, by omega, ok⟩ bu'' hb''⟩
      · intro ys H' hy hP bu' hb' hl2
        obtain ⟨zs, rfl, hzs⟩ := words_of hP
        rw [List.length_map] at hy
        walk_at "rd"
        refine ⟨E2, _, rfl, Or.inl ⟨SqL.of hl2, fun p hp => ?_⟩⟩
        exact k _ _ _ (den_strs upd_same hzs (by omega)) ((bu1.trans bu2).trans (bu'.trans (But.new hp))) (BagAt.old hp hb')
    walk_at "rd"
    refine rd_ite (fun e0 => ?_) (fun n2 => ?_)
    · walk_at "rd"
      refine ⟨a, 4, rfl, hb1, by decide, by decide, fun j H2 j0 j1 bu2 hb2 => ?_⟩
      walk_at "rd"
      refine ⟨_, rfl, by omega, by omega, ?_⟩
      intro E2 hE2
      refine lc_bag (n := j.toNat) (by omega) hE2 hb2 (fun v => ∃ y : Str, v = .str y ∧ y.length ≤ 1000 ∧ Sok y) ?_ ?_
      · intro i hi H' bu' hb' R kk
        walk_at "rd"
        intro l hl
        refine ⟨a, _, rfl, BagAt.old hl hb', Or.inl ⟨l, _, rfl, new_ne hl hb', SqL.of upd_same, by decide, by decide, fun v H'' hv bu'' hb'' => kk _ _ ?_ ((But.new hl).trans bu'') hb''⟩⟩
        simp only [List.mem_cons, List.not_mem_nil, or_false] at hv
        rcases hv with rfl | rfl | rfl | rfl | rfl | rfl | rfl <;> exact ⟨_, rfl, by decide +kernel, sok_by (by decide +kernel)⟩
      · intro ys H' hy hP bu' hb' hl2
        obtain ⟨zs, rfl, hzs⟩ := words_of hP
        rw [List.length_map] at hy
        walk_at "rd"
        refine ⟨E2, zs, rfl, SqL.of hl2, by omega, fun zs' q hperm _ hq => ?_⟩
        walk_at "rd"
        refine ⟨q, _, rfl, Or.inl ⟨SqL.of upd_same, fun p hp => ?_⟩⟩
        exact k _ _ _ (den_strs upd_same (fun z hz => hzs z (hperm.mem_iff.mp hz)) (by rw [hperm.length_eq]; omega)) ((bu1.trans bu2).trans (bu'.trans ((But.new hq).trans (But.new hp)))) (BagAt.old hp (BagAt.old hq hb'))
    walk_at "rd"
    refine rd_ite (fun e0 => ?_) (fun n3 => ?_)
    · walk_at "rd"
      refine ⟨_, rfl, by decide, by decide, ?_⟩
      intro E2 hE2
      refine lc_bag (n := (2 : Int).toNat) (by decide) hE2 hb1 (fun v => ∃ y : Str, v = .str y ∧ y.length ≤ 1000 ∧ Sok y) ?_ ?_
      · intro i hi H' bu' hb' R kk
        walk_at "rd"
        intro l hl
        refine ⟨a, _, rfl, BagAt.old hl hb', Or.inl ⟨l, _, rfl, new_ne hl hb', SqL.of upd_same, by decide, by decide, fun v H'' hv bu'' hb'' => kk _ _ ?_ ((But.new hl).trans bu'') hb''⟩⟩
        simp only [List.mem_cons, List.not_mem_nil, or_false] at hv
        rcases hv with rfl | rfl | rfl | rfl | rfl | rfl <;> exact ⟨_, rfl, by decide +kernel, sok_by (by decide +kernel)⟩
      · intro ys H' hy hP bu' hb' hl2
        obtain ⟨zs, rfl, hzs⟩ := words_of hP
        rw [List.length_map] at hy
        walk_at "rd"
        refine ⟨E2, _, rfl, Or.inl ⟨SqL.of hl2, fun p hp => ?_⟩⟩
        exact k _ _ _ (den_strs upd_same hzs (by rw [hy]; decide)) (bu1.trans (bu'.trans (But.new hp))) (BagAt.old hp hb')
    walk_at "rd"
    refine rd_ite (fun e0 => ?_) (fun n4 => ?_)
    · walk_at "rd"
      intro l hl
      refine ⟨a, _, rfl, BagAt.old hl hb1, Or.inl ⟨l, _, rfl, new_ne hl hb1, SqL.of upd_same, by decide, by decide, fun v H2 hv bu hb2 => ?_⟩⟩
      have fin : ∀ d, Item H2 v d → (∀ ds, d ≠ .tup ds) → Q v H2 := fun d hd hn => k v d H2 (.one hd hn) (bu1.trans ((But.new hl).trans bu)) hb2
      simp only [List.mem_cons, List.not_mem_nil, or_false] at hv
      rcases hv with rfl | rfl | rfl | rfl | rfl | rfl | rfl | rfl | rfl | rfl
      · exact fin _ (.int _) (fun _ q => nomatch q)
      · exact fin _ (.int _) (fun _ q => nomatch q)
      · exact fin _ (.int _) (fun _ q => nomatch q)
      · exact fin _ (.int _) (fun _ q => nomatch q)
      · exact fin _ (.int _) (fun _ q => nomatch q)
      · exact fin _ (.int _) (fun _ q => nomatch q)
      · exact fin _ (.int _) (fun _ q => nomatch q)
      · exact fin _ (.bl _) (fun _ q => nomatch q)
      · exact fin _ (.bl _) (fun _ q => nomatch q)
      · exact fin _ .non (fun _ q => nomatch q)
    walk_at "rd"
    refine rd_ite (fun e0 => ?_) (fun n5 => ?_)
    · walk_at "rd"
      intro l hl
      refine ⟨a, _, rfl, BagAt.old hl hb1, Or.inl ⟨l, _, rfl, new_ne hl hb1, SqL.of upd_same, by decide, by decide, fun v H2 hv bu hb2 => ?_⟩⟩
      have fin : ∃ n : Nat, v = .int (n : Int) ∧ n ≤ 3000 := by
        simp only [List.mem_cons, List.not_mem_nil, or_false] at hv
        rcases hv with rfl | rfl | rfl | rfl <;> exact ⟨_, rfl, by decide⟩
      obtain ⟨n, rfl, hn⟩ := fin
      walk_at "rd"
      intro l2 hl2
      refine ⟨a, _, rfl, BagAt.old hl2 hb2, Or.inl ⟨l2, _, rfl, new_ne hl2 hb2, SqL.of upd_same, by decide, by decide, fun v H3 hv bu3 hb3 => ?_⟩⟩
      have fin : ∃ n : Int, v = .int n ∧ (-(2 ^ 64) < n ∧ n < 2 ^ 64) := by
        simp only [List.mem_cons, List.not_mem_nil, or_false] at hv
        rcases hv with rfl | rfl <;> exact ⟨_, rfl, by decide, by decide⟩
      obtain ⟨g, rfl, hg⟩ := fin
      walk_at "rd"
      refine ⟨n, rfl, hn, ?_⟩
      walk_at "rd"
      refine ⟨a, 3, rfl, hb3, by decide, by decide, fun j H4 j0 j1 bu4 hb4 => ?_⟩
      walk_at "rd"
      exact k _ _ _ (.one (.int _) (fun _ q => nomatch q)) (bu1.trans ((But.new hl).trans (bu.trans ((But.new hl2).trans (bu3.trans bu4))))) hb4
    walk_at "rd"
    refine rd_ite (fun e0 => ?_) (fun n6 => ?_)
    · have b0 := hb1
      walk_at "rd"
      intro p1 h1
      have m1 := new_ne h1 b0
      have b1 := BagAt.old (u := .lst [.str "a", .str "b"]) h1 b0
      walk_at "rd"
      intro p2 h2
      have m2 := new_ne h2 b1
      have b2 := BagAt.old (u := .dK [(Sum.inr "a", .int 1)]) h2 b1
      walk_at "rd"
      refine ⟨upd_same, [(Sum.inr "a", .int 1)], rfl, by decide, ?_⟩
      rw [upd_upd, show mergeK [] [((Sum.inr "a" : Key), V.int 1)] = [((Sum.inr "a" : Key), V.int 1)] from rfl]
      walk_at "rd"
      intro p3 h3
      have m3 := new_ne h3 b2
      have b3 := BagAt.old (u := .dK []) h3 b2
      walk_at "rd"
      intro p4 h4
      have m4 := new_ne h4 b3
      have b4 := BagAt.old (u := .lst []) h4 b3
      walk_at "rd"
      intro p5 h5
      have m5 := new_ne h5 b4
      have b5 := BagAt.old (u := .tup [.str "a", .int 1]) h5 b4
      walk_at "rd"
      intro p6 h6
      have m6 := new_ne h6 b5
      have b6 := BagAt.old (u := .tup [.str "a", .str "b"]) h6 b5
      walk_at "rd"
      intro p7 h7
      have m7 := new_ne h7 b6
      have b7 := BagAt.old (u := .tup [.ref p6, .str "c"]) h7 b6
      walk_at "rd"
      intro p8 h8
      have m8 := new_ne h8 b7
      have b8 := BagAt.old (u := .tup [.non]) h8 b7
      walk_at "rd"
      intro p9 h9
      have m9 := new_ne h9 b8
      have b9 := BagAt.old (u := .lst [.str "b"]) h9 b8
      walk_at "rd"
      intro p10 h10
      have m10 := new_ne h10 b9
      have b10 := BagAt.old (u := .tup [.str "a", .ref p9]) h10 b9
      walk_at "rd"
      intro p11 h11
      have m11 := new_ne h11 b10
      have b11 := BagAt.old (u := .tup []) h11 b10
      walk_at "rd"
      intro p12 h12
      have m12 := new_ne h12 b11
      have b12 := BagAt.old (u := .tup []) h12 b11
      walk_at "rd"
      intro p13 h13
      have m13 := new_ne h13 b12
      have b13 := BagAt.old (u := .tup [.ref p11, .ref p12]) h13 b12
      walk_at "rd"
      intro p14 h14
      have m14 := new_ne h14 b13
      refine ⟨a, _, rfl, BagAt.old h14 b13, Or.inl ⟨p14, _, rfl, m14, SqL.of upd_same, Nat.le_of_ble_eq_true rfl, Nat.le_of_ble_eq_true rfl, fun v H2 hv bu hb2 => ?_⟩⟩
      have g1 : H2 p1 = some (.lst [.str "a", .str "b"]) := bu _ _ m1 (by walk_at "hp")
      have g2 : H2 p2 = some (.dK [(Sum.inr "a", .int 1)]) := bu _ _ m2 (by walk_at "hp")
      have g3 : H2 p3 = some (.dK []) := bu _ _ m3 (by walk_at "hp")
      have g4 : H2 p4 = some (.lst []) := bu _ _ m4 (by walk_at "hp")
      have g5 : H2 p5 = some (.tup [.str "a", .int 1]) := bu _ _ m5 (by walk_at "hp")
      have g6 : H2 p6 = some (.tup [.str "a", .str "b"]) := bu _ _ m6 (by walk_at "hp")
      have g7 : H2 p7 = some (.tup [.ref p6, .str "c"]) := bu _ _ m7 (by walk_at "hp")
      have g8 : H2 p8 = some (.tup [.non]) := bu _ _ m8 (by walk_at "hp")
      have g9 : H2 p9 = some (.lst [.str "b"]) := bu _ _ m9 (by walk_at "hp")
      have g10 : H2 p10 = some (.tup [.str "a", .ref p9]) := bu _ _ m10 (by walk_at "hp")
      have g11 : H2 p11 = some (.tup []) := bu _ _ m11 (by walk_at "hp")
      have g12 : H2 p12 = some (.tup []) := bu _ _ m12 (by walk_at "hp")
      have g13 : H2 p13 = some (.tup [.ref p11, .ref p12]) := bu _ _ m13 (by walk_at "hp")
      have fin : ∀ d, Den K H2 v d → Q v H2 := fun d hd => k v d H2 hd (fun b o nb e => bu b o nb (by have e := bu1 b o nb e; walk_at "hp")) hb2
      have sa : Sok "a" := sok_by (by decide +kernel)
      have sb : Sok "b" := sok_by (by decide +kernel)
      have sc : Sok "c" := sok_by (by decide +kernel)
      simp only [List.mem_cons, List.not_mem_nil, or_false] at hv
      rcases hv with rfl | rfl | rfl | rfl | rfl | rfl | rfl | rfl | rfl
      · exact fin _ (.one (.lst g1) (fun _ q => nomatch q))
      · exact fin _ (.one (.dct g2) (fun _ q => nomatch q))
      · exact fin _ (.one (.dct g3) (fun _ q => nomatch q))
      · exact fin _ (.one (.lst g4) (fun _ q => nomatch q))
      · exact fin _ (den_tup2 g5 (.cons (.str "a" (by decide) sa) (.cons (.int 1) .nil)) (.cons (.str "a") (.cons (.int 1) .nil)) (by decide +kernel) (Nat.le_of_ble_eq_true rfl))
      · exact fin _ (den_tup2 g7 (.cons (.tup [] g6) (.cons (.str "c" (by decide) sc) .nil)) (.cons (.tup (SqT.of g6) (.cons (.str "a") (.cons (.str "b") .nil))) (.cons (.str "c") .nil)) (by decide +kernel) (Nat.le_of_ble_eq_true rfl))
      · exact fin _ (den_tup2 g8 (.cons .non .nil) (.cons .non .nil) (by decide +kernel) (Nat.le_of_ble_eq_true rfl))
      · exact fin _ (den_tup2 g10 (.cons (.str "a" (by decide) sa) (.cons (.lst g9) .nil)) (.cons (.str "a") (.cons (.lst (SqL.of g9) (.cons (.str "b") .nil)) .nil)) (by decide +kernel) (Nat.le_of_ble_eq_true rfl))
      · exact fin _ (den_tup2 g13 (.cons (.tup [] g11) (.cons (.tup [] g12) .nil)) (.cons (.tup (SqT.of g11) .nil) (.cons (.tup (SqT.of g12) .nil) .nil)) (by decide +kernel) (Nat.le_of_ble_eq_true rfl))
    walk_at "rd"
    have b0 := hb1
    intro p1 h1
    have m1 := new_ne h1 b0
    have b1 := BagAt.old (u := .tup []) h1 b0
    walk_at "rd"
    intro p2 h2
    have m2 := new_ne h2 b1
    have b2 := BagAt.old (u := .tup [.str "a"]) h2 b1
    walk_at "rd"
    intro p3 h3
    have m3 := new_ne h3 b2
    have b3 := BagAt.old (u := .tup [.str "b", .str "a"]) h3 b2
    walk_at "rd"
    intro p4 h4
    have m4 := new_ne h4 b3
    have b4 := BagAt.old (u := .tup [.str "a", .str "a"]) h4 b3
    walk_at "rd"
    intro p5 h5
    have m5 := new_ne h5 b4
    have b5 := BagAt.old (u := .tup [.str "a", .str "b", .str "c"]) h5 b4
    walk_at "rd"
    intro p6 h6
    have m6 := new_ne h6 b5
    have b6 := BagAt.old (u := .tup [.str "a", .str ""]) h6 b5
    walk_at "rd"
    intro p14 h14
    have m14 := new_ne h14 b6
    refine ⟨a, _, rfl, BagAt.old h14 b6, Or.inl ⟨p14, _, rfl, m14, SqL.of upd_same, Nat.le_of_ble_eq_true rfl, Nat.le_of_ble_eq_true rfl, fun v H2 hv bu hb2 => ?_⟩⟩
    have g1 : H2 p1 = some (.tup []) := bu _ _ m1 (by walk_at "hp")
    have g2 : H2 p2 = some (.tup [.str "a"]) := bu _ _ m2 (by walk_at "hp")
    have g3 : H2 p3 = some (.tup [.str "b", .str "a"]) := bu _ _ m3 (by walk_at "hp")
    have g4 : H2 p4 = some (.tup [.str "a", .str "a"]) := bu _ _ m4 (by walk_at "hp")
    have g5 : H2 p5 = some (.tup [.str "a", .str "b", .str "c"]) := bu _ _ m5 (by walk_at "hp")
    have g6 : H2 p6 = some (.tup [.str "a", .str ""]) := bu _ _ m6 (by walk_at "hp")
    have fin : ∀ d, Den K H2 v d → Q v H2 := fun d hd => k v d H2 hd (fun b o nb e => bu b o nb (by have e := bu1 b o nb e; walk_at "hp")) hb2
    have fS : ∀ z : Str, (decide (z.length ≤ 1000) && z.cps.toList.all fun c => decide (c < 1114112)) = true → Den K H2 (.str z) (.str z) := fun z h => by
      rw [Bool.and_eq_true] at h
      exact .one (.str z (of_decide_eq_true h.1) (sok_by h.2)) (fun _ q => nomatch q)
    have fT : ∀ (p : Addr) (zs : List Str), H2 p = some (.tup (zs.map V.str)) → (zs.all fun z => decide (z.length ≤ 1000) && z.cps.toList.all fun c => decide (c < 1114112)) = true → zs.length ≤ 10 → Den K H2 (.ref p) (.tup (zs.map Dv.str)) := fun p zs e h hl => den_strs e (fun z hz => by
      have := List.all_eq_true.mp h z hz
      rw [Bool.and_eq_true] at this
      exact ⟨of_decide_eq_true this.1, sok_by this.2⟩) hl
    simp only [List.mem_cons, List.not_mem_nil, or_false] at hv
    rcases hv with rfl | rfl | rfl | rfl | rfl | rfl | rfl | rfl | rfl | rfl
    · exact fin _ (fS _ (by decide +kernel))
    · exact fin _ (fT _ [] g1 (by decide +kernel) (by decide))
    · exact fin _ (fS _ (by decide +kernel))
    · exact fin _ (fS _ (by decide +kernel))
    · exact fin _ (fT _ ["a"] g2 (by decide +kernel) (by decide))
    · exact fin _ (fT _ ["b", "a"] g3 (by decide +kernel) (by decide))
    · exact fin _ (fT _ ["a", "a"] g4 (by decide +kernel) (by decide))
    · exact fin _ (fT _ ["a", "b", "c"] g5 (by decide +kernel) (by decide))
    · exact fin _ (fT _ ["a", ""] g6 (by decide +kernel) (by decide))
    · exact fin _ (fS _ (by decide +kernel))
end
section
variable {P : Program} {w : World} {K : PySem.W.Frag} {mg : Str → Option Value} {base : Heap}
theorem ok_law_right (B : Bi mg) (D : DefAt K mg "_law_right" s_law_right ["_law_bag_here"]) (c_law_any : Cal P w K mg base "_law_any" 4 ["_law_bag_here"] (spAny K)) (c_law_are_words : Cal P w K mg base "_law_are_words" 2 ["_law_value"] (spNames K)) (c_law_is_word : Cal P w K mg base "_law_is_word" 1 ["_law_value"] (spName)) (c_law_power : Cal P w K mg base "_law_power" 1 ["_law_many"] (spPower)) (care_names : Cal P w K mg base "are_names" 2 ["value"] (spNames K)) (cis_integer : Cal P w K mg base "is_integer" 3 ["value"] (spInt)) (cis_lot : Cal P w K mg base "is_lot" 3 ["value"] (spLot K)) (cis_name : Cal P w K mg base "is_name" 1 ["value"] (spName)) (cis_pair : Cal P w K mg base "is_pair" 4 ["value"] (spPair K)) (cis_space : Cal P w K mg base "is_space" 4 ["value"] (spSpace)) : Cal P w K mg base "_law_right" 5 ["_law_bag_here"] (spRight) := by
  refine cal_of D sc_law_right (fun vs H Q E h => ?_) (fun f cdv A outer s H vs Q E hq hr h => ?_)
  · obtain ⟨a, rfl, _⟩ := h; rfl
  · have hu := hr.units
    replace hq := Quiet.deeper hq (envOfC "_law_right" (defScope s_law_right) s.heap.objs.size f cdv)
    have hr_law_any := hr.mono (show 4 ≤ 4 by decide)
    have hr_law_are_words := hr.mono (show 2 ≤ 4 by decide)
    have hr_law_is_word := hr.mono (show 1 ≤ 4 by decide)
    have hr_law_power := hr.mono (show 1 ≤ 4 by decide)
    have hrare_names := hr.mono (show 2 ≤ 4 by decide)
    have hris_integer := hr.mono (show 3 ≤ 4 by decide)
    have hris_lot := hr.mono (show 3 ≤ 4 by decide)
    have hris_name := hr.mono (show 1 ≤ 4 by decide)
    have hris_pair := hr.mono (show 4 ≤ 4 by decide)
    have hris_space := hr.mono (show 4 ≤ 4 by decide)
    skip
    refine ⟨_, (pss_cons (ps_set (i := 1) sc_law_right.nd rfl (by first | exact Or.inl rfl | exact Or.inr rfl) (qc c_law_any hq hr_law_any (by rfl) (pa_cons (pv 0) pa_nil)))
        (pss_cons (ps_set (i := 2) sc_law_right.nd rfl (by first | exact Or.inl rfl | exact Or.inr rfl) (pe_and (pe_callB (r := rIsi K) (by exact call_isi) (by rfl) B.b_isinstance (by decide +kernel) (pa_cons (pv 1) (pa_cons (pe_bltn (v := .ty "int") (u := .type "int") (by rfl) B.b_int (by decide +kernel) rfl) pa_nil))) (pe_one (pe_not (pe_callB (r := rIsi K) (by exact call_isi) (by rfl) B.b_isinstance (by decide +kernel) (pa_cons (pv 1) (pa_cons (pe_bltn (v := .ty "bool") (u := .type "bool") (by rfl) B.b_bool (by decide +kernel) rfl) pa_nil)))))))
        (pss_cons (ps_set (i := 3) sc_law_right.nd rfl (by first | exact Or.inl rfl | exact Or.inr rfl) (qc c_law_are_words hq hr_law_are_words (by rfl) (pa_cons (pv 1) pa_nil)))
        (pss_cons (ps_set (i := 4) sc_law_right.nd rfl (by first | exact Or.inl rfl | exact Or.inr rfl) (pe_and (pv 3) (pe_one (pe_cmpR (r := rEqD K) (by exact (op_eqD hu)) (pe_lc (own := [("_law_one", 7), ("_law_other", 8)]) (g := gTup K 2 (gCons (gName 7) (gCons (gName 8) gNil))) (by rfl) sc_law_right.nd (RZ.pi_zipA (by rfl) B.b_zip (pa_cons (pv 1) (pa_cons (pe_slice (r := rSlA K) (by exact sl_tupA) (pv 1) (po_some pe_int) po_none) pa_nil))) (blkOk_by (own := [("_law_one", 7), ("_law_other", 8)]) (N := ["_law_bag_here", "_law_value", "_law_is_whole", "_law_words", "_law_lot", "_law_due", "_law_told", "_law_one", "_law_other"]) (sc := defScope s_law_right) (by decide +kernel)) (fun _ _ _ _ _ => (pg_tup (by rfl) (pgs_cons (pg_name (i := 7) sc_law_right.nd rfl (by first | exact Or.inl rfl | exact Or.inr rfl)) (pgs_cons (pg_name (i := 8) sc_law_right.nd rfl (by first | exact Or.inl rfl | exact Or.inr rfl)) pgs_nil)))) (fun _ _ _ _ _ => (pts_one (pt_cmpR q_geZ (pv 7) (pv 8) (nomark _)))) (fun _ _ _ _ _ => pe_int)) (pe_lst pa_nil) (nomark _)))))
        (pss_cons (ps_set (i := 5) sc_law_right.nd rfl (by first | exact Or.inl rfl | exact Or.inr rfl) (pe_lst (pa_cons (pe_and (pv 2) (pe_one (pe_cmpR op_lt (pe_callB q_abs (by rfl) B.b_abs (by decide +kernel) (pa_cons (pv 1) pa_nil)) (qc c_law_power hq hr_law_power (by rfl) (pa_cons pe_int pa_nil)) (nomark _)))) (pa_cons (qc c_law_is_word hq hr_law_is_word (by rfl) (pa_cons (pv 1) pa_nil)) (pa_cons (pv 3) (pa_cons (pv 4) (pa_cons (pe_and (pv 4) (pe_one (pe_cmpR op_eq (pe_callB (r := rLenQ K) (by exact q_lenQ) (by rfl) B.b_len (by decide +kernel) (pa_cons (pv 1) pa_nil)) pe_int (nomark _)))) pa_nil)))))))
        (pss_cons (ps_expr (pe_bm PySem.F.plainAttrs_list PySem.F.slot_list_append PySem.F.type_list_append mt_append (pv 5) (pa_cons (pe_and (pv 2) (pe_one (pe_cmpR (r := rIn K false) (by exact op_in_seq) (pv 1) (pe_tup (pa_cons pe_int (pa_cons pe_int pa_nil))) (by rfl)))) pa_nil)))
        (pss_cons (ps_set (i := 6) sc_law_right.nd rfl (by first | exact Or.inl rfl | exact Or.inr rfl) (pe_lst (pa_cons (qc cis_integer hq hris_integer (by rfl) (pa_cons (pv 1) pa_nil)) (pa_cons (qc cis_name hq hris_name (by rfl) (pa_cons (pv 1) pa_nil)) (pa_cons (qc care_names hq hrare_names (by rfl) (pa_cons (pv 1) pa_nil)) (pa_cons (qc cis_lot hq hris_lot (by rfl) (pa_cons (pv 1) pa_nil)) (pa_cons (qc cis_pair hq hris_pair (by rfl) (pa_cons (pv 1) pa_nil)) (pa_cons (qc cis_space hq hris_space (by rfl) (pa_cons (pv 1) pa_nil)) pa_nil))))))))
        (pss_one (ps_ret (pe_cmpR op_eq (pe_callB (r := rRepr K) (by exact (call_repr hq hu)) (by rfl) B.b_repr (by decide +kernel) (pa_cons (pv 6) pa_nil)) (pe_callB (r := rRepr K) (by exact (call_repr hq hu)) (by rfl) B.b_repr (by decide +kernel) (pa_cons (pv 5) pa_nil)) (nomark _))))))))))), ?_⟩
    obtain ⟨a, rfl, hb, k⟩ := h
    refine rd_at [some (.ref a), none, none, none, none, none, none, none, none] rfl ?_
    walk_at "rd"
    refine ⟨a, rfl, hb, fun v d H1 hd bu hb1 => ?_⟩
    walk_at "rd1"
    walk_at "rd1"
    walk_at "rd1"
    refine rd_with (fun x H2 => x = .bl (itInt d && !itBool d) ∧ H2 = H1) (fun Q' k' => ?_) ?_
    · walk_at "rd"
      refine rd_isiInt hd.item ?_
      walk_at "rd"
      refine rd_ifb (fun h1 => ?_) (fun h1 => ?_)
      · walk_at "rd"
        refine rd_isiBool hd.item ?_
        walk_at "rd"
        exact k' _ _ ⟨by rw [h1]; rfl, rfl⟩
      · exact k' _ _ ⟨by rw [h1]; rfl, rfl⟩
    rintro x H2 ⟨rfl, rfl⟩
    walk_at "rd"
    refine ⟨v, d, rfl, hd, fun H2 s2 => ?_⟩
    walk_at "rd1"
    walk_at "rd1"
    walk_at "rd1"
    have hd2 := hd.same s2
    refine rd_with (fun x H3 => x = .bl (wLot d) ∧ Same H2 H3) (fun Q' k' => ?_) ?_
    · walk_at "rd"
      refine rd_ifb (fun h1 => ?_) (fun h1 => ?_)
      · cases hd2 with
        | one h n => cases d <;> first | (cases h1) | exact absurd rfl (n _)
        | @tup p xs ds hp hi hl he =>
          obtain ⟨zs, rfl, rfl⟩ := names_str hi h1
          rw [List.length_map] at hl
          walk_at "rd"
          refine rd_zipA ?_
          walk_at "rd"
          refine rd_slA1 hp (fun q H3 s3 hq => ?_)
          walk_at "rd"
          refine ⟨p, q, _, _, rfl, Or.inr ⟨SqT.of (s3 _ _ hp), SqT.of hq, ?_⟩⟩
          intro E2 hE2
          have g : ∀ i (h : i < zs.length), (zs.map V.str)[i]? = some (V.str (zs.getD i "")) := fun i h => by rw [List.getElem?_map, List.getD_eq_getElem?_getD, List.getElem?_eq_getElem h]; rfl
          have g1 : ∀ i (h : i < zs.length - 1), ((zs.map V.str).drop 1)[i]? = some (V.str (zs.getD (i + 1) "")) := fun i h => by rw [List.getElem?_drop, Nat.add_comm 1 i]; exact g _ (by omega)
          refine lc_gen (n := zs.length - 1) (G := fun H' => SqT K H' p (zs.map V.str) ∧ SqT K H' q ((zs.map V.str).drop 1))
            (fun j x H' => ∃ T, x = .ref T ∧ H' T = some (.tup [.str (zs.getD j ""), .str (zs.getD (j + 1) "")]))
            (fun j σ2 H' => σ2[7]? = some (some (.str (zs.getD j ""))) ∧ σ2[8]? = some (some (.str (zs.getD (j + 1) ""))))
            (fun H' h => ⟨_, _, h.1, h.2, Or.inr (by rw [List.length_drop, List.length_map]; omega)⟩)
            (fun i H' h hi => ⟨_, _, _, _, h.1, h.2, g i (by omega), g1 i hi⟩)
            (fun i H' x H'' h hi y => ?_) (by omega) hE2 (fun H' s => ⟨SqT.of (s _ _ (s3 _ _ hp)), SqT.of (s _ _ hq)⟩)
            (fun j => !decide ((zs.map fun z => z.cps.toList).getD j [] < (zs.map fun z => z.cps.toList).getD (j + 1) [])) (fun _ => .int 1) ?_ ?_ ?_ ?_
          · obtain ⟨T, x1, x2, rfl, hT, rfl, f1, f2⟩ := y
            have e1 := Option.some.inj ((f1 _ h.1).symm.trans (g i (by omega)))
            have e2 := Option.some.inj ((f2 _ h.2).symm.trans (g1 i hi))
            subst e1 e2
            exact ⟨fun b o e => up_old hT e, T, rfl, upd_same⟩
          · rintro j x H' hj hs ⟨T, rfl, hT⟩ R kk
            exact ⟨T, _, rfl, SqT.of hT, rfl, _, _, rfl, _, _, rfl, rfl, kk _ rfl ⟨rfl, rfl⟩⟩
          · rintro j σ2 H' hj hs ⟨e1, e2⟩ R kk
            refine rd_test (rd_op (rd_var e1 (rd_var e2 (rd_geZ (rd_bl ?_)))))
            have kk := kk _ (Same.refl _)
            have g2 : ∀ i (h : i < zs.length), (zs.map fun z => z.cps.toList).getD i [] = (zs.getD i "").cps.toList := fun i h => by rw [List.getD_eq_getElem?_getD, List.getD_eq_getElem?_getD, List.getElem?_map, List.getElem?_eq_getElem h]; rfl
            rw [g2 j (by omega), g2 (j + 1) (by omega)] at kk
            exact kk
          · intro j σ2 H' H0 hj hb' hS hs hs0 R kk
            exact kk _ (Same.refl _)
          · intro H' hs hl2
            walk_at "rd"
            intro F hF
            have sF : Same H' (upd H' F (.lst [])) := fun b o e => up_old hF e
            refine rd_eqD (.lst (SqL.of (sF _ _ hl2)) (dp_allJ (g := fun _ => PyData.int 1) fun j _ => .int 1)) (.lst (SqL.of upd_same) .nil) (shaped_list ?_) (by decide +kernel) ?_
            · intro e he
              obtain ⟨j, _, rfl⟩ := List.mem_map.mp he
              exact ⟨rfl, rfl⟩
            · rw [eqv_nil, List.isEmpty_map, filt_not]
              have e := asc_range (zs.map fun z => z.cps.toList)
              rw [List.length_map] at e
              refine k' _ _ ⟨?_, s3.trans (hs.trans sF)⟩
              rw [wLot_tup, show (zs.map Dv.str).all wName = true from h1, sgn_map, Bool.true_and, ← e]
      · exact k' _ _ ⟨by rw [show wLot d = false by cases d <;> first | rfl | (rw [wLot_tup, show List.all _ wName = false from h1]; rfl)], Same.refl _⟩
    rintro x H3 ⟨rfl, s3⟩
    have hd3 := hd2.same s3
    walk_at "rd1"
    walk_at "rd1"
    walk_at "rd1"
    walk_at "rd1"
    walk_at "rd1"
    refine rd_with (fun x H4 => x = .bl (wInt d) ∧ H4 = H3) (fun Q' k' => ?_) ?_
    · walk_at "rd"
      refine rd_ifb (fun h1 => ?_) (fun h1 => ?_)
      · rw [Bool.and_eq_true] at h1
        obtain ⟨i, rfl, rfl⟩ := item_int hd3.item h1.1 (by simpa using h1.2)
        walk_at "rd"
        refine ⟨2000, rfl, by decide, ?_⟩
        walk_at "rd"
        refine k' _ _ ⟨?_, rfl⟩
        have e : ((if i < 0 then -i else i) < 10 ^ 2000) ↔ i.natAbs < 10 ^ 2000 := by
          have h1 : (if i < 0 then -i else i) = (i.natAbs : Int) := by split <;> omega
          have h2 : ((10 : Int) ^ 2000) = ((10 ^ 2000 : Nat) : Int) := by norm_cast
          rw [h1, h2, Int.ofNat_lt]
        rw [decide_eq_decide.mpr e]
        rfl
      · refine k' _ _ ⟨?_, rfl⟩
        rw [show wInt d = false by cases d <;> first | rfl | (simp [itInt, itBool] at h1)]
    rintro x H4 ⟨rfl, rfl⟩
    walk_at "rd"
    refine ⟨v, d, rfl, hd3.item, fun H5 s5 => ?_⟩
    have hd5 := hd3.same s5
    walk_at "rd1"
    walk_at "rd1"
    walk_at "rd1"
    walk_at "rd1"
    walk_at "rd1"
    refine rd_with (fun x H6 => x = .bl (wPair d) ∧ H6 = H5) (fun Q' k' => ?_) ?_
    · walk_at "rd"
      refine rd_ifb (fun h1 => ?_) (fun h1 => ?_)
      · cases hd5 with
        | one h n => cases d <;> first | (cases h1) | exact absurd rfl (n _)
        | @tup p xs ds hp hi hl he =>
          walk_at "rd"
          refine rd_lenT (SqT.of hp) ?_
          walk_at "rd"
          refine k' _ _ ⟨?_, rfl⟩
          rw [wPair_tup, show (ds.all wName && asc (ds.map sgn)) = true from h1, Bool.true_and, ← items_all hi]
          have e : ((xs.length : Int) = 2) ↔ xs.length = 2 := by omega
          rw [decide_eq_decide.mpr e]
      · refine k' _ _ ⟨?_, rfl⟩
        rw [show wPair d = false by cases d <;> first | rfl | (rw [wPair_tup, show (List.all _ wName && asc _) = false from h1]; rfl)]
    rintro x H6 ⟨rfl, rfl⟩
    walk_at "rd"
    intro p hp
    have sp : Same H6 (upd H6 p (.lst [.bl (wInt d), .bl (wName d), .bl (wNames d), .bl (wLot d), .bl (wPair d)])) := fun b o e => up_old hp e
    walk_at "rd1"
    walk_at "rd1"
    walk_at "rd1"
    refine rd_BM ?_
    walk_at "rd1"
    refine rd_tyL upd_same ?_
    walk_at "rd1"
    refine rd_with (fun x H7 => x = .bl (wSpace d) ∧ Same (upd H6 p (.lst [.bl (wInt d), .bl (wName d), .bl (wNames d), .bl (wLot d), .bl (wPair d)])) H7) (fun Q' k' => ?_) ?_
    · walk_at "rd"
      refine rd_ifb (fun h1 => ?_) (fun h1 => ?_)
      · rw [Bool.and_eq_true] at h1
        obtain ⟨i, rfl, rfl⟩ := item_int hd5.item h1.1 (by simpa using h1.2)
        walk_at "rd"
        intro q hq
        refine rd_inT (SqT.of upd_same) rfl rfl ?_
        exact k' _ _ ⟨congrArg V.bl (in12 i), fun b o e => up_old hq e⟩
      · exact k' _ _ ⟨by rw [show wSpace d = false by cases d <;> first | rfl | (simp [itInt, itBool] at h1)], Same.refl _⟩
    rintro x H7 ⟨rfl, s7⟩
    walk_at "rd"
    refine rd_app (s7 _ _ upd_same) (Nat.le_of_ble_eq_true rfl) ?_
    have s8 : Same H6 (upd H7 p (.lst ([.bl (wInt d), .bl (wName d), .bl (wNames d), .bl (wLot d), .bl (wPair d)] ++ [.bl (wSpace d)]))) := same_up hp (sp.trans s7)
    have hd8 := hd5.same s8
    have e8 : (upd H7 p (.lst ([.bl (wInt d), .bl (wName d), .bl (wNames d), .bl (wLot d), .bl (wPair d)] ++ [.bl (wSpace d)]))) p = some (.lst ([.bl (wInt d), .bl (wName d), .bl (wNames d), .bl (wLot d), .bl (wPair d)] ++ [.bl (wSpace d)])) := upd_same
    generalize (upd H7 p (.lst ([.bl (wInt d), .bl (wName d), .bl (wNames d), .bl (wLot d), .bl (wPair d)] ++ [.bl (wSpace d)]))) = H8 at s8 hd8 e8
    walk_at "rd"
    refine ⟨v, d, rfl, hd8.item, ?_⟩
    walk_at "rd"
    refine ⟨v, d, rfl, hd8.item, fun H9 s9 => ?_⟩
    walk_at "rd"
    refine ⟨v, d, rfl, hd8.same s9, fun H10 s10 => ?_⟩
    walk_at "rd"
    refine ⟨v, d, rfl, (hd8.same s9).same s10, fun H11 s11 => ?_⟩
    walk_at "rd"
    refine ⟨v, d, rfl, ((hd8.same s9).same s10).same s11, fun H12 s12 => ?_⟩
    walk_at "rd"
    refine ⟨v, d, rfl, (((hd8.same s9).same s10).same s11).same s12 |>.item, ?_⟩
    walk_at "rd"
    intro q hq
    have e12 := up_old (u := .lst [.bl (wInt d), .bl (wName d), .bl (wNames d), .bl (wLot d), .bl (wPair d), .bl (wSpace d)]) hq (s12 _ _ (s11 _ _ (s10 _ _ (s9 _ _ e8))))
    walk_at "rd"
    refine rd_repr (d := six (wInt d) (wName d) (wNames d) (wLot d) (wPair d) (wSpace d)) (.lst (SqL.of upd_same) (six_dp ..)) (six_show ..) rfl (Nat.le_of_ble_eq_true rfl) (six_len ..) ?_
    walk_at "rd"
    refine rd_repr (d := six (wInt d) (wName d) (wNames d) (wLot d) (wPair d) (wSpace d)) (.lst (SqL.of e12) (six_dp ..)) (six_show ..) rfl (Nat.le_of_ble_eq_true rfl) (six_len ..) ?_
    refine rd_eq rfl ?_
    rw [decide_eq_true rfl]
    have sF : Same H6 (upd H12 q (.lst [.bl (wInt d), .bl (wName d), .bl (wNames d), .bl (wLot d), .bl (wPair d), .bl (wSpace d)])) := (s8.trans (s9.trans (s10.trans (s11.trans s12)))).trans (fun b o e => up_old hq e)
    have sA := s2.trans (s3.trans (s5.trans sF))
    refine k _ (fun b o nb e => sA _ _ (bu b o nb e)) ?_
    obtain ⟨g, m, c, e, r⟩ := hb1
    exact ⟨g, m, c, sA _ _ e, r⟩
end
section
variable {P : Program} {w : World} {K : PySem.W.Frag} {mg : Str → Option Value} {base : Heap}
theorem oklaw {f : Addr} {fd : FuncData} (B : Bi mg) (F : Fun K "law" "law" slaw f fd) (c_law_bag : Cal P w K mg base "_law_bag" 1 ["_law_script", "_law_at"] (spBag K)) (c_law_power : Cal P w K mg base "_law_power" 1 ["_law_many"] (spPower)) (c_law_right : Cal P w K mg base "_law_right" 5 ["_law_bag_here"] (spRight)) (cis_integer : Cal P w K mg base "is_integer" 3 ["value"] (spInt)) : FnQ P w K mg base 6 f fd ["_law_script"] (spLaw K) := by
  refine quiet_def F sclaw (fun vs H Q E h => ?_) (fun cdv A outer s H vs Q E hq hr h => ?_)
  · obtain ⟨a, ns, rfl, _⟩ := h; rfl
  · have hu := hr.units
    replace hq := Quiet.deeper hq (envOfC "law" (defScope slaw) s.heap.objs.size f cdv)
    have hr_law_bag := hr.mono (show 1 ≤ 5 by decide)
    have hr_law_power := hr.mono (show 1 ≤ 5 by decide)
    have hr_law_right := hr.mono (show 5 ≤ 5 by decide)
    have hris_integer := hr.mono (show 3 ≤ 5 by decide)
    obtain ⟨t_MAX_DIGITS, k_MAX_DIGITS⟩ := B.c_MAX_DIGITS
    obtain ⟨t_MAX_LETTERS, k_MAX_LETTERS⟩ := B.c_MAX_LETTERS
    skip
    refine ⟨_, (pss_cons (ps_for PassesOwn.never (by rfl) (pi_range1 (by rfl) B.b_range (pa_cons (pe_callB (q_max2 rfl) (by rfl) B.b_max (by decide +kernel) (pa_cons pe_int (pa_cons (pe_callB (q_min2 rfl) (by rfl) B.b_min (by decide +kernel) (pa_cons pe_int (pa_cons (pe_callB (r := rLenQ K) (by exact q_lenQ) (by rfl) B.b_len (by decide +kernel) (pa_cons (pv 0) pa_nil)) pa_nil))) pa_nil))) pa_nil)) (pg_name (i := 1) sclaw.nd rfl (by first | exact Or.inl rfl | exact Or.inr rfl)) (pss_cons (ps_set (i := 2) sclaw.nd rfl (by first | exact Or.inl rfl | exact Or.inr rfl) (qc c_law_bag hq hr_law_bag (by rfl) (pa_cons (pv 0) (pa_cons (pv 1) pa_nil))))
        (pss_one (ps_for PassesOwn.never (by rfl) (pi_range1 (by rfl) B.b_range (pa_cons pe_int pa_nil)) (pg_name (i := 3) sclaw.nd rfl (by first | exact Or.inl rfl | exact Or.inr rfl)) (pss_one (ps_if (pt_not (pt_val (qc c_law_right hq hr_law_right (by rfl) (pa_cons (pv 2) pa_nil)))) (pss_one (ps_ret pe_bl)) pss_nil))))))
        (pss_cons (ps_set (i := 4) sclaw.nd rfl (by first | exact Or.inl rfl | exact Or.inr rfl) (qc c_law_power hq hr_law_power (by rfl) (pa_cons pe_int pa_nil)))
        (pss_cons (ps_set (i := 5) sclaw.nd rfl (by first | exact Or.inl rfl | exact Or.inr rfl) (pe_lst (pa_cons (qc cis_integer hq hris_integer (by rfl) (pa_cons (pv 4) pa_nil)) (pa_cons (qc cis_integer hq hris_integer (by rfl) (pa_cons (pe_op op_sub (pv 4) pe_int) pa_nil)) (pa_cons (qc cis_integer hq hris_integer (by rfl) (pa_cons (pe_un un_neg (pv 4)) pa_nil)) (pa_cons (qc cis_integer hq hris_integer (by rfl) (pa_cons (pe_op op_sub pe_int (pv 4)) pa_nil)) pa_nil))))))
        (pss_one (ps_ret (pe_and (pe_cmpR (r := rEqD K) (by exact (op_eqD hu)) (pv 5) (pe_lst (pa_cons pe_bl (pa_cons pe_bl (pa_cons pe_bl (pa_cons pe_bl pa_nil))))) (nomark _)) (pe_one (pe_cmpR (r := rEqD K) (by exact (op_eqD hu)) (pe_lst (pa_cons (pe_glob (v := .int 2000) (by rfl) k_MAX_DIGITS ⟨_, rfl⟩) (pa_cons (pe_glob (v := .int 4) (by rfl) k_MAX_LETTERS ⟨_, rfl⟩) pa_nil))) (pe_lst (pa_cons pe_int (pa_cons pe_int pa_nil))) (nomark _))))))))), ?_⟩
    obtain ⟨a, ns, rfl, hS, hl, k⟩ := h
    refine rd_at [some (.ref a), none, none, none, none, none] rfl ?_
    walk_at "rd"
    refine rd_lenL hS ?_
    walk_at "rd"
    generalize hm : (if (if ((ns.map V.int).length : Int) < 4 then ((ns.map V.int).length : Int) else 4) > 1 then (if ((ns.map V.int).length : Int) < 4 then ((ns.map V.int).length : Int) else 4) else 1) = m
    have m1 : 1 ≤ m ∧ m ≤ 4 := by
      rw [← hm]
      split <;> split <;> omega
    refine ⟨m, rfl, by omega, by omega, ?_⟩
    refine for_rng (fun _ σ' H' => ∃ v1 v2 v3, σ' = [some (.ref a), v1, v2, v3, none, none] ∧ SqL K H' a (ns.map V.int)) ⟨none, none, none, rfl, hS⟩ ?_ ?_
    · rintro i _ H1 hi ⟨v1, v2, v3, rfl, hS1⟩
      walk_at "rd"
      refine ⟨a, ns, i, by rw [Int.zero_add], hS1, fun p H2 hp hsame hb => ?_⟩
      walk_at "rd"
      refine ⟨12, rfl, by decide, by decide, ?_⟩
      refine for_rng (n := 12) (fun _ σ' H' => ∃ v3, σ' = [some (.ref a), some (.int (0 + (i : Int))), some (.ref p), v3, none, none] ∧ But p H2 H' ∧ BagAt H' p) ⟨_, rfl, But.refl p H2, hb⟩ ?_ ?_
      · rintro j _ H3 hj ⟨w3, rfl, bu3, hb3⟩
        walk_at "rd"
        refine ⟨p, rfl, hb3, fun H4 bu4 hb4 => ?_⟩
        walk_at "rd"
        refine rd_ifb (fun z => nomatch z) (fun _ => ?_)
        walk_at "rd"
        exact ⟨_, rfl, bu3.trans bu4, hb4⟩
      · rintro _ H3 ⟨w3, rfl, bu3, hb3⟩
        exact ⟨_, _, _, rfl, sq_kept hp hsame bu3 hS1⟩
    rintro _ H1 ⟨v1, v2, v3, rfl, hS1⟩
    walk_at "rd"
    refine ⟨2000, rfl, by decide, ?_⟩
    walk_at "rd"
    refine ⟨_, _, rfl, .int _, ?_⟩
    walk_at "rd"
    refine ⟨_, _, rfl, .int _, ?_⟩
    walk_at "rd"
    refine ⟨_, _, rfl, .int _, ?_⟩
    walk_at "rd"
    refine ⟨_, _, rfl, .int _, ?_⟩
    walk_at "rd"
    intro E1 hE1
    obtain ⟨e1, e2, e3, e4⟩ := edge_at
    rw [e1, e2, e3, e4]
    walk_at "rd"
    intro E2 hE2
    refine rd_eqD (d := .list [.bool false, .bool true, .bool false, .bool true]) (e := .list [.bool false, .bool true, .bool false, .bool true]) (.lst (SqL.of (up_old hE2 upd_same)) (.cons (.bl _) (.cons (.bl _) (.cons (.bl _) (.cons (.bl _) .nil))))) (.lst (SqL.of upd_same) (.cons (.bl _) (.cons (.bl _) (.cons (.bl _) (.cons (.bl _) .nil))))) (by decide +kernel) (by decide +kernel) ?_
    refine ⟨true, by rfl, iteT ?_⟩
    walk_at "rd"
    intro E3 hE3
    walk_at "rd"
    intro E4 hE4
    refine rd_eqD (d := .list [.int 2000, .int 4]) (e := .list [.int 2000, .int 4]) (.lst (SqL.of (up_old hE4 upd_same)) (.cons (.int _) (.cons (.int _) .nil))) (.lst (SqL.of upd_same) (.cons (.int _) (.cons (.int _) .nil))) (by decide +kernel) (by decide +kernel) ?_
    exact k _
end
end K01
namespace K01
open PySem PySem.Spec PyProof.Rows L2 Lay

theorem all_mk {l : PySem.W.OpenLaw} {w : World} {K : PySem.W.Frag} {h : Heap} {mg : Str → Option Value} {fa f0 f1 f2 f3 f4 f5 f6 f7 f8 f9 f10 f11 f12 f13 f14 f15 f16 f17 f18 : Addr} (X : K.In h) (G : h.Ns mainGlobals mg) (hfa : mg "law" = some (.ref fa))
    {od0 an0 od1 an1 od2 an2 od3 an3 od4 an4 od5 an5 od6 an6 od7 an7 od8 an8 od9 an9 od10 an10 od11 an11 od12 an12 od13 an13 od14 an14 od15 an15 od16 an16 od17 an17 od18 an18 : Option Addr} {sl0 sl1 sl2 sl3 sl4 sl5 sl6 sl7 sl8 sl9 sl10 sl11 sl12 sl13 sl14 sl15 sl16 sl17 sl18 : Array (Option Value)} {oc0 kV0 dc0 pm0 cd0 ct0 oc1 kV1 dc1 pm1 cd1 ct1 oc2 kV2 dc2 pm2 cd2 ct2 oc3 kV3 dc3 pm3 cd3 ct3 oc4 kV4 dc4 pm4 cd4 ct4 oc5 kV5 dc5 pm5 cd5 ct5 oc6 kV6 dc6 pm6 cd6 ct6 oc7 kV7 dc7 pm7 cd7 ct7 oc8 kV8 dc8 pm8 cd8 ct8 oc9 kV9 dc9 pm9 cd9 ct9 oc10 kV10 dc10 pm10 cd10 ct10 oc11 kV11 dc11 pm11 cd11 ct11 oc12 kV12 dc12 pm12 cd12 ct12 oc13 kV13 dc13 pm13 cd13 ct13 oc14 kV14 dc14 pm14 cd14 ct14 oc15 kV15 dc15 pm15 cd15 ct15 oc16 kV16 dc16 pm16 cd16 ct16 oc17 kV17 dc17 pm17 cd17 ct17 oc18 kV18 dc18 pm18 cd18 ct18 : Value}
    (a0 : PySem.W.nsIn K mainGlobals "_least_longer" = some (some (.ref f0))) (l0 : K.lookup f0 = some ⟨oc0, od0, .func (PySem.W.fnOf "_least_longer" "_least_longer" (defArgs s_least_longer) (defBody s_least_longer) (defScope s_least_longer) .none kV0 dc0 pm0 an0 cd0 ct0), sl0⟩) (c0 : PySem.W.codeIn K cd0 "_least_longer" = true) (k0 : PySem.W.keepIn K (.ref f0) = true)
    (a1 : PySem.W.nsIn K mainGlobals "is_name" = some (some (.ref f1))) (l1 : K.lookup f1 = some ⟨oc1, od1, .func (PySem.W.fnOf "is_name" "is_name" (defArgs sis_name) (defBody sis_name) (defScope sis_name) .none kV1 dc1 pm1 an1 cd1 ct1), sl1⟩) (c1 : PySem.W.codeIn K cd1 "is_name" = true) (k1 : PySem.W.keepIn K (.ref f1) = true)
    (a2 : PySem.W.nsIn K mainGlobals "is_ascending" = some (some (.ref f2))) (l2 : K.lookup f2 = some ⟨oc2, od2, .func (PySem.W.fnOf "is_ascending" "is_ascending" (defArgs sis_ascending) (defBody sis_ascending) (defScope sis_ascending) .none kV2 dc2 pm2 an2 cd2 ct2), sl2⟩) (c2 : PySem.W.codeIn K cd2 "is_ascending" = true) (k2 : PySem.W.keepIn K (.ref f2) = true)
    (a3 : PySem.W.nsIn K mainGlobals "_law_bag" = some (some (.ref f3))) (l3 : K.lookup f3 = some ⟨oc3, od3, .func (PySem.W.fnOf "_law_bag" "_law_bag" (defArgs s_law_bag) (defBody s_law_bag) (defScope s_law_bag) .none kV3 dc3 pm3 an3 cd3 ct3), sl3⟩) (c3 : PySem.W.codeIn K cd3 "_law_bag" = true) (k3 : PySem.W.keepIn K (.ref f3) = true)
    (a4 : PySem.W.nsIn K mainGlobals "_law_draw" = some (some (.ref f4))) (l4 : K.lookup f4 = some ⟨oc4, od4, .func (PySem.W.fnOf "_law_draw" "_law_draw" (defArgs s_law_draw) (defBody s_law_draw) (defScope s_law_draw) .none kV4 dc4 pm4 an4 cd4 ct4), sl4⟩) (c4 : PySem.W.codeIn K cd4 "_law_draw" = true) (k4 : PySem.W.keepIn K (.ref f4) = true)
    (a5 : PySem.W.nsIn K mainGlobals "_law_power" = some (some (.ref f5))) (l5 : K.lookup f5 = some ⟨oc5, od5, .func (PySem.W.fnOf "_law_power" "_law_power" (defArgs s_law_power) (defBody s_law_power) (defScope s_law_power) .none kV5 dc5 pm5 an5 cd5 ct5), sl5⟩) (c5 : PySem.W.codeIn K cd5 "_law_power" = true) (k5 : PySem.W.keepIn K (.ref f5) = true)
    (a6 : PySem.W.nsIn K mainGlobals "_law_is_word" = some (some (.ref f6))) (l6 : K.lookup f6 = some ⟨oc6, od6, .func (PySem.W.fnOf "_law_is_word" "_law_is_word" (defArgs s_law_is_word) (defBody s_law_is_word) (defScope s_law_is_word) .none kV6 dc6 pm6 an6 cd6 ct6), sl6⟩) (c6 : PySem.W.codeIn K cd6 "_law_is_word" = true) (k6 : PySem.W.keepIn K (.ref f6) = true)
    (a7 : PySem.W.nsIn K mainGlobals "has_digits" = some (some (.ref f7))) (l7 : K.lookup f7 = some ⟨oc7, od7, .func (PySem.W.fnOf "has_digits" "has_digits" (defArgs shas_digits) (defBody shas_digits) (defScope shas_digits) .none kV7 dc7 pm7 an7 cd7 ct7), sl7⟩) (c7 : PySem.W.codeIn K cd7 "has_digits" = true) (k7 : PySem.W.keepIn K (.ref f7) = true)
    (a8 : PySem.W.nsIn K mainGlobals "are_names" = some (some (.ref f8))) (l8 : K.lookup f8 = some ⟨oc8, od8, .func (PySem.W.fnOf "are_names" "are_names" (defArgs sare_names) (defBody sare_names) (defScope sare_names) .none kV8 dc8 pm8 an8 cd8 ct8), sl8⟩) (c8 : PySem.W.codeIn K cd8 "are_names" = true) (k8 : PySem.W.keepIn K (.ref f8) = true)
    (a9 : PySem.W.nsIn K mainGlobals "_law_one_of" = some (some (.ref f9))) (l9 : K.lookup f9 = some ⟨oc9, od9, .func (PySem.W.fnOf "_law_one_of" "_law_one_of" (defArgs s_law_one_of) (defBody s_law_one_of) (defScope s_law_one_of) .none kV9 dc9 pm9 an9 cd9 ct9), sl9⟩) (c9 : PySem.W.codeIn K cd9 "_law_one_of" = true) (k9 : PySem.W.keepIn K (.ref f9) = true)
    (a10 : PySem.W.nsIn K mainGlobals "_law_are_words" = some (some (.ref f10))) (l10 : K.lookup f10 = some ⟨oc10, od10, .func (PySem.W.fnOf "_law_are_words" "_law_are_words" (defArgs s_law_are_words) (defBody s_law_are_words) (defScope s_law_are_words) .none kV10 dc10 pm10 an10 cd10 ct10), sl10⟩) (c10 : PySem.W.codeIn K cd10 "_law_are_words" = true) (k10 : PySem.W.keepIn K (.ref f10) = true)
    (a11 : PySem.W.nsIn K mainGlobals "is_integer" = some (some (.ref f11))) (l11 : K.lookup f11 = some ⟨oc11, od11, .func (PySem.W.fnOf "is_integer" "is_integer" (defArgs sis_integer) (defBody sis_integer) (defScope sis_integer) .none kV11 dc11 pm11 an11 cd11 ct11), sl11⟩) (c11 : PySem.W.codeIn K cd11 "is_integer" = true) (k11 : PySem.W.keepIn K (.ref f11) = true)
    (a12 : PySem.W.nsIn K mainGlobals "is_lot" = some (some (.ref f12))) (l12 : K.lookup f12 = some ⟨oc12, od12, .func (PySem.W.fnOf "is_lot" "is_lot" (defArgs sis_lot) (defBody sis_lot) (defScope sis_lot) .none kV12 dc12 pm12 an12 cd12 ct12), sl12⟩) (c12 : PySem.W.codeIn K cd12 "is_lot" = true) (k12 : PySem.W.keepIn K (.ref f12) = true)
    (a13 : PySem.W.nsIn K mainGlobals "_law_word" = some (some (.ref f13))) (l13 : K.lookup f13 = some ⟨oc13, od13, .func (PySem.W.fnOf "_law_word" "_law_word" (defArgs s_law_word) (defBody s_law_word) (defScope s_law_word) .none kV13 dc13 pm13 an13 cd13 ct13), sl13⟩) (c13 : PySem.W.codeIn K cd13 "_law_word" = true) (k13 : PySem.W.keepIn K (.ref f13) = true)
    (a14 : PySem.W.nsIn K mainGlobals "is_pair" = some (some (.ref f14))) (l14 : K.lookup f14 = some ⟨oc14, od14, .func (PySem.W.fnOf "is_pair" "is_pair" (defArgs sis_pair) (defBody sis_pair) (defScope sis_pair) .none kV14 dc14 pm14 an14 cd14 ct14), sl14⟩) (c14 : PySem.W.codeIn K cd14 "is_pair" = true) (k14 : PySem.W.keepIn K (.ref f14) = true)
    (a15 : PySem.W.nsIn K mainGlobals "is_space" = some (some (.ref f15))) (l15 : K.lookup f15 = some ⟨oc15, od15, .func (PySem.W.fnOf "is_space" "is_space" (defArgs sis_space) (defBody sis_space) (defScope sis_space) .none kV15 dc15 pm15 an15 cd15 ct15), sl15⟩) (c15 : PySem.W.codeIn K cd15 "is_space" = true) (k15 : PySem.W.keepIn K (.ref f15) = true)
    (a16 : PySem.W.nsIn K mainGlobals "_law_any" = some (some (.ref f16))) (l16 : K.lookup f16 = some ⟨oc16, od16, .func (PySem.W.fnOf "_law_any" "_law_any" (defArgs s_law_any) (defBody s_law_any) (defScope s_law_any) .none kV16 dc16 pm16 an16 cd16 ct16), sl16⟩) (c16 : PySem.W.codeIn K cd16 "_law_any" = true) (k16 : PySem.W.keepIn K (.ref f16) = true)
    (a17 : PySem.W.nsIn K mainGlobals "_law_right" = some (some (.ref f17))) (l17 : K.lookup f17 = some ⟨oc17, od17, .func (PySem.W.fnOf "_law_right" "_law_right" (defArgs s_law_right) (defBody s_law_right) (defScope s_law_right) .none kV17 dc17 pm17 an17 cd17 ct17), sl17⟩) (c17 : PySem.W.codeIn K cd17 "_law_right" = true) (k17 : PySem.W.keepIn K (.ref f17) = true)
    (a18 : PySem.W.nsIn K mainGlobals "law" = some (some (.ref f18))) (l18 : K.lookup f18 = some ⟨oc18, od18, .func (PySem.W.fnOf "law" "law" (defArgs slaw) (defBody slaw) (defScope slaw) .none kV18 dc18 pm18 an18 cd18 ct18), sl18⟩) (c18 : PySem.W.codeIn K cd18 "law" = true) (k18 : PySem.W.keepIn K (.ref f18) = true)
    {t_MAX_DIGITS : Tok} (g_MAX_DIGITS : PySem.W.nsIn K mainGlobals "MAX_DIGITS" = some (some (.int 2000 t_MAX_DIGITS)))
    {t_MAX_LETTERS : Tok} (g_MAX_LETTERS : PySem.W.nsIn K mainGlobals "MAX_LETTERS" = some (some (.int 4 t_MAX_LETTERS)))
    (z_abs : PySem.W.nsIn K mainGlobals "abs" = some none)
    (z_all : PySem.W.nsIn K mainGlobals "all" = some none)
    (z_bool : PySem.W.nsIn K mainGlobals "bool" = some none)
    (z_int : PySem.W.nsIn K mainGlobals "int" = some none)
    (z_isinstance : PySem.W.nsIn K mainGlobals "isinstance" = some none)
    (z_len : PySem.W.nsIn K mainGlobals "len" = some none)
    (z_max : PySem.W.nsIn K mainGlobals "max" = some none)
    (z_min : PySem.W.nsIn K mainGlobals "min" = some none)
    (z_range : PySem.W.nsIn K mainGlobals "range" = some none)
    (z_repr : PySem.W.nsIn K mainGlobals "repr" = some none)
    (z_sorted : PySem.W.nsIn K mainGlobals "sorted" = some none)
    (z_str : PySem.W.nsIn K mainGlobals "str" = some none)
    (z_sum : PySem.W.nsIn K mainGlobals "sum" = some none)
    (z_tuple : PySem.W.nsIn K mainGlobals "tuple" = some none)
    (z_zip : PySem.W.nsIn K mainGlobals "zip" = some none)
    : ∃ fd : FuncData, (∀ (s : Shared) (v : Value), BindsTo s fd ⟨[v], []⟩ [("_law_script", v)]) ∧ ∀ base : Heap, K.In base → base.Ns mainGlobals mg → FnQ l.prog w K mg base 6 fa fd ["_law_script"] (spLaw K) := by
  have e := hfa.symm.trans (PySem.W.mg_of X G a18)
  cases e
  have B : Bi mg := { b_abs := PySem.W.mg_none_of X G z_abs, b_all := PySem.W.mg_none_of X G z_all, b_bool := PySem.W.mg_none_of X G z_bool, b_int := PySem.W.mg_none_of X G z_int, b_isinstance := PySem.W.mg_none_of X G z_isinstance, b_len := PySem.W.mg_none_of X G z_len, b_max := PySem.W.mg_none_of X G z_max, b_min := PySem.W.mg_none_of X G z_min, b_range := PySem.W.mg_none_of X G z_range, b_repr := PySem.W.mg_none_of X G z_repr, b_sorted := PySem.W.mg_none_of X G z_sorted, b_str := PySem.W.mg_none_of X G z_str, b_sum := PySem.W.mg_none_of X G z_sum, b_tuple := PySem.W.mg_none_of X G z_tuple, b_zip := PySem.W.mg_none_of X G z_zip, c_MAX_DIGITS := ⟨t_MAX_DIGITS, PySem.W.mg_of X G g_MAX_DIGITS⟩, c_MAX_LETTERS := ⟨t_MAX_LETTERS, PySem.W.mg_of X G g_MAX_LETTERS⟩ }
  have F0 := fun_mk (st := s_least_longer) l0 c0 k0
  have D0 : DefAt K mg "_least_longer" s_least_longer ["digits"] := ⟨f0, _, F0, PySem.W.mg_of X G a0, F0.binds (ps := ["digits"]) fun _ _ _ _ _ _ us hl => match us, hl with | [_], _ => rfl⟩
  have F1 := fun_mk (st := sis_name) l1 c1 k1
  have D1 : DefAt K mg "is_name" sis_name ["value"] := ⟨f1, _, F1, PySem.W.mg_of X G a1, F1.binds (ps := ["value"]) fun _ _ _ _ _ _ us hl => match us, hl with | [_], _ => rfl⟩
  have F2 := fun_mk (st := sis_ascending) l2 c2 k2
  have D2 : DefAt K mg "is_ascending" sis_ascending ["values"] := ⟨f2, _, F2, PySem.W.mg_of X G a2, F2.binds (ps := ["values"]) fun _ _ _ _ _ _ us hl => match us, hl with | [_], _ => rfl⟩
  have F3 := fun_mk (st := s_law_bag) l3 c3 k3
  have D3 : DefAt K mg "_law_bag" s_law_bag ["_law_script", "_law_at"] := ⟨f3, _, F3, PySem.W.mg_of X G a3, F3.binds (ps := ["_law_script", "_law_at"]) fun _ _ _ _ _ _ us hl => match us, hl with | [_, _], _ => rfl⟩
  have F4 := fun_mk (st := s_law_draw) l4 c4 k4
  have D4 : DefAt K mg "_law_draw" s_law_draw ["_law_bag_here", "_law_total"] := ⟨f4, _, F4, PySem.W.mg_of X G a4, F4.binds (ps := ["_law_bag_here", "_law_total"]) fun _ _ _ _ _ _ us hl => match us, hl with | [_, _], _ => rfl⟩
  have F5 := fun_mk (st := s_law_power) l5 c5 k5
  have D5 : DefAt K mg "_law_power" s_law_power ["_law_many"] := ⟨f5, _, F5, PySem.W.mg_of X G a5, F5.binds (ps := ["_law_many"]) fun _ _ _ _ _ _ us hl => match us, hl with | [_], _ => rfl⟩
  have F6 := fun_mk (st := s_law_is_word) l6 c6 k6
  have D6 : DefAt K mg "_law_is_word" s_law_is_word ["_law_value"] := ⟨f6, _, F6, PySem.W.mg_of X G a6, F6.binds (ps := ["_law_value"]) fun _ _ _ _ _ _ us hl => match us, hl with | [_], _ => rfl⟩
  have F7 := fun_mk (st := shas_digits) l7 c7 k7
  have D7 : DefAt K mg "has_digits" shas_digits ["number", "most"] := ⟨f7, _, F7, PySem.W.mg_of X G a7, F7.binds (ps := ["number", "most"]) fun _ _ _ _ _ _ us hl => match us, hl with | [_, _], _ => rfl⟩
  have F8 := fun_mk (st := sare_names) l8 c8 k8
  have D8 : DefAt K mg "are_names" sare_names ["value"] := ⟨f8, _, F8, PySem.W.mg_of X G a8, F8.binds (ps := ["value"]) fun _ _ _ _ _ _ us hl => match us, hl with | [_], _ => rfl⟩
  have F9 := fun_mk (st := s_law_one_of) l9 c9 k9
  have D9 : DefAt K mg "_law_one_of" s_law_one_of ["_law_bag_here", "_law_items"] := ⟨f9, _, F9, PySem.W.mg_of X G a9, F9.binds (ps := ["_law_bag_here", "_law_items"]) fun _ _ _ _ _ _ us hl => match us, hl with | [_, _], _ => rfl⟩
  have F10 := fun_mk (st := s_law_are_words) l10 c10 k10
  have D10 : DefAt K mg "_law_are_words" s_law_are_words ["_law_value"] := ⟨f10, _, F10, PySem.W.mg_of X G a10, F10.binds (ps := ["_law_value"]) fun _ _ _ _ _ _ us hl => match us, hl with | [_], _ => rfl⟩
  have F11 := fun_mk (st := sis_integer) l11 c11 k11
  have D11 : DefAt K mg "is_integer" sis_integer ["value"] := ⟨f11, _, F11, PySem.W.mg_of X G a11, F11.binds (ps := ["value"]) fun _ _ _ _ _ _ us hl => match us, hl with | [_], _ => rfl⟩
  have F12 := fun_mk (st := sis_lot) l12 c12 k12
  have D12 : DefAt K mg "is_lot" sis_lot ["value"] := ⟨f12, _, F12, PySem.W.mg_of X G a12, F12.binds (ps := ["value"]) fun _ _ _ _ _ _ us hl => match us, hl with | [_], _ => rfl⟩
  have F13 := fun_mk (st := s_law_word) l13 c13 k13
  have D13 : DefAt K mg "_law_word" s_law_word ["_law_bag_here"] := ⟨f13, _, F13, PySem.W.mg_of X G a13, F13.binds (ps := ["_law_bag_here"]) fun _ _ _ _ _ _ us hl => match us, hl with | [_], _ => rfl⟩
  have F14 := fun_mk (st := sis_pair) l14 c14 k14
  have D14 : DefAt K mg "is_pair" sis_pair ["value"] := ⟨f14, _, F14, PySem.W.mg_of X G a14, F14.binds (ps := ["value"]) fun _ _ _ _ _ _ us hl => match us, hl with | [_], _ => rfl⟩
  have F15 := fun_mk (st := sis_space) l15 c15 k15
  have D15 : DefAt K mg "is_space" sis_space ["value"] := ⟨f15, _, F15, PySem.W.mg_of X G a15, F15.binds (ps := ["value"]) fun _ _ _ _ _ _ us hl => match us, hl with | [_], _ => rfl⟩
  have F16 := fun_mk (st := s_law_any) l16 c16 k16
  have D16 : DefAt K mg "_law_any" s_law_any ["_law_bag_here"] := ⟨f16, _, F16, PySem.W.mg_of X G a16, F16.binds (ps := ["_law_bag_here"]) fun _ _ _ _ _ _ us hl => match us, hl with | [_], _ => rfl⟩
  have F17 := fun_mk (st := s_law_right) l17 c17 k17
  have D17 : DefAt K mg "_law_right" s_law_right ["_law_bag_here"] := ⟨f17, _, F17, PySem.W.mg_of X G a17, F17.binds (ps := ["_law_bag_here"]) fun _ _ _ _ _ _ us hl => match us, hl with | [_], _ => rfl⟩
  have FL := fun_mk (st := slaw) l18 c18 k18
  refine ⟨PySem.W.fnOf "law" "law" (defArgs slaw) (defBody slaw) (defScope slaw) .none kV18 dc18 pm18 an18 cd18 ct18, fun s v => .of_eq rfl, fun base _ _ => ?_⟩
  have C0 := ok_least_longer (P := l.prog) (w := w) (base := base) B D0 
  have C1 := okis_name (P := l.prog) (w := w) (base := base) B D1 
  have C2 := okis_ascending (P := l.prog) (w := w) (base := base) B D2 
  have C3 := ok_law_bag (P := l.prog) (w := w) (base := base) B D3 
  have C4 := ok_law_draw (P := l.prog) (w := w) (base := base) B D4 
  have C5 := ok_law_power (P := l.prog) (w := w) (base := base) B D5 
  have C6 := ok_law_is_word (P := l.prog) (w := w) (base := base) B D6 
  have C7 := okhas_digits (P := l.prog) (w := w) (base := base) B D7 C0
  have C8 := okare_names (P := l.prog) (w := w) (base := base) B D8 C1
  have C9 := ok_law_one_of (P := l.prog) (w := w) (base := base) B D9 C4
  have C10 := ok_law_are_words (P := l.prog) (w := w) (base := base) B D10 C6
  have C11 := okis_integer (P := l.prog) (w := w) (base := base) B D11 C7
  have C12 := okis_lot (P := l.prog) (w := w) (base := base) B D12 C8 C2
  have C13 := ok_law_word (P := l.prog) (w := w) (base := base) B D13 C4 C9
  have C14 := okis_pair (P := l.prog) (w := w) (base := base) B D14 C12
  have C15 := okis_space (P := l.prog) (w := w) (base := base) B D15 C11
  have C16 := ok_law_any (P := l.prog) (w := w) (base := base) B D16 C4 C9 C5 C13
  have C17 := ok_law_right (P := l.prog) (w := w) (base := base) B D17 C16 C10 C6 C5 C8 C11 C12 C1 C14 C15
  exact oklaw B FL C3 C5 C17 C11
end K01
open PySem PySem.W PyProof.Rows
set_option maxHeartbeats 0 in
theorem PySem.Challenge.cw_lengthstell_k01_words_and_lots_holds : PySem.Challenge.rw_lengthstell_k01_words_and_lots.Holds := by
  w_on; o_law; k_head; (case hw => w_witness2)
  k_fill
  refine Lay.law_walks (l := PySem.Challenge.rw_lengthstell_k01_words_and_lots) (n := 63) (k := 6) (x := "_law_script") (sp := fun K => K01.spLaw K) rfl (by decide) rfl ⟨rfl, by decide, by decide⟩ (fun w h Y => PySem.W.kIn_of Y) ?F ?hsp
  case hsp => exact fun K H a ns hl hS => ⟨a, ns, rfl, hS, hl, fun _ => rfl⟩
  case F =>
    intro w mg fa h KX G hmg
    refine' K01.all_mk KX G hmg ?a0 ?l0 ?c0 ?k0 ?a1 ?l1 ?c1 ?k1 ?a2 ?l2 ?c2 ?k2 ?a3 ?l3 ?c3 ?k3 ?a4 ?l4 ?c4 ?k4 ?a5 ?l5 ?c5 ?k5 ?a6 ?l6 ?c6 ?k6 ?a7 ?l7 ?c7 ?k7 ?a8 ?l8 ?c8 ?k8 ?a9 ?l9 ?c9 ?k9 ?a10 ?l10 ?c10 ?k10 ?a11 ?l11 ?c11 ?k11 ?a12 ?l12 ?c12 ?k12 ?a13 ?l13 ?c13 ?k13 ?a14 ?l14 ?c14 ?k14 ?a15 ?l15 ?c15 ?k15 ?a16 ?l16 ?c16 ?k16 ?a17 ?l17 ?c17 ?k17 ?a18 ?l18 ?c18 ?k18 ?g_MAX_DIGITS ?g_MAX_LETTERS ?z_abs ?z_all ?z_bool ?z_int ?z_isinstance ?z_len ?z_max ?z_min ?z_range ?z_repr ?z_sorted ?z_str ?z_sum ?z_tuple ?z_zip
    (case a0 => k_is)
    (case l0 => k_is)
    (case c0 => k_is)
    (case k0 => k_is)
    (case a1 => k_is)
    (case l1 => k_is)
    (case c1 => k_is)
    (case k1 => k_is)
    (case a2 => k_is)
    (case l2 => k_is)
    (case c2 => k_is)
    (case k2 => k_is)
    (case a3 => k_is)
    (case l3 => k_is)
    (case c3 => k_is)
    (case k3 => k_is)
    (case a4 => k_is)
    (case l4 => k_is)
    (case c4 => k_is)
    (case k4 => k_is)
    (case a5 => k_is)
    (case l5 => k_is)
    (case c5 => k_is)
    (case k5 => k_is)
    (case a6 => k_is)
    (case l6 => k_is)
    (case c6 => k_is)
    (case k6 => k_is)
    (case a7 => k_is)
    (case l7 => k_is)
    (case c7 => k_is)
    (case k7 => k_is)
    (case a8 => k_is)
    (case l8 => k_is)
    (case c8 => k_is)
    (case k8 => k_is)
    (case a9 => k_is)
    (case l9 => k_is)
    (case c9 => k_is)
    (case k9 => k_is)
    (case a10 => k_is)
    (case l10 => k_is)
    (case c10 => k_is)
    (case k10 => k_is)
    (case a11 => k_is)
    (case l11 => k_is)
    (case c11 => k_is)
    (case k11 => k_is)
    (case a12 => k_is)
    (case l12 => k_is)
    (case c12 => k_is)
    (case k12 => k_is)
    (case a13 => k_is)
    (case l13 => k_is)
    (case c13 => k_is)
    (case k13 => k_is)
    (case a14 => k_is)
    (case l14 => k_is)
    (case c14 => k_is)
    (case k14 => k_is)
    (case a15 => k_is)
    (case l15 => k_is)
    (case c15 => k_is)
    (case k15 => k_is)
    (case a16 => k_is)
    (case l16 => k_is)
    (case c16 => k_is)
    (case k16 => k_is)
    (case a17 => k_is)
    (case l17 => k_is)
    (case c17 => k_is)
    (case k17 => k_is)
    (case a18 => k_is)
    (case l18 => k_is)
    (case c18 => k_is)
    (case k18 => k_is)
    (case g_MAX_DIGITS => k_is)
    (case g_MAX_LETTERS => k_is)
    (case z_abs => k_is)
    (case z_all => k_is)
    (case z_bool => k_is)
    (case z_int => k_is)
    (case z_isinstance => k_is)
    (case z_len => k_is)
    (case z_max => k_is)
    (case z_min => k_is)
    (case z_range => k_is)
    (case z_repr => k_is)
    (case z_sorted => k_is)
    (case z_str => k_is)
    (case z_sum => k_is)
    (case z_tuple => k_is)
    (case z_zip => k_is)
