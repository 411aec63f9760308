import PyProof.Rows.All
import Wide.All
import OpenK.AllK
import Wide.FinOn
import KE.OsRunLaw
import PyProof.EqAt
import PyProof.EqKinds
import PyProof.TupleCall
import KE.KFromBytes
import KE.KExcIs
import PyProof.ReprReads
import HandS.ForMost
import HandS.ForExc
import HandS.ExcInit
import HandS.ExcField
import HandS.ExcValue
import HandS.IsInst
import KE.KCallOwn
import HandS.Wide
import HandS.Gcd
import HandS.Property
import HandS.Defaults
import HandS.RaiseMore
import HandS.FStr
import HandS.MakeKw
import PySem.Challenge.RW_jointdraws_k02_ratios_reckoned
import HandS.Style
import HandS.ExcIs
set_option Elab.async false
set_option linter.all false
set_option maxRecDepth 100000
set_option maxHeartbeats 2000000
/-! Own layer, part A: promises of defs that hold where no nested thing is being written (Kp), and the end of a law over them. -/
namespace Vx
open PySem PySem.Spec PyProof.Rows L2

/-- as FnOk, but only where no repr of a container is under way -/
structure Kp (P : Program) (w : World) (K : PySem.W.Frag) (mg : Str → Option Value) (base : Heap) (CX : CXT)
    (k : Nat) (f : Addr) (fd : FuncData) (ps : List Str) (sp : Sp) : Prop where
  many : ∀ vs H Q E, sp vs H Q E → vs.length = ps.length
  does : ∀ (A : Around) (out : List Env) (s : Shared) (H : Hp) (args : Args) (us : List Value) (vs : List V) (Q : VK) (E : XK),
    Room k A → A.guards = some [] → Env0 P w K mg base A out s H → BindsTo s fd args (ps.zip us) → Vals vs us → sp vs H Q E →
    codeAny (model P w) A (.call (.ref f) args) (CR CX out P w H s Q E) s

section
variable {P : Program} {w : World} {K : PySem.W.Frag} {mg : Str → Option Value} {base : Heap} {CX : CXT}
  {k : Nat} {f : Addr} {fd : FuncData} {ps : List Str} {sp : Sp}
theorem Kp.of (F : FnOk P w K mg base CX k f fd ps sp) : Kp P w K mg base CX k f fd ps sp :=
  ⟨F.len, fun A out s H args us vs Q E hr _ => F.run A out s H args us vs Q E hr⟩
theorem Kp.up {j : Nat} (F : Kp P w K mg base CX j f fd ps sp) (h : j ≤ k) : Kp P w K mg base CX k f fd ps sp :=
  ⟨F.many, fun A out s H args us vs Q E hr => F.does A out s H args us vs Q E (hr.mono h)⟩

/-- a def of the text keeps its promise, by its body -/
theorem kp_fun {x qual : Str} {st : Stmt} {N : List Str} (F : Fun K x qual st f fd) (S : FnScope N ps (defScope st))
    (len : ∀ vs H Q E, sp vs H Q E → vs.length = ps.length)
    (body : ∀ (cdv : Value) (A : Around) (out : List Env) (s : Shared) (H : Hp) (vs : List V) (Q : VK) (E : XK),
      Room k (A.deeper (envOfC qual (defScope st) s.heap.objs.size f cdv)) →
      (A.deeper (envOfC qual (defScope st) s.heap.objs.size f cdv)).guards = some [] → sp vs H Q E →
      ∃ t, PSs (cxOf CX P w K mg base N qual (defScope st) f cdv A out s H E) (defBody st) t ∧
        t { nx := fun _ H' => Q .non H', rt := Q } (start N vs) H) : Kp P w K mg base CX (k + 1) f fd ps sp := by
  obtain ⟨oc, od, kV, doc, pm, an, cdv, ct, osl, rfl, lk, hcd⟩ := F.ex
  constructor
  · exact len
  · intro A out s H args us vs Q E hr hg e0 hb r hsp
    have ll := len _ _ _ _ hsp
    have inK : K.In s.heap := e0.mod.kin.keeps fun b o e => And.left (e0.bs b o e)
    have nolim : s.heap.NoLimit := e0.mod.nolimit.keeps fun b o e => And.left (e0.bs b o e)
    refine codeAny_call_function hr.depth (inK _ _ lk) rfl S.co S.gen rfl (PySem.W.codeRec_of inK hcd) (hb _ _ _ _ ?_)
    refine wpAny_newFunctionEnv_cells S.kind (fun y hy => ?_) fun env he s1 x => ?_
    · have hp := (List.of_mem_zip (show (y.1, y.2) ∈ ps.zip us from hy)).1
      rcases S.par _ hp with q | q
      · exact Or.inl q
      · exact Or.inr ⟨q, PySem.W.cellsFrom_some _ _ _ (Or.inl q)⟩
    · subst he
      refine ⟨nolim.keeps x.toInCall.keep, codeAny_func ?_⟩
      obtain ⟨t, ht, hq⟩ := body cdv A out s H vs Q E (hr.deeper _) hg hsp
      have I := inv_start (CX := CX) (mg := mg) (K := K) (N := N) (E := E) S hr.hd e0 ll r x
      refine wpAny_mono (ht.run [] s1 _ H _ I hq) (fun fl s' hs => ?_) fun _ _ z => z
      cases fl with
      | ret u => exact let ⟨v, σ', H', J, rv, q⟩ := hs; ⟨v, H', J.os, J.bare, J.base, J.hok, rv, q⟩
      | next => exact let ⟨σ', H', J, q⟩ := hs; ⟨V.non, H', J.os, J.bare, J.base, J.hok, rfl, q⟩
      | brk => exact let ⟨_, _, _, q⟩ := hs; q.elim
      | cont => exact let ⟨_, _, _, q⟩ := hs; q.elim
/-- the same where no exception leaves -/
theorem kp_fun0 {x qual : Str} {st : Stmt} {N : List Str} (F : Fun K x qual st f fd) (S : FnScope N ps (defScope st))
    (len : ∀ vs H Q E, sp vs H Q E → vs.length = ps.length)
    (body : ∀ (cdv : Value) (A : Around) (out : List Env) (s : Shared) (H : Hp) (vs : List V) (Q : VK) (E : XK),
      Room k (A.deeper (envOfC qual (defScope st) s.heap.objs.size f cdv)) →
      (A.deeper (envOfC qual (defScope st) s.heap.objs.size f cdv)).guards = some [] → sp vs H Q E →
      ∃ t, PSs (cxOf CX0 P w K mg base N qual (defScope st) f cdv A out s H E).nox (defBody st) t ∧
        t { nx := fun _ H' => Q .non H', rt := Q } (start N vs) H) : Kp P w K mg base CX0 (k + 1) f fd ps sp :=
  kp_fun F S len fun cdv A out s H vs Q E hr hg h => by
    obtain ⟨t, z, q⟩ := body cdv A out s H vs Q E hr hg h
    exact ⟨t, z.nox, q⟩
end

section
variable {X : Cx} {CX : CXT} {k : Nat} {f : Addr} {fd : FuncData} {ps : List Str} {sp : Sp} {dvs : List V} {ds : List Value} {E : XK}
  {x : Str} {p pos : Pos} {e : Expr} {es : List Expr} {t : TA}
theorem kp_run {pins : List (Addr × Obj)} {σ : L2.St} {H : Hp} {s : Shared} {Q : VK} {us : List Value} {vs : List V}
    (F : Kp X.prog X.w X.K X.mg X.base CX k f fd ps sp) (hr : Room k X.A) (hgd : X.A.guards = some []) (hb : Binds X.K fd ps ds) (hd : Vals dvs ds)
    (hx : Passes CX X E) (I : Inv X pins σ H s) (r : Vals vs us) (h : sp (vs ++ dvs) H Q E) :
    wpAny (model X.prog X.w) X.A (call (.ref f) us) (EP X pins σ Q) X.xe s := by
  have rr := Vals.append r hd
  have ll : (us ++ ds).length = ps.length := rr.length.symm.trans (F.many _ _ _ _ h)
  have go := F.does X.A X.stack s H ⟨us, []⟩ _ _ Q E hr hgd I.env0 (hb s us I.kIn ll) rr h
  refine wpAny_call (codeAny_mono go fun res s' hq => ?_)
  match res, hq with
  | .error e, hq => exact hx pins σ H s e s' I hq
  | .ok (.ret u), hq => exact I.after hq
/-- f(e, ..) -/
theorem pe_kp (F : Kp X.prog X.w X.K X.mg X.base CX k f fd ps sp) (hr : Room k X.A) (hgd : X.A.guards = some []) (hg : Gl X x)
    (hm : X.mg x = some (.ref f)) (hk : PySem.W.keepIn X.K (.ref f) = true) (hb : Binds X.K fd ps ds) (hd : Vals dvs ds) (hx : Passes CX X E) (ha : PA X (e :: es) t)
    (hdb : (x == ("__debug__" : Str)) = false := by decide)
    (he : starEach (e :: es) X.env = (false, eval e X.env) :: starEach es X.env := by rfl)
    (hpl : (backTo pos (starEach es X.env)).any (·.1) = false := by rfl) : PE X (.Call (.Name x p) (e :: es) [] pos) (tCall sp dvs E t) :=
  ⟨fun pins s σ H Q I h => wpAny_Call_Name_kw (ld_glob I hg hm
    (PySem.W.callWith_K (h₀ := X.base) I.ok.mod.kin hk (thn (ha.run pos pins s σ H _ I h) fun us s1 ⟨vs, H1, J, r, q⟩ =>
      ⟨J.kIn, kp_run F hr hgd hb hd hx J r q⟩) he hpl) hdb)⟩
/-- f() -/
theorem pe_kp0 (F : Kp X.prog X.w X.K X.mg X.base CX k f fd ps sp) (hr : Room k X.A) (hgd : X.A.guards = some []) (hg : Gl X x)
    (hm : X.mg x = some (.ref f)) (hk : PySem.W.keepIn X.K (.ref f) = true) (hb : Binds X.K fd ps ds) (hd : Vals dvs ds) (hx : Passes CX X E)
    (hdb : (x == ("__debug__" : Str)) = false := by decide) : PE X (.Call (.Name x p) [] [] pos) (tCall sp dvs E tNil) :=
  ⟨fun pins s σ H Q I h => wpAny_Call_Name_kw (ld_glob I hg hm
    (PySem.W.callWith_K0 I.kIn hk (kp_run (us := []) F hr hgd hb hd hx I .nil h)) hdb)⟩
end

/-- what the law's own call is told: over the heap behind the top, the script alone being tracked -/
theorem law_kp {P : Program} {w : World} {K : PySem.W.Frag} {mg mb : Str → Option Value} {CX : CXT} {k : Nat} {fa a : Addr} {fd : FuncData} {x : Str}
    {sp : Sp} {s₁ : Shared} {vs : List Value} {ns : List Int} (KX : K.In s₁.heap) (hns : s₁.heap.Ns mainGlobals mg) (hb : s₁.heap.Ns builtinsNs mb)
    (hbb : ∀ x : Str, x ≠ "__name__" → mb x = bootBuiltins x) (hlim : s₁.heap.NoLimit) (hg : s₁.gens = #[])
    (ha : s₁.heap.get? a = some { cls := .type "list", data := .seq vs.toArray }) (hi : IntsAre vs ns) (hl : ns.length ≤ sizeLine) (hr : Room k callerA)
    (F : ∀ base : Heap, K.In base → base.Ns mainGlobals mg → Kp P w K mg base CX k fa fd [x] sp)
    (hbind : ∀ (s : Shared) (u : Value), BindsTo s fd ⟨[u], []⟩ [(x, u)])
    (hsp : ∀ H : Hp, Only H → SqL K H a (ns.map V.int) → sp [.ref a] H (fun v _ => v = .bl true) fun _ _ _ => False)
    (hCX : ∀ H e s', CX [] H s₁ (fun _ _ _ => False) e s' → False) :
    codeAny (model P w) callerA (.call (.ref fa) ⟨[.ref a], []⟩)
      (fun r s' => r = .ok (.ret (.bool true)) ∧ OldK s₁.heap s'.heap ∧ s'.os = s₁.os ∧ AllBare s'.gens) s₁ := by
  have rv := vals_ints hi
  let ob : Obj := { cls := .type "list", data := .seq vs.toArray }
  -- the heap in which the script alone may be tracked: at a or nowhere
  have main : ∀ H : Hp, (∀ b, b ≠ a → H b = none) → (H a = none ∨ (H a = some (.frz ob (.lst (ns.map V.int))) ∧ K.lookup a = none)) → SqL K H a (ns.map V.int) →
      codeAny (model P w) callerA (.call (.ref fa) ⟨[.ref a], []⟩)
        (fun r s' => r = .ok (.ret (.bool true)) ∧ OldK s₁.heap s'.heap ∧ s'.os = s₁.os ∧ AllBare s'.gens) s₁ := by
    intro H off at_ hS
    have only : Only H := fun b => by
      by_cases e : b = a
      · subst e
        rcases at_ with z | ⟨z, _⟩
        · exact .inl z
        · exact .inr ⟨_, _, z⟩
      · exact .inl (off b e)
    have hok : HOk P w H s₁.heap := fun b u e => by
      by_cases q : b = a
      · subst q
        rcases at_ with z | ⟨z, _⟩
        · rw [z] at e; cases e
        · rw [z] at e; cases e
          exact ⟨ha, by rw [List.length_map]; exact hl, vs, _, rv, ha⟩
      · rw [off b q] at e; cases e
    have dictOff : ∀ {b : Addr} {o : Obj} {es : Array DictEntry} {ep : Nat}, s₁.heap.get? b = some o → o.data = .dict es ep → H b = none := fun {b o es ep} e d => by
      by_cases q : b = a
      · subst q
        rw [ha] at e
        cases e
        cases (show Data.seq vs.toArray _ = Data.dict es ep from d)
      · exact off b q
    have ns_of : ∀ {b : Addr} {m : Str → Option Value}, s₁.heap.Ns b m → (hidT s₁.heap H).Ns b m := fun {b m} z => by
      obtain ⟨o, es, ep, e, d, r⟩ := z
      exact ⟨o, es, ep, hidT_get e (dictOff e d), d, r⟩
    have kin : K.In (hidT s₁.heap H) := fun b o e => hidT_get (KX b o e) (by
      by_cases q : b = a
      · subst q
        rcases at_ with z | ⟨_, z⟩
        · exact z
        · rw [z] at e; cases e
      · exact off b q)
    have hM : Mod K mg (hidT s₁.heap H) := ⟨kin, ns_of hns, ⟨mb, ns_of hb, hbb⟩, by obtain ⟨mc, h1, h2⟩ := hlim; exact ⟨mc, ns_of h1, h2⟩⟩
    have e0 : Env0 P w K mg (hidT s₁.heap H) callerA [] s₁ H :=
      { frames := rfl, mod := hM, bs := fun b o e => of_hidT e, bsz := Nat.le_of_eq (hidT_size _ _), funs := trivial,
        frf := fun b z => absurd (show b ∈ ([] : List Addr) from z) List.not_mem_nil, hok := hok, bare := .of_eq hg }
    have run := (F _ kin (ns_of hns)).does callerA [] s₁ H ⟨[.ref a], []⟩ [.ref a] [.ref a] _ _ hr rfl e0 (hbind s₁ (.ref a)) (.cons rfl .nil) (hsp H only hS)
    refine codeAny_mono run fun res s' h => ?_
    match res, h with
    | .error e, h => exact (hCX H e s' h).elim
    | .ok (.ret u), h =>
      obtain ⟨v, H', os, bare, un, hok', ru, q⟩ := h
      obtain rfl : v = .bl true := q
      obtain rfl : u = Value.bool true := ru
      refine ⟨rfl, OldK.of_keep fun b o e => ?_, os, bare⟩
      by_cases q : H b = none
      · exact un.keep b o e q (fun z => absurd (show b ∈ ([] : List Addr) from z) List.not_mem_nil) List.not_mem_nil
      · rcases only b with z | ⟨o2, xs, z⟩
        · exact absurd z q
        · have t1 := (hok b _ z).1
          have t2 := (hok' b _ (un.frzs b o2 _ z)).1
          rw [e] at t1
          cases t1
          exact t2
  cases hk : K.lookup a with
  | some o =>
    have e := KX a o hk
    rw [ha] at e
    cases e
    exact main (fun _ => none) (fun _ _ => rfl) (.inl rfl)
      (.inr ⟨_, vs.toArray, _, hk, rfl, rfl, rfl, by rw [List.size_toArray, hi.length]; exact hl, by simpa using rv⟩)
  | none =>
    refine main (fun b => if b = a then some (.frz ob (.lst (ns.map V.int))) else none) (fun b q => if_neg q) (.inr ⟨if_pos rfl, hk⟩) (.inl (.inr ⟨ob, if_pos rfl⟩))

/-- the goal that the head leaves, by the law's promise -/
theorem walk_kp {l : PySem.W.OpenLaw} {n k : Nat} {q : Program} {loose : List Str} {XP : (Str → Option Value) → Heap → Prop} {YP : World → Heap → Prop} {d : DefRec}
    {K : Params → PySem.W.Frag} {CX : World → CXT} {sp : World → Sp} {x : Str} (hn : l.most = some n) (hn2 : n ≤ sizeLine) (hdf : d.params.defaults = []) (hr : Room k callerA)
    (hY : ∀ (w : World) (h : Heap), YP w h → (K w.params).In h)
    (F : ∀ (w : World) (mg : Str → Option Value) (fa : Addr) (h : Heap), (K w.params).In h → h.Ns mainGlobals mg → mg d.name = some (.ref fa) →
      ∃ fd : FuncData, (∀ (s : Shared) (u : Value), BindsTo s fd ⟨[u], []⟩ [(x, u)]) ∧
        ∀ base : Heap, (K w.params).In base → base.Ns mainGlobals mg → Kp l.prog w (K w.params) mg base (CX w) k fa fd [x] (sp w))
    (hsp : ∀ (w : World) (H : Hp) (a : Addr) (ns : List Int), ns.length ≤ n → Only H → SqL (K w.params) H a (ns.map V.int) → sp w [.ref a] H (fun v _ => v = .bl true) fun _ _ _ => False)
    (hCX : ∀ (w : World) (H : Hp) (s : Shared) (e : Value) (s' : Shared), CX w [] H s (fun _ _ _ => False) e s' → False) :
    PySem.W.WalkO q loose XP YP l.row.toRowW d [] (fun f vs => PySem.call f vs) := by
  apply Att.attach_call hn hdf
  intro w s₀ s₁ mg mb fa o pm cd doc a vs ns G Y ho hd hcd hmg hobj hints hlen hg
  have kin := hY w _ Y
  obtain ⟨fd, bind, keeps⟩ := F w mg fa _ kin G.T.g hmg
  exact law_kp kin G.T.g G.T.b G.T.builtins G.T.nolimit hg hobj hints (Nat.le_trans hlen hn2) hr keeps bind
    (fun H hO hS => hsp w H a ns hlen hO hS) fun H e s' => hCX w H s₁ e s'
end Vx

set_option Elab.async false
set_option linter.all false
set_option maxRecDepth 100000
set_option maxHeartbeats 4000000
/-! Own layer, part B: exceptions of own classes (below a base below ValueError), made by position or by keyword, as values. -/
namespace PySem
namespace Vex
open PySem.W PySem.Calls PyProof.Rows PySem.HandSPX
section
variable {M : Model} {A : Around} {E : Value → Shared → Prop} {hh : Heap} {gg : Array GenState} {dd : Drawn} {tt : Nat} {oo : OsState}
variable {nm qn : Str} {C N : Addr} {bs bm bmB : List Value} {hdct : Bool} {sn : List Str} {sub : List Value} {ab : Bool} {col : Option Bool} {dr : Option Addr}
  {k0 k1 k2 k3 k5 : Option Value} {B newId initId : String}
theorem check_new_kw (F : ExcBaseFacts B newId initId bmB) (same : ∀ X : String, bm.contains (.type X) = bmB.contains (.type X)) {rest : List Value} {kw : List (Str × Value)} {Q : Unit → Shared → Prop}
    (at_ : hh.get? C = some (excClassObj nm qn C N bs bm hdct sn sub ab col dr k0 k1 k2 k3 k5 newId)) (go : Q () ⟨hh, gg, dd, tt, oo⟩) :
    wpAny M A (checkBuiltinCall newId ⟨.ref C :: rest, kw⟩) Q E ⟨hh, gg, dd, tt, oo⟩ := by
  have inB : (Value.ref C :: bm).contains (.type B) = true := by rw [List.contains_cons, same, F.hasB]; simp
  have nostar := F.noStar
  simp only [checkBuiltinCall, F.newSplit, F.newRow, F.newKind]
  repeat (first
    | refine wpAny_loadPart_at at_ ?_
    | (refine wpAny_isSubtype_exc at_ ?_; rw [inB])
    | refine wpAny_staticBase_exc at_ ?_
    | refine wpAny_madeBy_exc at_ ?_
    | simp only [Bool.false_eq_true, bne_self_eq_false, if_false]
    | wp_step)
  exact go
end
section
variable {prog : Program} {w : World} {A : Around} {E : Value → Shared → Prop} {R : Result → Shared → Prop} {hh : Heap} {gg : Array GenState} {dd : Drawn} {tt : Nat} {oo : OsState}
variable {nm qn : Str} {C N : Addr} {bs bm bmB : List Value} {hdct : Bool} {sn : List Str} {sub : List Value} {ab : Bool} {col : Option Bool} {dr : Option Addr}
  {k0 k1 k2 k3 k5 : Option Value} {B newId initId : String}
/-- the heap behind the making: the arguments' tuple, the exception -/
abbrev laidE (hh : Heap) (C : Addr) (rest : List Value) : Heap := (hh.push (W.kdv_tup rest)).push (excO C hh.objs.size)
theorem new_kw (F : ExcBaseFacts B newId initId bmB) (same : ∀ X : String, bm.contains (.type X) = bmB.contains (.type X)) {rest : List Value} {kw : List (Str × Value)}
    (at_ : hh.get? C = some (excClassObj nm qn C N bs bm hdct sn sub ab col dr k0 k1 k2 k3 k5 newId)) (small : rest.length ≤ sizeLine)
    (go : R (.ok (.ret (.ref (hh.objs.size + 1)))) ⟨laidE hh C rest, gg, dd, tt, oo⟩) :
    codeAny (model prog w) A (.builtin newId ⟨.ref C :: rest, kw⟩) R ⟨hh, gg, dd, tt, oo⟩ := by
  have ends := F.ends
  have inB : (Value.ref C :: bm).contains (.type B) = true := by rw [List.contains_cons, same, F.hasB]; simp
  have notA : (Value.ref C :: bm).contains (.type "AttributeError") = false := by rw [List.contains_cons, same, F.noAttr]; rfl
  have notN : (Value.ref C :: bm).contains (.type "NameError") = false := by rw [List.contains_cons, same, F.noName]; rfl
  apply codeAny_builtinAt F.entry
  unfold Builtin.«BaseException.__new__»
  apply wpAt_bind
  show wpAt _ _ _ (stack >>= _) _ _ _
  refine wpAt_bind (wpAt_stack fun p below => ?_)
  apply wpAt_of_wpAny
  wp_walk
  apply wpAt_of_wpAny
  rw [F.owner]
  repeat (first
    | with_reducible refine wpAny_madeHere_exc F.canon at_ ?_
    | with_reducible refine wpAny_loadPart_at at_ ?_
    | (with_reducible refine wpAny_isSubtype_exc at_ ?_; first | rw [inB] | rw [notA] | rw [notN])
    | wp_step)
  show R _ _
  rw [Heap.size_push]
  exact go
theorem type_call_kw (F : ExcBaseFacts B newId initId bmB) (same : ∀ X : String, bm.contains (.type X) = bmB.contains (.type X)) {rest : List Value} {kw : List (Str × Value)} {fI : Addr} {Q : Fin → Shared → Prop}
    (at_ : hh.get? C = some (excClassObj nm qn C N bs bm hdct sn sub ab col dr k0 k1 k2 k3 k5 newId))
    (hi : W.Looks (model prog w) hh (typeLookup (.ref C) "__init__") (some (.ref fI))) (hb : ∀ self, W.Looks (model prog w) hh (bindSpecial (.ref fI) self) (.ref fI, [self])) (small : rest.length ≤ sizeLine)
    (go : codeAny (model prog w) A (.call (.ref fI) ⟨.ref (hh.objs.size + 1) :: rest, kw⟩)
      (fun r s' => match r with | .ok (.ret v) => v = .none ∧ Q (.done (.ret (.ref (hh.objs.size + 1)))) s' | .ok _ => False | .error e => E e s') ⟨laidE hh C rest, gg, dd, tt, oo⟩) :
    wpAny (model prog w) A (Builtin.«type.__call__» ⟨.ref C :: rest, kw⟩) Q E ⟨hh, gg, dd, tt, oo⟩ := by
  repeat (first
    | with_reducible refine wpAny_loadPart_at at_ ?_
    | with_reducible refine wpAny_madeBy_exc at_ ?_
    | wp_step)
  refine codeAny_call_builtin_code (Code.quiet_builtin _ F.quiet) (check_new_kw F same at_ (new_kw F same at_ small ?_))
  show wpAny _ _ _ _ _ _
  have stay : ∀ b o, hh.get? b = some o → (laidE hh C rest).get? b = some o := fun b o e => Heap.get?_push_of_some _ (Heap.get?_push_of_some _ e)
  have at1 := stay _ _ at_
  have new1 : (laidE hh C rest).get? (hh.objs.size + 1) = some (excO C hh.objs.size) := by heap_get
  have self1 : (Value.ref C :: bm).contains (.ref C) = true := by simp
  have i1 := hi.keeps stay
  have b1 := (hb (.ref (hh.objs.size + 1))).keeps stay
  unfold isInstance
  repeat (first
    | with_reducible refine wpAny_loadPart_at new1 ?_
    | (with_reducible refine wpAny_isSubtype_exc at1 ?_; rw [self1])
    | wp_step)
  show wpAny _ _ (typeLookup (.ref C) _) _ _ _
  apply i1.at
  apply wpAny_holding
  apply wpAny_bind
  apply b1.at
  refine wpAny_bind (wpAny_call (codeAny_mono go fun r s' z => ?_))
  match r, z with
  | .error e, z => exact z
  | .ok (.ret v), ⟨e, z⟩ =>
    subst e
    first
      | exact wpAny_pure (wpAny_pure z)
      | (wp_walk; exact z)
theorem call_kw (F : ExcBaseFacts B newId initId bmB) (same : ∀ X : String, bm.contains (.type X) = bmB.contains (.type X)) {rest : List Value} {kw : List (Str × Value)} {fI : Addr}
    (at_ : hh.get? C = some (excClassObj nm qn C N bs bm hdct sn sub ab col dr k0 k1 k2 k3 k5 newId))
    (hi : W.Looks (model prog w) hh (typeLookup (.ref C) "__init__") (some (.ref fI))) (hb : ∀ self, W.Looks (model prog w) hh (bindSpecial (.ref fI) self) (.ref fI, [self])) (small : rest.length ≤ sizeLine)
    (go : codeAny (model prog w) (A.under (.builtin "type.__call__" ⟨.ref C :: rest, kw⟩)) (.call (.ref fI) ⟨.ref (hh.objs.size + 1) :: rest, kw⟩) (W.InitBack (hh.objs.size + 1) R) ⟨laidE hh C rest, gg, dd, tt, oo⟩) :
    codeAny (model prog w) A (.call (.ref C) ⟨rest, kw⟩) R ⟨hh, gg, dd, tt, oo⟩ := by
  have l1 := tc_lookup
  have l2 := tc_bind (.ref C)
  have ty : (⟨hh, gg, dd, tt, oo⟩ : Shared).TypeIs (.ref C) "type" := ⟨_, at_, rfl⟩
  apply codeAny_of_tree
  show wpAny _ _ (callAny (.ref C) _) _ _ _
  repeat (any_goals (first | assumption | with_reducible refine wpAny_loadPart_at at_ ?_ | wp_step))
  refine ⟨rfl, codeAny_call_builtin_at (Code.quiet_builtin _ (by decide +kernel)) entry_typeCall (wpAny_check_type_call_sub at_ (type_call_kw F same at_ hi hb small (codeAny_mono go fun r s' z => ?_)))⟩
  match r, z with
  | .error _, z => exact z
  | .ok (.ret _), z => exact z
end
end Vex
end PySem

set_option Elab.async false
set_option linter.all false
set_option maxRecDepth 100000
set_option maxHeartbeats 4000000
/-! Own layer, part C: exceptions of own classes as values: made, their field read, isinstance; repr. -/
namespace Vx
open PySem PySem.Spec PyProof.Rows L2

/-- an exception of the class at C, with one field, stands at p -/
def ErrAt (H : Hp) (p C : Addr) (fld : Str) (v : V) : Prop := ∃ d, H p = some (exo p C (some d)) ∧ H d = some (exd d [(fld, v)])
theorem ErrAt.same {H H' : Hp} {p C : Addr} {fld : Str} {v : V} (s : Same H H') (e : ErrAt H p C fld v) : ErrAt H' p C fld v := by
  obtain ⟨d, h1, h2⟩ := e
  exact ⟨d, s _ _ h1, s _ _ h2⟩
/-- an exception of the class at C, whatever it keeps -/
def ErrOf (H : Hp) (p C : Addr) : Prop := H p = some (exo p C none) ∨ ∃ d fs, H p = some (exo p C (some d)) ∧ H d = some (exd d fs)
theorem ErrAt.of {H : Hp} {p C : Addr} {fld : Str} {v : V} (e : ErrAt H p C fld v) : ErrOf H p C := by
  obtain ⟨d, h1, h2⟩ := e
  exact .inr ⟨d, _, h1, h2⟩
theorem ErrOf.same {H H' : Hp} {p C : Addr} (s : Same H H') (e : ErrOf H p C) : ErrOf H' p C := by
  rcases e with e | ⟨d, fs, h1, h2⟩
  · exact .inl (s _ _ e)
  · exact .inr ⟨d, fs, s _ _ h1, s _ _ h2⟩

/-- what the written part says of such a class and its __init__ -/
structure ErC (K : PySem.W.Frag) (C fI : Addr) (fld : Str) : Prop where
  ox : OexC K C
  no : PySem.W.findIn K (.ref C) fld = some none
  iC : PySem.W.findIn K (.ref C) "__init__" = some (some (.ref fI))
  tI : PySem.W.typeIn K (.ref fI) = some (.type "function")
/-- .. for isinstance -/
structure IsC (K : PySem.W.Frag) (C : Addr) : Prop where
  cl : (PySem.W.clsIn K C).isSome = true
  xf : XfC K C
  ha : PySem.W.findIn K (.ref C) "__class__" = some (some (.builtin "object.__class__"))
  hn : PySem.W.specialIn K (.builtin "object.__class__") "__get__" = some (some (.builtin "getset_descriptor.__get__"))
  tk : PySem.W.takesIn K (.builtin "object.__class__") = some true
  hm : PySem.W.mroIn K C (.type "object") = some true

/-- __init__(self, fld): self.fld = fld -/
def spE (K : PySem.W.Frag) (C : Addr) (fld : Str) : Sp := fun vs H Q _ => ∃ (a : Addr) (v : V), vs = [.ref a, v] ∧ H a = some (exo a C none) ∧
  ∀ d, H d = none → d ≠ a → Q .non (upd (upd H d (exd d [(fld, v)])) a (exo a C (some d)))
theorem ok_einit {P : Program} {w : World} {K : PySem.W.Frag} {mg : Str → Option Value} {base : Heap} {st : Stmt} {qual fld : Str} {C fI : Addr} {fd : FuncData} {p1 p2 p3 p4 : Pos}
    (T : ErC K C fI fld) (F : Fun K "__init__" qual st fI fd) (hb : defBody st = [.Assign [.Attribute (.Name "self" p1) fld p2] (.Name fld p3) p4])
    (sc : FnScope ["self", fld] ["self", fld] (defScope st)) (l1 : (defScope st).names.lookup ("self" : Str) = some NameKind.local) (l2 : (defScope st).names.lookup fld = some NameKind.local)
    (n1 : (fld == ("__debug__" : Str)) = false) (n2 : (fld == ("__classdict__" : Str)) = false) : FnOk P w K mg base CX0 1 fI fd ["self", fld] (spE K C fld) := by
  refine F.ok sc (fun vs H Q E h => ?_) (fun cdv A outer s H vs Q E hr h => ?_)
  · obtain ⟨a, v, rfl, _⟩ := h
    rfl
  · obtain ⟨a, v, rfl, ha, go⟩ := h
    rw [hb]
    refine ⟨_, pss_one (ps_ost (pe_var (i := 0) rfl (.inl l1) (by decide) (by decide)) (pe_var (i := 1) rfl (.inl l2) n1 n2)), ?_⟩
    exact ⟨_, rfl, _, rfl, a, C, rfl, T.ox, T.no, .inl ⟨ha, fun dx n ne => go dx n ne⟩⟩

section
variable {X : Cx} {pins : List (Addr × Obj)} {σ : L2.St} {H : Hp} {s : Shared} {C fI : Addr} {fld x : Str} {fd : FuncData} {k : Nat}
theorem run_mkE {Q : VK} {us : List Value} {kw : List (Str × Value)} {u : Value} {v : V} (T : ErC X.K C fI fld) (F1 : FnOk X.prog X.w X.K X.mg X.base CX0 k fI fd ["self", fld] (spE X.K C fld))
    (hr : Room (k + 1) X.A) (small : us.length ≤ 1000) (I : Inv X pins σ H s) (r : RelV v u)
    (bind : ∀ (s' : Shared) (a : Value), X.K.In s'.heap → BindsTo s' fd ⟨a :: us, kw⟩ ((["self", fld] : List Str).zip [a, u]))
    (q : ∀ p H2, Same H H2 → H p = none → ErrAt H2 p C fld v → Q (.ref p) H2) : wpAny (model X.prog X.w) X.A (call (.ref C) us kw) (EP X pins σ Q) X.xe s := by
  obtain ⟨nm, qn, N, bs, bm, sn, sub, ab, col, dd, k0, k1, k2, k3, k5, hC, hbm⟩ := T.ox.cls
  obtain ⟨hp, g, dr, tk, os⟩ := s
  have big : hp.objs.size ≤ hp.objs.size + 1 := Nat.le_succ _
  have fresh : H (hp.objs.size + 1) = none := I.hok.fresh big
  have stay : ∀ b o, hp.get? b = some o → (Vex.laidE hp C us).get? b = some o := fun b o e => Heap.get?_push_of_some _ (Heap.get?_push_of_some _ e)
  have there : (Vex.laidE hp C us).get? (hp.objs.size + 1) = some (PySem.HandSPX.excO C hp.objs.size) := by
    show ((hp.push _).push _).get? _ = _
    heap_get
  have J : Inv X pins σ (upd H (hp.objs.size + 1) (exo (hp.objs.size + 1) C none)) ⟨Vex.laidE hp C us, g, dr, tk, os⟩ :=
    I.laid (t' := tk) (a := hp.objs.size + 1) (o := exo (hp.objs.size + 1) C none) (h' := Vex.laidE hp C us) stay big (exo_ok there)
  have want : spE X.K C fld [.ref (hp.objs.size + 1), v] (upd H (hp.objs.size + 1) (exo (hp.objs.size + 1) C none)) (fun z H2 => z = .non ∧ Q (.ref (hp.objs.size + 1)) H2) E0 := by
    refine ⟨_, v, rfl, upd_same, fun d hd ne => ⟨rfl, q _ _ (fun b o e => ?_) fresh ⟨d, upd_same, (upd_ne ne).trans upd_same⟩⟩⟩
    have hd' : H d = none := by
      rw [upd_ne ne] at hd
      exact hd
    rw [upd_ne (ne_of_none e fresh), upd_ne (ne_of_none e hd'), upd_ne (ne_of_none e fresh)]
    exact e
  have lus : us.length ≤ sizeLine := by
    rw [sizeLine_eq]
    omega
  have go := F1.run _ X.stack _ _ ⟨Value.ref (hp.objs.size + 1) :: us, kw⟩ [Value.ref (hp.objs.size + 1), u] _ _ E0 (hr.make C us kw) (J.env0.make C us kw) (bind _ _ J.kIn) (show Vals [V.ref (hp.objs.size + 1), v] [Value.ref (hp.objs.size + 1), u] from .cons rfl (.cons r .nil)) want
  refine wpAny_call (Vex.call_kw F.excBase_ValueError (fun Y => PySem.HandSPX.refsVE_contains Y bm hbm) (I.kIn _ _ hC) (PySem.W.looks_findIn I.kIn T.iC) (fun self => PySem.W.bind_fn I.kIn self T.tI) lus (codeAny_mono go fun res s' z => ?_))
  match res, z with
  | .ok (.ret u'), z =>
    obtain ⟨v', H2, J2, rv, ev, q2⟩ := J.after z
    subst ev
    exact ⟨rv, .ref _, H2, J2, rfl, q2⟩

/-- a class of errors as the law's defs use it -/
structure Ecl (P : Program) (w : World) (K : PySem.W.Frag) (mg : Str → Option Value) (base : Heap) (x : Str) (C : Addr) (fld : Str) : Prop where
  gC : mg x = some (.ref C)
  is : IsC K C
  no : PySem.W.findIn K (.ref C) fld = some none
  mks : ∃ fI fd, ErC K C fI fld ∧ FnOk P w K mg base CX0 1 fI fd ["self", fld] (spE K C fld) ∧
    (∀ (s : Shared) (a u : Value), K.In s.heap → BindsTo s fd ⟨[a, u], []⟩ ((["self", fld] : List Str).zip [a, u])) ∧
    (∀ (s : Shared) (a u : Value), K.In s.heap → BindsTo s fd ⟨[a], [(fld, u)]⟩ ((["self", fld] : List Str).zip [a, u]))
end

/-- x(e): a new error -/
def tErr (C : Addr) (fld : Str) (te : TE) : TE := fun σ H Q => te σ H fun v H1 => ∀ p H2, Same H1 H2 → H1 p = none → ErrAt H2 p C fld v → Q (.ref p) H2
section
variable {X : Cx} {C : Addr} {fld x : Str} {e : Expr} {te : TE} {p pos kpos : Pos}
theorem pe_mkE (T : Ecl X.prog X.w X.K X.mg X.base x C fld) (hr : Room 2 X.A) (he : PE X e te) (hg : Gl X x := by rfl) (hdb : (x == ("__debug__" : Str)) = false := by decide)
    (hs : starEach [e] X.env = (false, eval e X.env) :: starEach [] X.env := by rfl) : PE X (.Call (.Name x p) [e] [] pos) (tErr C fld te) := by
  refine ⟨fun pins s σ H Q I h => wpAny_Call_Name_kw (ld_glob I hg T.gC ?_ hdb)⟩
  obtain ⟨fI, fd, T1, F1, b1, b2⟩ := T.mks
  refine PySem.W.callWith_K (h₀ := X.base) I.ok.mod.kin T1.ox.kC ?_ hs (by rfl)
  rw [hs]
  show wpAny _ _ (spliced ((false, eval e X.env) :: backTo pos (starEach [] X.env))) _ _ s
  refine Calls.spliced_cons (thn (he.run pins s σ H _ I h) fun u s1 ⟨v, H1, J, ru, q⟩ => Calls.spliced_nil ⟨J.kIn, ?_⟩)
  exact run_mkE (us := [u]) (kw := []) T1 F1 hr (by show 1 ≤ 1000; decide) J ru (fun s' a kin => b1 s' a u kin) q
/-- x(fld=e) -/
theorem pe_mkEk (T : Ecl X.prog X.w X.K X.mg X.base x C fld) (hr : Room 2 X.A) (he : PE X e te) (hg : Gl X x := by rfl) (hdb : (x == ("__debug__" : Str)) = false := by decide) :
    PE X (.Call (.Name x p) [] [⟨some fld, e, kpos⟩] pos) (tErr C fld te) := by
  refine ⟨fun pins s σ H Q I h => wpAny_Call_Name_kw (ld_glob I hg T.gC ?_ hdb)⟩
  obtain ⟨fI, fd, T1, F1, b1, b2⟩ := T.mks
  refine PySem.W.callWith_KW0 (h₀ := X.base) I.ok.mod.kin T1.ox.kC (by rfl) ?_ (by rfl)
  show wpAny _ _ (evalAll [do let v ← eval e X.env; standAt pos; pure v]) _ _ s
  refine wpAny_evalAll_cons (wpAny_bind (thn (he.run pins s σ H _ I h) fun u s1 ⟨v, H1, J, ru, q⟩ => wpAny_bind (wpAny_standAt (wpAny_pure (wpAny_evalAll_nil ⟨J.kIn, ?_⟩)))))
  exact run_mkE (us := []) (kw := [(fld, u)]) T1 F1 hr (by show 0 ≤ 1000; decide) J ru (fun s' a kin => b2 s' a u kin) q
/-- e.fld of such an error -/
def tEfld (K : PySem.W.Frag) (n : Str) (te : TE) : TE := fun σ H Q => te σ H fun y H1 => ∃ (a C : Addr) (v : V), y = .ref a ∧ XfC K C ∧ PySem.W.findIn K (.ref C) n = some none ∧ ErrAt H1 a C n v ∧ Q v H1
theorem pe_efld {n : Str} (he : PE X e te) (hb : attributeBase e n X.env (eval e X.env) = eval e X.env := by rfl) : PE X (.Attribute e n pos) (tEfld X.K n te) := by
  refine ⟨fun pins s σ H Q I h => attr_of hb (thn (he.run pins s σ H _ I h) fun u s1 z => ?_)⟩
  obtain ⟨y, H1, J, ru, a, C, v, rfl, T, no, ⟨d, h1, h2⟩, q⟩ := z
  obtain rfl : u = Value.ref a := ru
  obtain ⟨t1, ob⟩ := exo_at J.hok h1
  obtain ⟨mA, ns, rel⟩ := exd_at J.hok h2
  obtain ⟨od, hod, look⟩ := lookIn_ns ns
  obtain ⟨u, hu, rv⟩ := RelO.some_of (v := v) (o := mA n) (by
    have := rel n
    rw [lookup_put, if_pos rfl] at this
    exact this)
  have at_ : PySem.W.InstAt s1.heap a _ C (some od) := ⟨ob, rfl, rfl, hod⟩
  exact PySem.HandSPX.exc_get J.kIn at_ T.ga T.gg T.exC (PySem.W.findObj_own T.hdC no rfl (by rw [look, hu])) (handed_of rv) ⟨v, H1, J.tok _, rv, q⟩
/-- isinstance(e, c) of such an error -/
def rIsx (K : PySem.W.Frag) : List V → Hp → VK → Prop := fun xs H Q => ∃ (a C : Addr) (c : V) (u : Value) (b : Bool), xs = [.ref a, c] ∧ ClsV c u ∧ ErrOf H a C ∧ IsC K C ∧ PySem.W.kitOne K (.ref C) u = some b ∧ Q (.bl b) H
theorem call_isx : CallR X (.builtin "isinstance") (rIsx X.K) := by
  intro pins s σ H xs us Q I r h
  obtain ⟨a, C, c, u, b, rfl, kc, er, T, e, q⟩ := h
  obtain ⟨u1, u2, rfl, r1, r2⟩ := vals2 r
  obtain rfl := kc.eq r2
  obtain rfl : u1 = Value.ref a := r1
  have kit : ∀ ox od, PySem.W.KitX X.K (.ref a) (.ref C) (fun h => PySem.W.InstAt h a ox C od) := fun ox od =>
    PySem.W.kitx_exc T.cl T.xf.ga T.xf.gg T.xf.exC T.ha T.hn T.tk T.hm
  rcases er with h1 | ⟨d, fs, h1, h2⟩
  · obtain ⟨t1, ob⟩ := exo_at I.hok h1
    exact PySem.W.kia_one (kit _ none) I.kIn ⟨ob, rfl, rfl, trivial⟩ e (fun z => nomatch z) fun tk => ⟨.bl b, H, I.tok tk, rfl, q⟩
  · obtain ⟨t1, ob⟩ := exo_at I.hok h1
    obtain ⟨mA, ns, rel⟩ := exd_at I.hok h2
    obtain ⟨od, hod, look⟩ := lookIn_ns ns
    exact PySem.W.kia_one (kit _ (some od)) I.kIn ⟨ob, rfl, rfl, hod⟩ e (fun z => nomatch z) fun tk => ⟨.bl b, H, I.tok tk, rfl, q⟩
end
/-- x(), a class of errors without an __init__ of its own -/
def tErr0 (C : Addr) : TE := fun _ H Q => ∀ p H2, Same H H2 → H p = none → ErrOf H2 p C → Q (.ref p) H2
theorem pe_mkE0 {X : Cx} {C : Addr} {x : Str} {p pos : Pos} {bmB : List Value} {B newId initId : String} (F : ExcBaseFacts B newId initId bmB) (q : PySem.W.excIn X.K C bmB newId = true)
    (gC : X.mg x = some (.ref C)) (kC : PySem.W.keepIn X.K (.ref C) = true) (hg : Gl X x := by rfl) (hdb : (x == ("__debug__" : Str)) = false := by decide) : PE X (.Call (.Name x p) [] [] pos) (tErr0 C) := by
  refine ⟨fun pins s σ H Q I h => wpAny_Call_Name_kw (ld_glob I hg gC (PySem.W.callWith_K0 I.kIn kC ?_) hdb)⟩
  show wpAny _ _ (call (.ref C) []) _ _ _
  obtain ⟨bm, N, nm, qn, bs, hdct, sn, sub, ab, col, dd, k0, k1, k2, k3, k5, mN, at_, hN, hni, T⟩ := exc_obj I.kIn q
  refine wpAny_call_exc_subT F T at_ hN hni (fun h' a made => ?_) (Nat.zero_le _)
  have fresh : H a = none := I.hok.gone made.new
  obtain ⟨t, ob, _, _⟩ := made.there
  have J := I.laidN (t' := s.toks) (o := exo a C none) made.keeps made.new fresh (exo_ok ob)
  exact ⟨.ref a, _, J, rfl, h a _ (fun b o e => by rw [upd_ne (ne_of_none e fresh)]; exact e) fresh (.inl upd_same)⟩

/-- a value as data: what Dp says, or a dict of one text and one int (the things that laws hand in) -/
inductive Dr (K : PySem.W.Frag) (H : Hp) : V → PyData → Prop where
  | of {v : V} {d : PyData} (h : Dp K H v d) (nd : d.hasDict = false) : Dr K H v d
  | one {a : Addr} {x : Str} {i : Int} (h : H a = some (.dK [(Sum.inr x, .int i)])) : Dr K H (.ref a) (.dict [(.str x, .int i)])
  | empty {a : Addr} (h : H a = some (.dK [])) : Dr K H (.ref a) (.dict [])
theorem Dr.reads {X : Cx} {pins : List (Addr × Obj)} {σ : L2.St} {H : Hp} {s : Shared} (I : Inv X pins σ H s) {v : V} {d : PyData} {u : Value} (h : Dr X.K H v d) (r : RelV v u) :
    ∃ as, Reads s.heap u d as ∧ (d.hasDict = true → sysModules ∉ as) := by
  cases h with
  | of h nd =>
    obtain ⟨as, q⟩ := Dp.reads I d v u h r
    exact ⟨as, q, PyData.noDict_hsm nd⟩
  | @one a x i h =>
    obtain rfl : u = Value.ref a := r
    obtain ⟨_, ns, vs, rel, o, es, ep, ho, hx, hd, _, hp, _⟩ := (show ObjOk X.prog X.w H s.heap a (.dK [(Sum.inr x, V.int i)]) from I.hok a _ h)
    have ne : sysModules ≠ a := fun z => by
      rw [z] at ns
      simp at ns
    cases rel with
    | @cons _ q0 _ _ r1 r2 =>
      cases r2
      obtain ⟨q1, q2⟩ := q0
      obtain ⟨e1, t2, rv⟩ := r1
      obtain rfl : Sum.inr x = q1 := e1
      obtain rfl : q2 = Value.int i t2 := rv
      obtain ⟨l⟩ := es
      cases hp with
      | @cons e0 _ es' _ isk ev rest =>
        cases rest
        obtain ⟨t, ek⟩ := Value.isStrOf_shape (x := x) (v := e0.key) isk
        refine ⟨_, Reads.dict ho hx.1 hd (as := []) (bs := []) ?_ ?_, fun _ z => ?_⟩
        · show ReadsAll s.heap [e0.key] [PyData.str x] []
          rw [ek]
          exact ReadsAll.cons (as := []) (bs := []) (Reads.str x t) ReadsAll.nil
        · show ReadsAll s.heap [e0.val] [PyData.int i] []
          rw [show e0.val = Value.int i t2 from ev]
          exact ReadsAll.cons (as := []) (bs := []) (Reads.int i t2) ReadsAll.nil
        · exact ne (List.mem_singleton.mp z)
  | @empty a h =>
    obtain rfl : u = Value.ref a := r
    obtain ⟨_, ns, vs, rel, o, es, ep, ho, hx, hd, _, hp, _⟩ := (show ObjOk X.prog X.w H s.heap a (.dK []) from I.hok a _ h)
    have ne : sysModules ≠ a := fun z => by
      rw [z] at ns
      simp at ns
    cases rel
    obtain ⟨l⟩ := es
    cases hp
    exact ⟨_, Reads.dict ho hx.1 hd (as := []) (bs := []) ReadsAll.nil ReadsAll.nil, fun _ z => ne (List.mem_singleton.mp z)⟩
/-- repr(v): the text of the data -/
def rRepr (K : PySem.W.Frag) (bound : Nat) : List V → Hp → VK → Prop := fun xs H Q => ∃ v d, xs = [v] ∧ Dr K H v d ∧ d.showable = true ∧ d.depth < bound ∧ d.shown.length ≤ sizeLine ∧ Q (.str d.shown) H
theorem call_reprD {X : Cx} (hg : X.A.guards = some []) (hu : X.A.units + 64 < cLine) : CallR X (.builtin "repr") (rRepr X.K 60) := by
  intro pins s σ H xs us Q I r h
  obtain ⟨v, d, rfl, dr, sh, dep, sz, q⟩ := h
  obtain ⟨u, rfl, ru⟩ := vals1 r
  obtain ⟨as, rd, nosys⟩ := dr.reads I ru
  have fin : ∀ h' t tk, (∀ b o, s.heap.get? b = some o → h'.get? b = some o) → EP X pins σ Q (.str d.shown t) { s with heap := h', toks := tk } :=
    fun h' t tk keep => ⟨.str d.shown, H, I.kept keep, ⟨t, rfl⟩, q⟩
  cases rd with
  | none => exact PySem.P.repr_of_none (fin s.heap _ _ fun _ _ e => e)
  | bool b => exact PySem.P.repr_of_bool (fin s.heap _ _ fun _ _ e => e)
  | int i t => exact PySem.P.repr_of_int (by simpa [PyData.showable] using sh) (fin s.heap _ _ fun _ _ e => e)
  | str x t => exact PySem.P.repr_of_str (fin s.heap _ _ fun _ _ e => e) (by simpa [PyData.shown] using sz)
  | list h1 h2 h3 h4 => exact repr_of_reads' (.list h1 h2 h3 h4) sh nosys hg (by omega) (fun _ _ e => e) fin sz
  | tuple h1 h2 h3 h4 => exact repr_of_reads' (.tuple h1 h2 h3 h4) sh nosys hg (by omega) (fun _ _ e => e) fin sz
  | dict h1 h2 h3 h4 h5 => exact repr_of_reads' (.dict h1 h2 h3 h4 h5) sh nosys hg (by omega) (fun _ _ e => e) fin sz
end Vx

set_option Elab.async false
set_option linter.all false
set_option maxRecDepth 100000
set_option maxHeartbeats 4000000
/-! Own layer, part E: what the written part says of a class of errors, by one look. -/
namespace Vx
open PySem PySem.Spec PyProof.Rows L2
/-- all that is asked of such a class but its own object -/
def errB (K : PySem.W.Frag) (C fI : Addr) (fld : Str) : Bool :=
  decide (PySem.W.findIn K (.ref C) "__setattr__" = some (some (.builtin "object.__setattr__"))) && (decide (PySem.W.subIn K (.ref C) (.type "BaseException") = some true) &&
  (decide (PySem.W.typeIn K (.ref C) = some (.type "type")) && (PySem.W.keepIn K (.ref C) && (decide (PySem.W.findIn K (.ref C) fld = some none) &&
  (decide (PySem.W.findIn K (.ref C) "__init__" = some (some (.ref fI))) && (decide (PySem.W.typeIn K (.ref fI) = some (.type "function")) && PySem.W.keepIn K (.ref fI)))))))
def isB (K : PySem.W.Frag) (C : Addr) : Bool :=
  (PySem.W.clsIn K C).isSome && (xfB K C && (decide (PySem.W.findIn K (.ref C) "__class__" = some (some (.builtin "object.__class__"))) &&
  (decide (PySem.W.specialIn K (.builtin "object.__class__") "__get__" = some (some (.builtin "getset_descriptor.__get__"))) && (decide (PySem.W.takesIn K (.builtin "object.__class__") = some true) &&
  decide (PySem.W.mroIn K C (.type "object") = some true)))))
theorem isB_ok {K : PySem.W.Frag} {C : Addr} (h : isB K C = true) : IsC K C := by
  unfold isB at h
  simp only [Bool.and_eq_true, decide_eq_true_eq] at h
  obtain ⟨h1, h2, h3, h4, h5, h6⟩ := h
  exact ⟨h1, xfB_ok h2, h3, h4, h5, h6⟩
theorem ecl_mk {P : Program} {w : World} {K : PySem.W.Frag} {h : Heap} {mg : Str → Option Value} {x : Str} {C fI : Addr} {fld : Str} {st : Stmt} {p1 p2 p3 p4 : Pos}
    {nm q : Str} {N : Addr} {bs bm : List Value} {sn : List Str} {sub : List Value} {ab : Bool} {col : Option Bool} {dd : Option Addr} {m0 m1 m2 m3 m5 : Option Value} {qual : Str}
    {od an : Option Addr} {sl : Array (Option Value)} {oc kV dc pm cd ct : Value} (X : K.In h) (G : h.Ns mainGlobals mg)
    (aC : PySem.W.nsIn K mainGlobals x = some (some (.ref C)))
    (xL : K.lookup C = some (excClassObj nm q C N bs bm true sn sub ab col dd m0 m1 m2 m3 m5 "ValueError.__new__")) (hbm : PySem.HandSPX.refsVE bm = true)
    (eB : errB K C fI fld = true) (iB : isB K C = true)
    (l1 : K.lookup fI = some ⟨oc, od, .func (PySem.W.fnOf "__init__" qual (defArgs st) (defBody st) (defScope st) .none kV dc pm an cd ct), sl⟩) (c1 : PySem.W.codeIn K cd qual = true)
    (hb : defBody st = [.Assign [.Attribute (.Name "self" p1) fld p2] (.Name fld p3) p4])
    (sc : FnScope ["self", fld] ["self", fld] (defScope st)) (v1 : (defScope st).names.lookup ("self" : Str) = some NameKind.local) (v2 : (defScope st).names.lookup fld = some NameKind.local)
    (n1 : (fld == ("__debug__" : Str)) = false) (n2 : (fld == ("__classdict__" : Str)) = false)
    (b1 : ∀ (a u : Value), bindArgs (PySem.W.fnOf "__init__" qual (defArgs st) (defBody st) (defScope st) .none kV dc pm an cd ct) ⟨[a, u], []⟩ = pure ((["self", fld] : List Str).zip [a, u]))
    (b2 : ∀ (a u : Value), bindArgs (PySem.W.fnOf "__init__" qual (defArgs st) (defBody st) (defScope st) .none kV dc pm an cd ct) ⟨[a], [(fld, u)]⟩ = pure ((["self", fld] : List Str).zip [a, u]))
    (base : Heap) : Ecl P w K mg base x C fld := by
  unfold errB at eB
  simp only [Bool.and_eq_true, decide_eq_true_eq] at eB
  obtain ⟨sa, exC, tyC, kC, no, iC, tI, kI⟩ := eB
  have T : ErC K C fI fld := ⟨⟨⟨nm, q, N, bs, bm, sn, sub, ab, col, dd, m0, m1, m2, m3, m5, xL, hbm⟩, sa, exC, tyC, kC⟩, no, iC, tI⟩
  have F := fun_mk (st := st) l1 c1 kI
  exact ⟨PySem.W.mg_of X G aC, isB_ok iB, no, fI, _, T, ok_einit T F hb sc v1 v2 n1 n2, fun s a u _ => .of_eq (b1 a u), fun s a u _ => .of_eq (b2 a u)⟩
end Vx

set_option Elab.async false
set_option linter.all false
set_option maxRecDepth 100000
set_option maxHeartbeats 4000000
/-! Own layer, part R: operators where one side is an instance of a class of the program, the other one of another kind. -/
namespace PySem.Vr
open PySem PySem.W PySem.Calls PyProof.Rows

section
variable {prog : Program} {w : World} {M : Model} {A : Around} {E : Value → Shared → Prop} {s : Shared} {K : Frag} {x C f : Addr} {ox : Obj} {od : Option Obj}

/-- the object is no int and no text -/
theorem looks_asInt {h : Heap} (ho : h.get? x = some ox) (hd : ox.data = .plain) : Looks M h (asInt? (.ref x)) none := by
  refine (Looks.ld (part := none) ho).andThen ?_
  simp only [hd]
  exact .now
theorem looks_asStr {h : Heap} (ho : h.get? x = some ox) (hd : ox.data = .plain) : Looks M h (asStr? (.ref x)) none := by
  refine (Looks.ld (part := none) ho).andThen ?_
  simp only [hd]
  exact .now
/-- a slot of two ints (or a bool) declines it -/
theorem intBin_no {n : String} {g : Int → Int → Sem Fin} {refl : Bool} {v : Value} {R : Fin → Shared → Prop} (hv : (∃ i t, v = .int i t) ∨ ∃ b, v = .bool b) (ho : s.heap.get? x = some ox) (hd : ox.data = .plain)
    (q : R (.done (.ret .notImplemented)) s) : wpAny M A (Builtin.Int.intBinary n g refl ⟨[v, .ref x], []⟩) R E s := by
  unfold Builtin.Int.intBinary
  refine wpAny_bind (m := slotArgs n 1 _) (wpAny_pure ?_)
  refine wpAny_bind (m := Builtin.Int.intOfSelf v) (Q := R) ?_
  have one : ∃ j, asInt? v = pure (some j) := by
    rcases hv with ⟨i, t, rfl⟩ | ⟨b, rfl⟩
    · exact ⟨_, rfl⟩
    · exact ⟨_, rfl⟩
  obtain ⟨j, e⟩ := one
  unfold Builtin.Int.intOfSelf
  refine wpAny_bind (wpAny_of_eq e (wpAny_pure ?_))
  refine wpAny_bind (m := asInt? (.ref x)) ((looks_asInt ho hd).here ?_)
  exact wpAny_bind (wpAny_rule (wpAny_pure q))
theorem strCmp_no {n : String} {g : List Nat → List Nat → Bool} {z : Str} {t : Tok} {R : Fin → Shared → Prop} (ho : s.heap.get? x = some ox) (hd : ox.data = .plain)
    (q : R (.done (.ret .notImplemented)) s) : wpAny M A (Builtin.Str.strCompare n g ⟨[.str z t, .ref x], []⟩) R E s := by
  unfold Builtin.Str.strCompare
  refine wpAny_bind (m := Builtin.Str.strSlot n 1 _) (wpAny_pure ?_)
  refine wpAny_bind (m := asStr? (.ref x)) ((looks_asStr ho hd).here ?_)
  exact wpAny_bind (wpAny_rule (wpAny_pure q))

/-- a method of a type that declines -/
theorem try_no {T : String} {name : Str} {id : String} {B : Builtin} {v b : Value} {Q : Option Value → Shared → Prop} (hT : s.TypeIs v T) (slot : Slot T name id) (entry : entryFor table id = some B) (args : argsOk id ⟨[v, b], []⟩)
    (body : ∀ (A' : Around) (R : Fin → Shared → Prop) (E' : Value → Shared → Prop), R (.done (.ret .notImplemented)) s → wpAny (model prog w) A' (B ⟨[v, b], []⟩) R E' s) (q : Q none s) :
    wpAny (model prog w) A (tryMethod v name b) Q E s := by
  unfold tryMethod
  exact wpAny_bind (wpAny_callSpecial?_slot hT slot (wpAny_call (codeAny_call_builtin slot.plain entry (slot.check _ _ _ _ _ _ _ _ hT args (body _ _ _ (wpAny_pure q))))))
theorem cmp_no {T : String} {name : Str} {id : String} {B : Builtin} {v b : Value} {Q : Option Value → Shared → Prop} (hT : s.TypeIs v T) (slot : Slot T name id) (entry : entryFor table id = some B) (args : argsOk id ⟨[v, b], []⟩)
    (body : ∀ (A' : Around) (R : Fin → Shared → Prop) (E' : Value → Shared → Prop), R (.done (.ret .notImplemented)) s → wpAny (model prog w) A' (B ⟨[v, b], []⟩) R E' s) (q : Q none s) :
    wpAny (model prog w) A (tryCompare v name b) Q E s :=
  wpAny_tryCompare_declines hT slot (wpAny_call (codeAny_call_builtin slot.plain entry (slot.check _ _ _ _ _ _ _ _ hT args (body _ _ _ ⟨rfl, q⟩))))

/-- an int on the left, an instance with the reflected method on the right -/
theorem bin_int {op : Operator} {i : Int} {t : Tok} {f0 : Addr} {Q : Value → Shared → Prop} (X : K.In s.heap) (I : InstAt s.heap x ox C od) (hc : selfFirst K C = true)
    (hs0 : findIn K (.ref C) (PySem.dunder op.info.2) = some (some (.ref f0))) (hs : findIn K (.ref C) (dunderR op.info.2) = some (some (.ref f))) (hf : isFn K (.ref f) = true)
    (fi : fillsNumberSlot (.type "int") op.info.2 = pure true) (hm : mroIn K C (.type "int") = some false)
    (no : ∀ (A' : Around) (Q : Option Value → Shared → Prop) (E' : Value → Shared → Prop), Q none s → wpAny (model prog w) A' (tryMethod (.int i t) (PySem.dunder op.info.2) (.ref x)) Q E' s)
    (h : wpAny (model prog w) A (call (.ref f) [.ref x, .int i t]) (PySem.W.CmpBack Q) E s) : wpAny (model prog w) A (binaryOp op (.int i t) (.ref x)) Q E s := by
  obtain ⟨cd, rest, hcd, hm'⟩ := ksp_first hc
  rcases hi : op.info with ⟨sym, nm⟩
  rw [hi] at hs0 hs fi no
  dsimp only at hs0 hs fi no
  have one := ksp_try X I hs hf h
  obtain ⟨hh, g, d, tt, os⟩ := s
  have L1 : Looks (model prog w) hh (typeOf (.ref x)) (.ref C) := I.type
  have L2 : Looks (model prog w) hh (typeOf (.int i t)) (.type "int") := Looks.of_pure rfl
  have L3 : Looks (model prog w) hh (fillsNumberSlot (.ref C) nm) true := fills_K X hcd hm' hs0
  have L4 : Looks (model prog w) hh (fillsNumberSlot (.type "int") nm) true := Looks.of_pure fi
  have L5 : Looks (model prog w) hh (isSubtype (.ref C) (.type "int")) false := looks_mroIn X hm
  have L7 : Looks (model prog w) hh (numberSlotInPython (.type "int") nm) false := Looks.of_pure rfl
  have hne : (Value.type "int" == Value.ref C) = false := Bool.eq_false_iff.mpr fun q => by cases beq_iff_eq.mp q
  simp only [binaryOp, hi]
  refine wpAny_holding (wpAny_bind ?_)
  unfold binaryOp1
  refine wpAny_bind (L2.at (wpAny_bind (L1.at (wpAny_bind (L4.at ?_)))))
  simp only [hne, Bool.false_eq_true, if_false]
  ksp_lk
  refine no _ _ _ ?_
  ksp_lk
  refine wpAny_mono one (fun r s' hr' => ?_) fun _ _ e => e
  obtain ⟨v, rfl, hq⟩ := hr'
  ksp_lk
  exact hq

/-- two instances of one class -/
theorem bin1_own {nm : String} {b : Value} {Q : Value → Shared → Prop} {R : Option Value → Shared → Prop} (X : K.In s.heap) (I : InstAt s.heap x ox C od) (hb : Looks (model prog w) s.heap (typeOf b) (.ref C)) (hc : selfFirst K C = true)
    (hs : findIn K (.ref C) (PySem.dunder nm) = some (some (.ref f))) (hf : isFn K (.ref f) = true) (hR : ∀ v s', Q v s' → R (some v) s')
    (h : wpAny (model prog w) A (call (.ref f) [.ref x, b]) (PySem.W.CmpBack Q) E s) : wpAny (model prog w) A (binaryOp1 nm (.ref x) b) R E s := by
  obtain ⟨cd, rest, hcd, hm⟩ := ksp_first hc
  have one := ksp_try X I hs hf h
  obtain ⟨hh, g, d, tt, os⟩ := s
  have L1 : Looks (model prog w) hh (typeOf (.ref x)) (.ref C) := I.type
  have L2 : Looks (model prog w) hh (typeOf b) (.ref C) := hb
  have L3 : Looks (model prog w) hh (fillsNumberSlot (.ref C) nm) true := fills_K X hcd hm hs
  unfold binaryOp1
  refine wpAny_bind (L1.at (wpAny_bind (L2.at (wpAny_bind (L3.at ?_)))))
  simp only [beq_self_eq_true, if_true]
  ksp_lk
  refine wpAny_mono one (fun r s' hr' => ?_) fun _ _ e => e
  obtain ⟨v, rfl, hq⟩ := hr'
  ksp_lk
  exact hR _ _ hq
/-- no method in place -/
theorem fillsI_no {h : Heap} {cd : ClassData} {nm : String} {add : Bool} (X : K.In h) (hc : clsIn K C = some cd) (hm : cd.mro = [.ref C, .type "object"]) (hs : findIn K (.ref C) (dunderI nm) = some none)
    (ho : typeLookup (.type "object") (dunderI nm) = pure none) : Looks M h (fillsInplaceSlot (.ref C) nm add) false := by
  intro A Q E s k q
  have Lm : Looks M h (mroOf (.ref C)) cd.mro := (looks_clsIn X hc).andThen (f := fun cd => pure cd.mro) .now
  have Lm' := Lm.keeps k
  obtain ⟨hh, g, d, tt, os⟩ := s
  have X' : K.In hh := X.keeps k
  have L1 : Looks M hh (typeLookup (.ref C) (dunderI nm)) none := looks_findIn X' hs
  have L2 : Looks M hh (typeLookup (.type "object") (dunderI nm)) none := Looks.of_pure ho
  unfold fillsInplaceSlot
  refine wpAny_bind (Lm'.at ?_)
  rw [hm, List.anyM_cons]
  refine wpAny_bind ?_
  refine wpAny_bind (L1.at (wpAny_pure ?_))
  simp only [Bool.false_eq_true, if_false]
  rw [List.anyM_cons]
  refine wpAny_bind ?_
  refine wpAny_bind (L2.at (wpAny_pure ?_))
  simp only [Bool.false_eq_true, if_false]
  exact wpAny_pure q
theorem inp_own {op : Operator} {b : Value} {cd : ClassData} {Q : Value → Shared → Prop} (X : K.In s.heap) (I : InstAt s.heap x ox C od) (hb : Looks (model prog w) s.heap (typeOf b) (.ref C)) (hc : selfFirst K C = true)
    (hcd : clsIn K C = some cd) (hm : cd.mro = [.ref C, .type "object"]) (hi : findIn K (.ref C) (dunderI op.info.2) = some none) (ho : typeLookup (.type "object") (dunderI op.info.2) = pure none)
    (hs : findIn K (.ref C) (PySem.dunder op.info.2) = some (some (.ref f))) (hf : isFn K (.ref f) = true)
    (h : wpAny (model prog w) A (call (.ref f) [.ref x, b]) (PySem.W.CmpBack Q) E s) : wpAny (model prog w) A (inplaceOp op (.ref x) b) Q E s := by
  unfold inplaceOp
  refine wpAny_holding ?_
  refine wpAny_bind (I.type.here (wpAny_bind ((fillsI_no X hcd hm hi ho).here ?_)))
  simp only [Bool.false_eq_true, if_false]
  exact wpAny_bind (m := binaryOp1 op.info.2 (.ref x) b) (bin1_own X I hb hc hs hf (fun v s' hq => wpAny_pure hq) h)
end
end PySem.Vr

set_option Elab.async false
set_option linter.all false
set_option maxRecDepth 100000
set_option maxHeartbeats 4000000
/-! Own layer, part R2: == and != where one side is an instance of a class of the program. -/
namespace PySem.Vr
open PySem PySem.W PySem.Calls PyProof.Rows

section
variable {prog : Program} {w : World} {M : Model} {A : Around} {E : Value → Shared → Prop} {s : Shared} {K : Frag} {x C f : Addr} {ox : Obj} {od : Option Obj}

/-- a method of object, found at an instance, called where the model looks whether it can be bound -/
theorem ifBound_bi {name : Str} {id : String} {args : List Value} {Q : Option Value → Shared → Prop} (X : K.In s.heap) (I : PySem.W.InstAt s.heap x ox C od) (hs : findIn K (.ref C) name = some (some (.builtin id)))
    (hb : ∀ self, bindSpecial (.builtin id) self = pure (.builtin id, [self])) (h : wpAny M A (call (.builtin id) (.ref x :: args)) (fun v => Q (some v)) E s) : wpAny M A (callSpecialIfBound? (.ref x) name args) Q E s := by
  simp only [callSpecialIfBound?, bindSpecialIfBound?]
  refine wpAny_holding (wpAny_bind (wpAny_bind (wpAny_bind (I.type.here ((looks_findIn X hs).here ?_)))))
  refine wpAny_bind (wpAny_askSetting (wpAny_ite ?_))
  have fin : wpAny M A (call (.builtin id) ([.ref x] ++ args) >>= fun v => pure (some v)) Q E s := wpAny_bind (wpAny_mono h (fun v s' h' => wpAny_pure h') fun _ _ h' => h')
  split
  · exact wpAny_bind (wpAny_of_eq (hb _) (wpAny_pure (by exact fin)))
  · exact wpAny_tryCatch (wpAny_bind (wpAny_of_eq (hb _) (wpAny_pure (by exact fin))))

/-- object's own != by the class's == -/
theorem call_objNe {b : Value} {Q : Value → Shared → Prop} (hu : A.in1.units < cLine) (X : K.In s.heap) (I : PySem.W.InstAt s.heap x ox C od) (hm : mroIn K C (.type "object") = some true) (hs : findIn K (.ref C) "__eq__" = some (some (.ref f)))
    (hf : isFn K (.ref f) = true) (h : wpAny (model prog w) A.in1 (call (.ref f) [.ref x, b]) (fun v s' => ∃ r, v = .bool r ∧ Q (.bool (!r)) s') E s) :
    wpAny (model prog w) A (call (.builtin "object.__ne__") [.ref x, b]) Q E s := by
  refine wpAny_call (codeAny_call_builtin PySem.F.cmp_object.ne.plain PySem.F.cmpEntry_ne (check_slot PySem.F.cmpKind_ne PySem.F.cmpSplit_ne (I.type.andThen (looks_mroIn X hm)) (PySem.F.cmpArgs_ne _ _) ?_))
  unfold Builtin.«object.__ne__»
  refine wpAny_bind (m := slotArgs "__ne__" 1 _) (wpAny_pure ?_)
  refine wpAny_bind (m := cRoomFor _ _) (wpAny_cRoomFor hu ?_)
  refine wpAny_bind (m := callSpecialIfBound? (.ref x) (Str.ofString "__eq__") _) (ifBound_K X I hs hf (wpAny_mono h (fun r s' hq => ?_) fun _ _ y => y))
  obtain ⟨r, rfl, q⟩ := hq
  exact wpAny_bind (wpAny_truthy_bool (wpAny_pure q))

/-- an instance on the left of != -/
theorem ne_left {b tb : Value} {Q : Value → Shared → Prop} (hu : A.units < cLine) (hu1 : A.in1.units < cLine) (X : K.In s.heap) (I : PySem.W.InstAt s.heap x ox C od) (hb : Looks (model prog w) s.heap (typeOf b) tb) (hn : notFirst K C tb = true)
    (hne : findIn K (.ref C) "__ne__" = some (some (.builtin "object.__ne__"))) (hm : mroIn K C (.type "object") = some true) (hs : findIn K (.ref C) "__eq__" = some (some (.ref f)))
    (hf : isFn K (.ref f) = true) (h : wpAny (model prog w) A.in1 (call (.ref f) [.ref x, b]) (fun v s' => ∃ r, v = .bool r ∧ Q (.bool (!r)) s') E s) : wpAny (model prog w) A (richCompare .NotEq (.ref x) b) Q E s := by
  have one : wpAny (model prog w) A (tryCompare (.ref x) "__ne__" b) (fun r s' => ∃ v, r = some v ∧ Q v s') E s := by
    unfold tryCompare
    refine wpAny_bind (ifBound_bi X I hne PySem.F.cmp_object.ne.bind (call_objNe hu1 X I hm hs hf (wpAny_mono h (fun v s' hv => ?_) fun _ _ e => e)))
    obtain ⟨r, rfl, q⟩ := hv
    exact ⟨r, rfl, wpAny_pure ⟨_, rfl, q⟩⟩
  unfold richCompare
  simp only [oneThing_ref]
  refine wpAny_holding (wpAny_bind (wpAny_cRoomFor hu ?_))
  rw [cmpInfo_NotEq]
  dsimp only
  refine wpAny_bind (I.type.here (wpAny_bind (hb.here ?_)))
  split
  · rename_i q
    have e : subIn K tb (.ref C) = some false := by
      rcases Bool.or_eq_true_iff.mp hn with e | e
      · rw [beq_iff_eq.mp e] at q; simp at q
      · exact beq_iff_eq.mp e
    refine wpAny_bind ((looks_subIn X e).here ?_)
    simp only [Bool.false_eq_true, if_false]
    refine wpAny_bind (wpAny_mono one (fun r s' z => ?_) fun _ _ e => e)
    obtain ⟨v, rfl, hq⟩ := z
    exact wpAny_pure hq
  · refine wpAny_bind (wpAny_pure ?_)
    simp only [Bool.false_eq_true, if_false]
    refine wpAny_bind (wpAny_mono one (fun r s' z => ?_) fun _ _ e => e)
    obtain ⟨v, rfl, hq⟩ := z
    exact wpAny_pure hq

/-- an instance on the right of ==, a thing of a built-in type that declines on the left -/
theorem eq_right {T : String} {b : Value} {Q : Value → Shared → Prop} (hu : A.units < cLine) (X : K.In s.heap) (I : PySem.W.InstAt s.heap x ox C od) (hT : s.TypeIs b T) (hm : mroIn K C (.type T) = some false)
    (no : ∀ (A' : Around) (Q : Option Value → Shared → Prop) (E' : Value → Shared → Prop), Q none s → wpAny (model prog w) A' (tryCompare b "__eq__" (.ref x)) Q E' s)
    (hs : findIn K (.ref C) "__eq__" = some (some (.ref f))) (hf : isFn K (.ref f) = true)
    (h : wpAny (model prog w) A (call (.ref f) [.ref x, b]) (PySem.W.CmpBack Q) E s) : wpAny (model prog w) A (richCompare .Eq b (.ref x)) Q E s := by
  have one : wpAny (model prog w) A (tryCompare (.ref x) "__eq__" b) (fun r s' => ∃ v, r = some v ∧ Q v s') E s := by
    unfold tryCompare
    refine wpAny_bind (ifBound_K X I hs hf (wpAny_mono h (fun v s' hv => ?_) fun _ _ e => e))
    cases v <;> first | exact hv.elim | exact wpAny_pure ⟨_, rfl, hv⟩
  unfold richCompare
  simp only [hT.oneThing_none]
  refine wpAny_holding (wpAny_bind (wpAny_cRoomFor hu ?_))
  rw [cmpInfo_Eq]
  dsimp only
  refine wpAny_bind (wpAny_typeOf hT (wpAny_bind (I.type.here ?_)))
  rw [if_pos (show (Value.type T != Value.ref C) = true from by simp [bne])]
  refine wpAny_bind (m := isSubtype (.ref C) (.type T)) ((looks_mroIn X hm).here ?_)
  simp only [Bool.false_eq_true, if_false, Bool.not_false, if_true]
  refine wpAny_bind (no _ _ _ ?_)
  refine wpAny_bind (wpAny_mono one (fun r s' z => ?_) fun _ _ e => e)
  obtain ⟨v, rfl, hq⟩ := z
  exact wpAny_pure hq

theorem looks_isa {h : Heap} {b : Value} {r : Bool} (X : K.In h) (I : PySem.W.InstAt h x ox C od) (hm : mroIn K C b = some r) : Looks M h (isInstance (.ref x) b) r := by
  unfold isInstance
  exact I.type.andThen (looks_mroIn X hm)
/-- the built-in types that decline it -/
theorem no_none {Q : Option Value → Shared → Prop} (q : Q none s) : wpAny (model prog w) A (tryCompare .none "__eq__" (.ref x)) Q E s :=
  wpAny_tryCompare_declines (show s.TypeIs .none "NoneType" from rfl) PySem.F.slot_NoneType_eq_refl (call_gives PySem.F.slot_NoneType_eq_refl rfl PySem.F.entry_NoneType_eq (PySem.F.args_NoneType_eq_2 _ _) (SeqAt.NoneType___eq___none_ref_0 x) ⟨rfl, q⟩)
theorem no_int {i : Int} {t : Tok} {Q : Option Value → Shared → Prop} (ho : s.heap.get? x = some ox) (hd : ox.data = .plain) (q : Q none s) : wpAny (model prog w) A (tryCompare (.int i t) "__eq__" (.ref x)) Q E s :=
  cmp_no (T := "int") rfl PySem.F.slot_int_eq_refl PySem.F.entry_int_eq (PySem.F.args_int_eq_2 _ _) (fun A' R E' k => intBin_no (.inl ⟨_, _, rfl⟩) ho hd k) q
theorem no_bool {b : Bool} {Q : Option Value → Shared → Prop} (ho : s.heap.get? x = some ox) (hd : ox.data = .plain) (q : Q none s) : wpAny (model prog w) A (tryCompare (.bool b) "__eq__" (.ref x)) Q E s :=
  cmp_no (T := "bool") rfl PySem.F.slot_bool_eq_refl PySem.F.entry_int_eq (PySem.F.args_int_eq_2 _ _) (fun A' R E' k => intBin_no (.inr ⟨_, rfl⟩) ho hd k) q
theorem no_str {z : Str} {t : Tok} {Q : Option Value → Shared → Prop} (ho : s.heap.get? x = some ox) (hd : ox.data = .plain) (q : Q none s) : wpAny (model prog w) A (tryCompare (.str z t) "__eq__" (.ref x)) Q E s :=
  cmp_no (T := "str") rfl PySem.F.slot_str_eq_refl PySem.F.entry_str_eq (PySem.F.args_str_eq_2 _ _) (fun A' R E' k => strCmp_no ho hd k) q
theorem no_list {l : Addr} {Q : Option Value → Shared → Prop} (X : K.In s.heap) (I : PySem.W.InstAt s.heap x ox C od) (hm : mroIn K C (.type "list") = some false) (hT : s.TypeIs (.ref l) "list") (q : Q none s) : wpAny (model prog w) A (tryCompare (.ref l) "__eq__" (.ref x)) Q E s :=
  cmp_no hT PySem.F.slot_list_eq_refl PySem.F.entry_list_eq (PySem.F.args_list_eq_2 _ _) (fun A' R E' k => by
    unfold Builtin.«list.__eq__»
    refine wpAny_bind (m := slotArgs "__eq__" 1 _) (wpAny_pure ?_)
    refine wpAny_bind (m := isInstance (.ref x) (.type "list")) ((looks_isa X I hm).here ?_)
    exact wpAny_pure k) q
theorem no_tuple {l : Addr} {Q : Option Value → Shared → Prop} (X : K.In s.heap) (I : PySem.W.InstAt s.heap x ox C od) (hm : mroIn K C (.type "tuple") = some false) (hT : s.TypeIs (.ref l) "tuple") (q : Q none s) : wpAny (model prog w) A (tryCompare (.ref l) "__eq__" (.ref x)) Q E s :=
  cmp_no hT PySem.F.slot_tuple_eq_refl PySem.F.entry_tuple_eq (PySem.F.args_tuple_eq_2 _ _) (fun A' R E' k => by
    unfold Builtin.«tuple.__eq__»
    refine wpAny_bind (m := slotArgs "__eq__" 1 _) (wpAny_pure ?_)
    refine wpAny_bind (m := isInstance (.ref x) (.type "tuple")) ((looks_isa X I hm).here ?_)
    exact wpAny_pure k) q
theorem no_dict {l : Addr} {Q : Option Value → Shared → Prop} (X : K.In s.heap) (I : PySem.W.InstAt s.heap x ox C od) (hm : mroIn K C (.type "dict") = some false) (hT : s.TypeIs (.ref l) "dict") (q : Q none s) : wpAny (model prog w) A (tryCompare (.ref l) "__eq__" (.ref x)) Q E s :=
  cmp_no hT PySem.F.slot_dict_eq_refl PySem.F.entry_dict_eq (PySem.F.args_dict_eq_2 _ _) (fun A' R E' k => by
    unfold Builtin.«dict.__eq__»
    refine wpAny_bind (m := Builtin.Dict.dictSlotArgs "__eq__" _) ?_
    unfold Builtin.Dict.dictSlotArgs
    refine wpAny_bind (m := Builtin.Dict.notOrdered "__eq__" _) ?_
    unfold Builtin.Dict.notOrdered
    refine wpAny_pure ?_
    refine wpAny_bind (m := slotArgs "__eq__" 1 _) (wpAny_pure (wpAny_pure ?_))
    refine wpAny_bind (m := isInstance (.ref x) (.type "dict")) ((looks_isa X I hm).here ?_)
    exact wpAny_bind (wpAny_rule (wpAny_pure k))) q
end
end PySem.Vr

set_option Elab.async false
set_option linter.all false
set_option maxRecDepth 100000
set_option maxHeartbeats 4000000
/-! Own layer, part R3: rules for expressions of operators on instances of a class of the program. -/
namespace Vr
open PySem PySem.Spec PyProof.Rows L2 Vx

/-- what is asked of the class -/
structure Own (K : PySem.W.Frag) (C : Addr) : Prop where
  cls : Cls K C
  first : PySem.W.selfFirst K C = true
  obj : PySem.W.mroIn K C (.type "object") = some true
  noInt : PySem.W.mroIn K C (.type "int") = some false
/-- its method of the name -/
structure Mth (P : Program) (w : World) (K : PySem.W.Frag) (mg : Str → Option Value) (base : Heap) (C : Addr) (name : Str) (k : Nat) (ps : List Str) (sp : Sp) : Prop where
  ex : ∃ f fd, PySem.W.findIn K (.ref C) name = some (some (.ref f)) ∧ PySem.W.isFn K (.ref f) = true ∧ FnOk P w K mg base CX0 k f fd ps sp ∧ Binds K fd ps []
/-- an answer of such a method -/
def Nn (v : V) : Prop := (∃ p, v = .ref p) ∨ ∃ b, v = .bl b
theorem back {Q : Value → Shared → Prop} {v : V} {u : Value} {s' : Shared} (n : Nn v) (r : RelV v u) (q : Q u s') : PySem.W.CmpBack Q u s' := by
  rcases n with ⟨p, rfl⟩ | ⟨b, rfl⟩
  · obtain rfl : u = .ref p := r
    exact q
  · obtain rfl : u = .bool b := r
    exact q
section
variable {X : Cx} {pins : List (Addr × Obj)} {σ : L2.St} {H : Hp} {s : Shared} {C a dx : Addr} {fs : List (Str × V)} {k : Nat} {ps : List Str} {sp : Sp}
theorem inst_at (I : Inv X pins σ H s) (h : H a = some (.ins C dx fs)) : ∃ ox od, PySem.W.InstAt s.heap a ox C od ∧ ox.data = .plain := by
  obtain ⟨mA, J, _⟩ := ins_get I.hok h
  obtain ⟨od, J, _⟩ := J.look
  exact ⟨_, od, J, rfl⟩
theorem calls {f : Addr} {fd : FuncData} {Q : VK} {us : List Value} {vs : List V} (F : FnOk X.prog X.w X.K X.mg X.base CX0 k f fd ps sp) (hr : Room k X.A) (hb : Binds X.K fd ps []) (I : Inv X pins σ H s) (r : Vals vs us)
    (h : sp vs H (fun v H' => Nn v ∧ Q v H') E0) : wpAny (model X.prog X.w) X.A (call (.ref f) us) (PySem.W.CmpBack (EP X pins σ Q)) X.xe s := by
  refine thn (run_fn (us := us) (vs := vs) F hr hb .nil pass0 I r (by rw [List.append_nil]; exact h)) fun u s1 z => ?_
  obtain ⟨v, H1, J, rv, n, q⟩ := z
  exact back n rv ⟨v, H1, J, rv, q⟩
/-- own op own, own op int -/
theorem op_own {op : Operator} {fo ro rc : Option Value} (O : Own X.K C) (M : Mth X.prog X.w X.K X.mg X.base C (PySem.dunder op.info.2) k ps sp) (hr : Room k X.A)
    (hR : PySem.W.findIn X.K (.ref C) (PySem.dunderR op.info.2) = some rc) (hp : rc = none ∨ ∃ g : Addr, rc = some (.ref g))
    (h1 : PySem.W.findIn X.K (.type "int") (PySem.dunder op.info.2) = some fo) (h2 : PySem.W.findIn X.K (.type "int") (PySem.dunderR op.info.2) = some ro) (hsub : PySem.W.subIn X.K (.type "int") (.ref C) = some false) :
    OpR X (binaryOp op) (fun x y H Q => ∃ a dx fs, x = .ref a ∧ H a = some (.ins C dx fs) ∧ ((∃ b dy gs, y = .ref b ∧ H b = some (.ins C dy gs)) ∨ ∃ i, y = .int i) ∧ sp [x, y] H (fun v H' => Nn v ∧ Q v H') E0) := by
  intro pins s σ H x y v u Q I rx ry h
  obtain ⟨a, dx, fs, rfl, ha, hy, q⟩ := h
  obtain rfl : v = .ref a := rx
  obtain ⟨f, fd, hs, hf, F, hb⟩ := M.ex
  obtain ⟨ox, od, J, hd⟩ := inst_at I ha
  obtain ⟨m, hF⟩ := I.fr
  have go := calls F hr hb I (us := [.ref a, u]) (vs := [.ref a, y]) (.cons rfl (.cons ry .nil)) q
  rcases hy with ⟨b, dy, gs, rfl, hb'⟩ | ⟨i, rfl⟩
  · obtain rfl : u = .ref b := ry
    obtain ⟨oy, oe, J', _⟩ := inst_at I hb'
    exact PySem.W.binop_K hF I.ok.mod.kin J J'.type O.first hs hf go
  · obtain ⟨t, rfl⟩ := ry
    exact PySem.W.ksp_binT hF I.ok.mod.kin J rfl O.first hs hf hR hp h1 h2 hsub go
/-- int op own -/
theorem op_intOwn {op : Operator} {f0 : Addr} {id : String} {B : Builtin} {g : Int → Int → Sem Fin} (O : Own X.K C) (M : Mth X.prog X.w X.K X.mg X.base C (PySem.dunderR op.info.2) k ps sp) (hr : Room k X.A)
    (hs0 : PySem.W.findIn X.K (.ref C) (PySem.dunder op.info.2) = some (some (.ref f0))) (fi : fillsNumberSlot (.type "int") op.info.2 = pure true)
    (slot : Slot "int" (PySem.dunder op.info.2) id) (entry : entryFor table id = some B) (args : ∀ a b, argsOk id ⟨[a, b], []⟩) {n : String} (hB : B = Builtin.Int.intBinary n g false) :
    OpR X (binaryOp op) (fun x y H Q => ∃ i a dx fs, x = .int i ∧ y = .ref a ∧ H a = some (.ins C dx fs) ∧ sp [y, x] H (fun v H' => Nn v ∧ Q v H') E0) := by
  intro pins s σ H x y v u Q I rx ry h
  obtain ⟨i, a, dx, fs, rfl, rfl, ha, q⟩ := h
  obtain rfl : u = .ref a := ry
  obtain ⟨t, rfl⟩ := rx
  obtain ⟨f, fd, hs, hf, F, hb⟩ := M.ex
  obtain ⟨ox, od, J, hd⟩ := inst_at I ha
  have go := calls F hr hb I (us := [.ref a, .int i t]) (vs := [.ref a, .int i]) (.cons rfl (.cons ⟨t, rfl⟩ .nil)) q
  refine PySem.Vr.bin_int I.kIn J O.first hs0 hs hf fi O.noInt (fun A' R E' k => ?_) go
  exact PySem.Vr.try_no (T := "int") rfl slot entry (args _ _) (fun A2 R2 E2 k2 => by rw [hB]; exact PySem.Vr.intBin_no (.inl ⟨_, _, rfl⟩) J.at_ hd k2) k
/-- own op= own -/
theorem iop_own {op : Operator} {cd : ClassData} (O : Own X.K C) (M : Mth X.prog X.w X.K X.mg X.base C (PySem.dunder op.info.2) k ps sp) (hr : Room k X.A)
    (hcd : PySem.W.clsIn X.K C = some cd) (hm : cd.mro = [.ref C, .type "object"]) (hi : PySem.W.findIn X.K (.ref C) (PySem.dunderI op.info.2) = some none) (ho : typeLookup (.type "object") (PySem.dunderI op.info.2) = pure none) :
    OpR X (inplaceOp op) (fun x y H Q => ∃ a dx fs b dy gs, x = .ref a ∧ H a = some (.ins C dx fs) ∧ y = .ref b ∧ H b = some (.ins C dy gs) ∧ sp [x, y] H (fun v H' => Nn v ∧ Q v H') E0) := by
  intro pins s σ H x y v u Q I rx ry h
  obtain ⟨a, dx, fs, b, dy, gs, rfl, ha, rfl, hb', q⟩ := h
  obtain rfl : v = .ref a := rx
  obtain rfl : u = .ref b := ry
  obtain ⟨f, fd, hs, hf, F, hb⟩ := M.ex
  obtain ⟨ox, od, J, hd⟩ := inst_at I ha
  obtain ⟨oy, oe, J', _⟩ := inst_at I hb'
  have go := calls F hr hb I (us := [.ref a, .ref b]) (vs := [.ref a, .ref b]) (.cons rfl (.cons rfl .nil)) q
  exact PySem.Vr.inp_own I.kIn J J'.type O.first hcd hm hi ho hs hf go
/-- - own -/
theorem un_negOwn (M : Mth X.prog X.w X.K X.mg X.base C "__neg__" k ps sp) (hr : Room k X.A) :
    UnR X (unaryOp .USub) (fun x H Q => ∃ a dx fs, x = .ref a ∧ H a = some (.ins C dx fs) ∧ sp [x] H Q E0) := by
  intro pins s σ H x v Q I rx h
  obtain ⟨a, dx, fs, rfl, ha, q⟩ := h
  obtain rfl : v = .ref a := rx
  obtain ⟨f, fd, hs, hf, F, hb⟩ := M.ex
  obtain ⟨ox, od, J, hd⟩ := inst_at I ha
  obtain ⟨m, hF⟩ := I.fr
  exact PySem.W.ksp_neg hF I.ok.mod.kin J hs hf (run_fn (us := [.ref a]) (vs := [.ref a]) F hr hb .nil pass0 I (.cons rfl .nil) q)
end
end Vr

set_option Elab.async false
set_option linter.all false
set_option maxRecDepth 100000
set_option maxHeartbeats 4000000
/-! Own layer, part R4: == and != on instances of a class of the program, str of one. -/
namespace Vr
open PySem PySem.Spec PyProof.Rows L2 Vx

/-- things of built-in types -/
inductive Oth (K : PySem.W.Frag) (H : Hp) : V → String → Prop where
  | non : Oth K H .non "NoneType"
  | bl (b : Bool) : Oth K H (.bl b) "bool"
  | int (i : Int) : Oth K H (.int i) "int"
  | str (x : Str) : Oth K H (.str x) "str"
  | lst {a : Addr} {xs : List V} (e : H a = some (.lst xs)) : Oth K H (.ref a) "list"
  | tup {a : Addr} {xs : List V} (e : H a = some (.tup xs)) : Oth K H (.ref a) "tuple"
  | dK {a : Addr} {kvs : List (Key × V)} (e : H a = some (.dK kvs)) : Oth K H (.ref a) "dict"
/-- the types that the class is none of -/
structure Far (K : PySem.W.Frag) (C : Addr) : Prop where
  to : ∀ T ∈ ["NoneType", "bool", "int", "str", "list", "tuple", "dict"], PySem.W.mroIn K C (.type T) = some false
  from_ : ∀ T ∈ ["NoneType", "bool", "int", "str", "list", "tuple", "dict"], PySem.W.notFirst K C (.type T) = true
section
variable {X : Cx} {pins : List (Addr × Obj)} {σ : L2.St} {H : Hp} {s : Shared} {C a dx : Addr} {fs : List (Str × V)} {k : Nat} {ps : List Str} {sp : Sp}
theorem Oth.mem {K : PySem.W.Frag} {v : V} {T : String} (o : Oth K H v T) : T ∈ ["NoneType", "bool", "int", "str", "list", "tuple", "dict"] := by
  cases o <;> decide
theorem Oth.is {v : V} {u : Value} {T : String} (I : Inv X pins σ H s) (r : RelV v u) (o : Oth X.K H v T) : s.TypeIs u T := by
  cases o with
  | non => obtain rfl : u = .none := r; exact rfl
  | bl b => obtain rfl : u = .bool b := r; exact rfl
  | int i => obtain ⟨t, rfl⟩ := r; exact rfl
  | str x => obtain ⟨t, rfl⟩ := r; exact rfl
  | @lst a xs e =>
    obtain rfl : u = .ref a := r
    obtain ⟨_, _, n, _, h1⟩ := (show ObjOk X.prog X.w H s.heap a (.lst xs) from I.hok a _ e)
    exact ⟨_, h1, rfl⟩
  | @tup a xs e =>
    obtain rfl : u = .ref a := r
    obtain ⟨_, _, _, o, h1, h2, _⟩ := (show ObjOk X.prog X.w H s.heap a (.tup xs) from I.hok a _ e)
    exact ⟨o, h1, h2⟩
  | @dK a kvs e =>
    obtain rfl : u = .ref a := r
    obtain ⟨_, _, vs, _, o, es, ep, h1, h2, _⟩ := (show ObjOk X.prog X.w H s.heap a (.dK kvs) from I.hok a _ e)
    exact ⟨o, h1, h2.1⟩
theorem looks_type {M : Model} {u : Value} {T : String} (h : s.TypeIs u T) : PySem.W.Looks M s.heap (typeOf u) (.type T) := by
  cases u with
  | ref a =>
    obtain ⟨o, ho, hc⟩ := h
    have z := (PySem.W.Looks.ld (M := M) (part := none) ho).andThen (f := fun o => pure o.cls) (b := .type T) (by rw [hc]; exact .now)
    exact z
  | _ => exact PySem.W.Looks.of_pure h
theorem Oth.no {v : V} {u : Value} {T : String} {A : Around} {x : Addr} {ox : Obj} {od : Option Obj} {Q : Option Value → Shared → Prop} {E : Value → Shared → Prop} (I : Inv X pins σ H s) (r : RelV v u) (o : Oth X.K H v T) (J : PySem.W.InstAt s.heap x ox C od) (hd : ox.data = .plain)
    (far : Far X.K C) (q : Q none s) : wpAny (model X.prog X.w) A (tryCompare u "__eq__" (.ref x)) Q E s := by
  have hT := o.is I r
  have hm := far.to T o.mem
  cases o with
  | non => obtain rfl : u = .none := r; exact PySem.Vr.no_none q
  | bl b => obtain rfl : u = .bool b := r; exact PySem.Vr.no_bool J.at_ hd q
  | int i => obtain ⟨t, rfl⟩ := r; exact PySem.Vr.no_int J.at_ hd q
  | str x => obtain ⟨t, rfl⟩ := r; exact PySem.Vr.no_str J.at_ hd q
  | @lst a xs e => obtain rfl : u = .ref a := r; exact PySem.Vr.no_list I.kIn J hm hT q
  | @tup a xs e => obtain rfl : u = .ref a := r; exact PySem.Vr.no_tuple I.kIn J hm hT q
  | @dK a kvs e => obtain rfl : u = .ref a := r; exact PySem.Vr.no_dict I.kIn J hm hT q

/-- own == own, own == another thing -/
theorem op_eqOwn (M : Mth X.prog X.w X.K X.mg X.base C "__eq__" k ps sp) (far : Far X.K C) (hr : Room k X.A) :
    OpR X (compareOp .Eq) (fun x y H Q => ∃ a dx fs, x = .ref a ∧ H a = some (.ins C dx fs) ∧ ((∃ b dy gs, y = .ref b ∧ H b = some (.ins C dy gs)) ∨ ∃ T, Oth X.K H y T) ∧ sp [x, y] H (fun v H' => Nn v ∧ Q v H') E0) := by
  intro pins s σ H x y v u Q I rx ry h
  obtain ⟨a, dx, fs, rfl, ha, hy, q⟩ := h
  obtain rfl : v = .ref a := rx
  obtain ⟨f, fd, hs, hf, F, hb⟩ := M.ex
  obtain ⟨ox, od, J, hd⟩ := inst_at I ha
  obtain ⟨m, hF⟩ := I.fr
  have go := calls F hr hb I (us := [.ref a, u]) (vs := [.ref a, y]) (.cons rfl (.cons ry .nil)) q
  show wpAny (model X.prog X.w) X.A (richCompare .Eq _ _) _ _ s
  rcases hy with ⟨b, dy, gs, rfl, hb'⟩ | ⟨T, o⟩
  · obtain rfl : u = .ref b := ry
    obtain ⟨oy, oe, J', _⟩ := inst_at I hb'
    exact PySem.W.cmp_K (op := .Eq) (tb := .ref C) hr.units0 hF I.ok.mod.kin J J'.type (by simp [PySem.W.notFirst]) hs hf go
  · exact PySem.W.cmp_K (op := .Eq) (tb := .type T) hr.units0 hF I.ok.mod.kin J (looks_type (o.is I ry)) (far.from_ T o.mem) hs hf go
/-- another thing == own -/
theorem op_eqOwnR (M : Mth X.prog X.w X.K X.mg X.base C "__eq__" k ps sp) (far : Far X.K C) (hr : Room k X.A) :
    OpR X (compareOp .Eq) (fun x y H Q => ∃ a dx fs, y = .ref a ∧ H a = some (.ins C dx fs) ∧ (∃ T, Oth X.K H x T) ∧ sp [y, x] H (fun v H' => Nn v ∧ Q v H') E0) := by
  intro pins s σ H x y v u Q I rx ry h
  obtain ⟨a, dx, fs, rfl, ha, ⟨T, o⟩, q⟩ := h
  obtain rfl : u = .ref a := ry
  obtain ⟨f, fd, hs, hf, F, hb⟩ := M.ex
  obtain ⟨ox, od, J, hd⟩ := inst_at I ha
  have go := calls F hr hb I (us := [.ref a, v]) (vs := [.ref a, x]) (.cons rfl (.cons rx .nil)) q
  exact PySem.Vr.eq_right hr.units0 I.kIn J (o.is I rx) (far.to T o.mem) (fun A' Q' E' k' => o.no I rx J hd far k') hs hf go
/-- own != own, own != another thing -/
theorem op_neOwn (O : Own X.K C) (M : Mth X.prog X.w X.K X.mg X.base C "__eq__" k ps sp) (far : Far X.K C) (hr : Room (k + 1) X.A) (hne : PySem.W.findIn X.K (.ref C) "__ne__" = some (some (.builtin "object.__ne__"))) :
    OpR X (compareOp .NotEq) (fun x y H Q => ∃ a dx fs, x = .ref a ∧ H a = some (.ins C dx fs) ∧ ((∃ b dy gs, y = .ref b ∧ H b = some (.ins C dy gs)) ∨ ∃ T, Oth X.K H y T) ∧
      sp [x, y] H (fun v H' => ∃ b, v = .bl b ∧ Q (.bl (!b)) H') E0) := by
  intro pins s σ H x y v u Q I rx ry h
  obtain ⟨a, dx, fs, rfl, ha, hy, q⟩ := h
  obtain rfl : v = .ref a := rx
  obtain ⟨f, fd, hs, hf, F, hb⟩ := M.ex
  obtain ⟨ox, od, J, hd⟩ := inst_at I ha
  have r2 : Vals [V.ref a, y] [Value.ref a, u] := .cons rfl (.cons ry .nil)
  have hl : ([Value.ref a, u] ++ []).length = ps.length := by
    rw [List.append_nil, ← r2.length]
    exact F.len _ _ _ _ q
  have go : wpAny (model X.prog X.w) X.A.in1 (call (.ref f) [.ref a, u]) (fun v s' => ∃ r, v = .bool r ∧ EP X pins σ Q (.bool (!r)) s') X.xe s := by
    refine wpAny_call (codeAny_mono (F.run X.A.in1 X.stack s H ⟨[.ref a, u], []⟩ [.ref a, u] [.ref a, y] _ E0 hr.in1 I.env0.in1 (by
      have := hb s [.ref a, u] I.kIn hl
      rw [List.append_nil] at this
      exact this) r2 q) fun r s' hq => ?_)
    cases r with
    | error e => exact False.elim hq
    | ok fl =>
      cases fl with
      | ret w =>
        obtain ⟨z, H', J', rz, b, rfl, q2⟩ := I.after hq
        obtain rfl : w = .bool b := rz
        exact ⟨b, rfl, .bl (!b), H', J', rfl, q2⟩
      | next => exact False.elim hq
      | brk => exact False.elim hq
      | cont => exact False.elim hq
  show wpAny (model X.prog X.w) X.A (richCompare .NotEq _ _) _ _ s
  rcases hy with ⟨b, dy, gs, rfl, hb'⟩ | ⟨T, o⟩
  · obtain rfl : u = .ref b := ry
    obtain ⟨oy, oe, J', _⟩ := inst_at I hb'
    exact PySem.Vr.ne_left (tb := .ref C) hr.units0 hr.in1.units0 I.kIn J J'.type (by simp [PySem.W.notFirst]) hne O.obj hs hf go
  · exact PySem.Vr.ne_left (tb := .type T) hr.units0 hr.in1.units0 I.kIn J (looks_type (o.is I ry)) (far.from_ T o.mem) hne O.obj hs hf go
end
end Vr

set_option Elab.async false
set_option linter.all false
set_option maxRecDepth 100000
set_option maxHeartbeats 4000000
/-! Own layer, part R5: calls within a try's body that an exception may leave: a class called, a method called; an exception of a class of the program made without arguments. -/
namespace Vr
open PySem PySem.Spec PyProof.Rows L2 Vx

section
variable {X : Cx} {CX : CXT} {k : Nat} {C f : Addr} {fd : FuncData} {ps : List Str} {sp : Sp} {ds : List Value} {dvs : List V} {E : L2.St → XK}
/-- a call of a def whose ways out may know the slots -/
theorem go_at {pins : List (Addr × Obj)} {σ : L2.St} {H : Hp} {s : Shared} {Q : VK} {us : List Value} {vs : List V} (F : FnOk X.prog X.w X.K X.mg X.base CX k f fd ps sp) (hr : Room k X.A) (hb : Binds X.K fd ps [])
    (hx : PassesAt CX X σ (E σ)) (I : Inv X pins σ H s) (r : Vals vs us) (h : sp vs H Q (E σ)) : wpAny (model X.prog X.w) X.A (call (.ref f) us) (EP X pins σ Q) X.xe s :=
  run_fnS F hr hb hx I r h
theorem make_at {pins : List (Addr × Obj)} {σ : L2.St} {H : Hp} {s : Shared} {Q : VK} {us : List Value} {vs : List V} (mk : Mk X.K C f)
    (F : FnOk X.prog X.w X.K X.mg X.base CX k f fd ps sp) (hr : Room (k + 1) X.A) (bs : Binds X.K fd ps ds) (vd : Vals dvs ds) (out : PassesAt CX X σ (E σ))
    (I : Inv X pins σ H s) (r : Vals vs us)
    (say : ∀ p dp, H p = none → H dp = none → dp ≠ p → sp (.ref p :: (vs ++ dvs)) (upd (upd H dp (.own p)) p (.ins C dp [])) (fun z G => z = .non ∧ Q (.ref p) G) (E σ)) :
    wpAny (model X.prog X.w) X.A (call (.ref C) us) (EP X pins σ Q) X.xe s := by
  have n1 := I.hok.fresh (Nat.le_succ s.heap.objs.size)
  have n2 := I.hok.fresh (Nat.le_refl s.heap.objs.size)
  have want := say _ _ n1 n2 (Nat.ne_of_lt (Nat.lt_succ_self _))
  have J := Inv.made (C := C) I
  have all : Vals (V.ref (s.heap.objs.size + 1) :: (vs ++ dvs)) (Value.ref (s.heap.objs.size + 1) :: (us ++ ds)) := .cons rfl (r.append vd)
  have len : (Value.ref (s.heap.objs.size + 1) :: us ++ ds).length = ps.length := by
    have z := all.length
    rw [F.len _ _ _ _ want] at z
    exact z.symm
  have inner := F.run _ X.stack _ _ ⟨Value.ref (s.heap.objs.size + 1) :: us, []⟩ _ _ _ (E σ) (hr.make C us []) (J.env0.make C us []) (bs _ _ J.kIn len) all want
  refine wpAny_call (make_map (f := f) I.kIn mk.makes mk.init (beq_iff_eq.mp mk.fn) (codeAny_mono inner fun res s1 z => ?_))
  match res, z with
  | .error e, z => exact out pins _ _ e s1 J z
  | .ok (.ret u), z =>
    obtain ⟨v, G, J1, rv, ev, q⟩ := J.after z
    subst ev
    exact ⟨rv, .ref _, G, J1, rfl, q⟩
end
/-- C(e1, e2) where the ways out may know the slots -/
def tMakeS (C : Addr) (sp : Sp) (E : L2.St → XK) (t : TA) : TE := fun σ H Q => t σ H fun vs H1 => ∀ p dp, H1 p = none → H1 dp = none → dp ≠ p →
  sp (.ref p :: (vs ++ [])) (upd (upd H1 dp (.own p)) p (.ins C dp [])) (fun z G => z = .non ∧ Q (.ref p) G) (E σ)
def tMethS (C : Addr) (m : Str) (sp : Sp) (E : L2.St → XK) (ta : TE) (t : TA) : TE := fun σ H Q => ta σ H fun x H1 => ∃ a dx fs, x = .ref a ∧ H1 a = some (.ins C dx fs) ∧ fs.lookup m = none ∧ t σ H1 fun vs H2 => sp (x :: vs) H2 Q (E σ)
section
variable {X : Cx} {CX : CXT} {k : Nat} {C f : Addr} {fd : FuncData} {ps : List Str} {sp : Sp} {E : L2.St → XK} {x m : Str} {p pos apos : Pos} {e o : Expr} {es : List Expr} {t : TA} {ta : TE}
theorem pe_makeS (mk : Mk X.K C f) (F : FnOk X.prog X.w X.K X.mg X.base CX k f fd ps sp) (hr : Room (k + 1) X.A) (hg : Gl X x) (hm : X.mg x = some (.ref C)) (bs : Binds X.K fd ps []) (out : ∀ σ, PassesAt CX X σ (E σ))
    (args : PA X (e :: es) t) (hdb : (x == ("__debug__" : Str)) = false := by decide) (st : starEach (e :: es) X.env = (false, eval e X.env) :: starEach es X.env := by rfl) (pl : (backTo pos (starEach es X.env)).any (·.1) = false := by rfl) :
    PE X (.Call (.Name x p) (e :: es) [] pos) (tMakeS C sp E t) :=
  ⟨fun pins s σ H Q I h => wpAny_Call_Name_kw (ld_glob I hg hm
    (PySem.W.callWith_K (h₀ := X.base) I.ok.mod.kin mk.kp (thn (args.run pos pins s σ H _ I h) fun us s1 ⟨vs, H1, J, r, q⟩ => ⟨J.kIn, make_at mk F hr bs .nil (out σ) J r q⟩) st pl) hdb)⟩
theorem pe_methS {pl : Sem Bool} (ho : PE X o ta) (c : Cls X.K C) (hm : Meth X.K C m f) (F : FnOk X.prog X.w X.K X.mg X.base CX k f fd ps sp) (hr : Room k X.A) (bs : Binds X.K fd ps []) (out : ∀ σ, PassesAt CX X σ (E σ)) (args : PA X (e :: es) t)
    (st : starEach (e :: es) X.env = (false, eval e X.env) :: starEach es X.env := by rfl) (pla : (backTo pos (starEach es X.env)).any (·.1) = false := by rfl)
    (ev : eval (.Call (.Attribute o m apos) (e :: es) [] pos) X.env = (do
      let ov ← eval o X.env
      standAt apos.atName
      let (g, first) ← holding [ov] (getMethod ov m pl)
      callWith pos g first (backTo pos (starEach (e :: es) X.env)) (backToKw pos (keywordEach [] X.env))) := by rfl) :
    PE X (.Call (.Attribute o m apos) (e :: es) [] pos) (tMethS C m sp E ta t) := by
  refine ⟨fun pins s σ H Q I h => PySem.W.methodCall_KW (pl := pl) (thn (ho.run pins s σ H _ I h) fun u s1 z => ?_) ev⟩
  obtain ⟨y, H1, J, ry, a, dx, fs, rfl, ea, no, q⟩ := z
  obtain rfl : u = Value.ref a := ry
  refine getmeth_ok J ea c hm no (PySem.W.callWith_K (first := [.ref a]) (h₀ := X.base) I.ok.mod.kin hm.kp (thn (args.run pos pins s1 σ H1 _ J q) fun us s2 w => ?_) st pla)
  obtain ⟨vs, H2, J2, r, q2⟩ := w
  exact ⟨J2.kIn, go_at (us := .ref a :: us) (vs := .ref a :: vs) F hr bs (out σ) J2 (.cons rfl r) q2⟩
end
/-- X() raised -/
theorem pmk_own0 {X : Cx} {C : Addr} {bmB : List Value} {B newId initId : String} {x : Str} {p pos : Pos} (F : ExcBaseFacts B newId initId bmB) (q : PySem.W.excIn X.K C bmB newId = true) (gC : X.mg x = some (.ref C))
    (kC : PySem.W.keepIn X.K (.ref C) = true) (r : Raises X (.ref C)) (hg : Gl X x) (hdb : (x == ("__debug__" : Str)) = false := by decide) : PMk X (.Call (.Name x p) [] [] pos) (fun _ H Q => Q (.ref C) none H) := by
  intro pins s σ H Q I h
  refine wpAny_Call_Name_kw (ld_glob I hg gC (PySem.W.callWith_K0 I.kIn kC ?_) hdb)
  show wpAny _ _ (call (.ref C) []) _ _ _
  obtain ⟨bm, N, nm, qn, bs, hdct, sn, sub, ab, col, dd, k0, k1, k2, k3, k5, mN, at_, hN, hni, T⟩ := exc_obj I.kIn q
  exact wpAny_call_exc_subT F T at_ hN hni (fun h' a made => mk_of I made r h (I.hok.gone made.new)) (Nat.zero_le _)
end Vr

set_option Elab.async false
set_option linter.all false
set_option maxRecDepth 100000
set_option maxHeartbeats 4000000
/-! The law over Ratios: the program's class. -/
namespace K02
open PySem PySem.Spec PyProof.Rows L2 Vx Vr
def top (i : Nat) : Stmt := PySem.Challenge.pw_jointdraws_k02_ratios_reckoned.main.body.getD i (.Pass ⟨0, 0, 0, 0⟩)
def mth (j : Nat) : Stmt := inClass (top 7) j
/-- the built-in names that are used are still the built-in ones -/
structure Bt (mg : Str → Option Value) : Prop where
  len : mg "len" = none
  sum : mg "sum" = none
  abs : mg "abs" = none
  int : mg "int" = none
  isi : mg "isinstance" = none
  bool : mg "bool" = none
  range : mg "range" = none
  str : mg "str" = none
  max : mg "max" = none
  min : mg "min" = none
  gcd : mg "gcd" = some (.builtin "math.gcd")

/-! ### numbers -/
/-- lowest terms of N / D -/
def Norm (N D n d : Int) : Prop := n * D = N * d ∧ 0 < d ∧ Int.gcd n d = 1 ∧ n.natAbs ≤ N.natAbs ∧ d.natAbs ≤ D.natAbs
def Sm (x : Int) : Prop := x.natAbs < 2 ^ 1000
def Lg (x : Int) : Prop := x.natAbs < 2 ^ 2100
theorem gcd_pos {N D : Int} (h : D ≠ 0) : 0 < (Nat.gcd N.natAbs D.natAbs : Nat) := Nat.gcd_pos_of_pos_right _ (by omega)
/-- // by a divisor of either sign -/
def CDivZ (_ j : Int) : Prop := j ≠ 0 ∧ j.natAbs.log2 < 9000
theorem op_fdivZ {X : Cx} : OpR X (binaryOp .FloorDiv) (rI CDivZ fun i j => .int (i.fdiv j)) := opI fun i j _ _ _ _ _ hc q =>
  floordiv_int hc.1 q (.inl (PyProof.noPylong_of_log2 hc.2))
theorem norm_of {N D c : Int} (hD : D ≠ 0) (hc : c = if D < 0 then -((Nat.gcd N.natAbs D.natAbs : Nat) : Int) else ((Nat.gcd N.natAbs D.natAbs : Nat) : Int)) : c ≠ 0 ∧ Norm N D (N.fdiv c) (D.fdiv c) := by
  have gp := gcd_pos (N := N) hD
  have d1 : (Nat.gcd N.natAbs D.natAbs : Int) ∣ N := Int.ofNat_dvd_left.mpr (Nat.gcd_dvd_left _ _)
  have d2 : (Nat.gcd N.natAbs D.natAbs : Int) ∣ D := Int.ofNat_dvd_left.mpr (Nat.gcd_dvd_right _ _)
  have c0 : c ≠ 0 := by
    rw [hc]
    split <;> omega
  have e1 : c ∣ N := by
    rw [hc]
    split
    · exact Int.neg_dvd.mpr d1
    · exact d1
  have e2 : c ∣ D := by
    rw [hc]
    split
    · exact Int.neg_dvd.mpr d2
    · exact d2
  have nab : c.natAbs = Nat.gcd N.natAbs D.natAbs := by
    rw [hc]
    split <;> simp
  obtain ⟨n, hn⟩ := e1
  obtain ⟨d, hd⟩ := e2
  have f1 : N.fdiv c = n := by
    rw [hn, Int.mul_fdiv_cancel_left _ c0]
  have f2 : D.fdiv c = d := by
    rw [hd, Int.mul_fdiv_cancel_left _ c0]
  rw [f1, f2]
  refine ⟨c0, ?_, ?_, ?_, ?_, ?_⟩
  · rw [hn, hd]
    rw [Int.mul_comm c d, Int.mul_comm c n, Int.mul_comm (n * c) d, ← Int.mul_assoc, Int.mul_left_comm, Int.mul_assoc]
  · rcases Int.lt_trichotomy D 0 with h | h | h
    · have cn : c < 0 := by
        rw [hc, if_pos h]
        omega
      have : 0 < d ∨ d ≤ 0 := by omega
      rcases this with h' | h'
      · exact h'
      · exfalso
        have := Int.mul_nonneg_of_nonpos_of_nonpos (by omega : c ≤ 0) h'
        omega
    · exact absurd h hD
    · have cp : 0 < c := by
        rw [hc, if_neg (by omega)]
        omega
      have : 0 < d ∨ d ≤ 0 := by omega
      rcases this with h' | h'
      · exact h'
      · exfalso
        have := Int.mul_nonpos_of_nonneg_of_nonpos (by omega : 0 ≤ c) h'
        omega
  · have g1 : N.natAbs = c.natAbs * n.natAbs := by rw [hn, Int.natAbs_mul]
    have g2 : D.natAbs = c.natAbs * d.natAbs := by rw [hd, Int.natAbs_mul]
    have g3 : Nat.gcd N.natAbs D.natAbs = c.natAbs * Nat.gcd n.natAbs d.natAbs := by
      rw [g1, g2, Nat.gcd_mul_left]
    rw [← nab] at g3
    show Nat.gcd n.natAbs d.natAbs = 1
    have cp : 0 < c.natAbs := by omega
    have : c.natAbs * 1 = c.natAbs * Nat.gcd n.natAbs d.natAbs := by omega
    exact (Nat.eq_of_mul_eq_mul_left cp this).symm
  · rw [hn, Int.natAbs_mul]
    exact Nat.le_mul_of_pos_left _ (by omega)
  · rw [hd, Int.natAbs_mul]
    exact Nat.le_mul_of_pos_left _ (by omega)
theorem lg_mul {a b : Int} (ha : Sm a) (hb : Sm b) : (a * b).natAbs < 2 ^ 2000 := wide_lt (a := 1000) (b := 1000) ha hb
theorem cmul {a b : Int} (ha : Sm a) (hb : Sm b) : CMulW a b := wide_mul (a := 1000) (b := 1000) ha hb (by decide) (by decide) (by decide)
theorem lg_of {a : Int} (h : a.natAbs < 2 ^ 2000) : Lg a := Nat.lt_trans h (Nat.pow_lt_pow_right (by decide) (by decide))
theorem p2001 : (2 : Nat) ^ 2001 = 2 ^ 2000 + 2 ^ 2000 := by rw [Nat.pow_succ]; omega
theorem lg_add {a b : Int} (ha : a.natAbs < 2 ^ 2000) (hb : b.natAbs < 2 ^ 2000) : Lg (a + b) := by
  have h1 : (2 : Nat) ^ 2001 < 2 ^ 2100 := Nat.pow_lt_pow_right (by decide) (by decide)
  have h2 := p2001
  unfold Lg
  generalize (2 : Nat) ^ 2000 = p at *
  generalize (2 : Nat) ^ 2001 = q at *
  generalize (2 : Nat) ^ 2100 = r at *
  omega
theorem lg_sub {a b : Int} (ha : a.natAbs < 2 ^ 2000) (hb : b.natAbs < 2 ^ 2000) : Lg (a - b) := by
  have := lg_add (a := a) (b := -b) ha (by rw [Int.natAbs_neg]; exact hb)
  rwa [← Int.sub_eq_add_neg] at this

/-! ### the class's instances -/
abbrev fs2 (n d : Int) : List (Str × V) := [("_top", .int n), ("_bottom", .int d)]
/-- a Ratio n / d stands at a -/
def Rt (C : Addr) (H : Hp) (a : Addr) (n d : Int) : Prop := ∃ dx, H a = some (.ins C dx (fs2 n d))
theorem Rt.same {C : Addr} {H H' : Hp} {a : Addr} {n d : Int} (s : Same H H') (h : Rt C H a n d) : Rt C H' a n d := by
  obtain ⟨dx, e⟩ := h
  exact ⟨dx, s _ _ e⟩
/-- a number: an int, or a Ratio -/
def Nu (C : Addr) (H : Hp) (v : V) (n d : Int) : Prop := (v = .int n ∧ d = 1) ∨ ∃ a, v = .ref a ∧ Rt C H a n d
theorem Nu.same {C : Addr} {H H' : Hp} {v : V} {n d : Int} (s : Same H H') (h : Nu C H v n d) : Nu C H' v n d := by
  rcases h with h | ⟨a, e, h⟩
  · exact .inl h
  · exact .inr ⟨a, e, h.same s⟩
theorem lkT (n d : Int) : (fs2 n d).lookup ("_top" : Str) = some (V.int n) := rfl
theorem lkB (n d : Int) : (fs2 n d).lookup ("_bottom" : Str) = some (V.int d) := rfl
/-- what the class must be -/
structure Rc (K : PySem.W.Frag) (C : Addr) : Prop where
  own : Own K C
  far : Far K C
  noT : NoAttr K C "_top"
  noB : NoAttr K C "_bottom"
  ha : PySem.W.findIn K (.ref C) "__class__" = some (some (.builtin "object.__class__"))
  hn : PySem.W.specialIn K (.builtin "object.__class__") "__get__" = some (some (.builtin "getset_descriptor.__get__"))
  tk : PySem.W.takesIn K (.builtin "object.__class__") = some true
  one : PySem.W.kitOne K (.ref C) (.ref C) = some true
  oth : ∀ T ∈ ["NoneType", "bool", "int", "str", "list", "tuple", "dict"], PySem.W.kitOne K (.type T) (.ref C) = some false
theorem Rc.ty {K : PySem.W.Frag} {C : Addr} (R : Rc K C) {H : Hp} {a dx : Addr} {fs : List (Str × V)} (h : H a = some (.ins C dx fs)) : TyX K H (.ref a) (.ref C) := .base (.ins h R.own.cls R.ha R.hn R.tk R.own.obj)
theorem ty_oth {K : PySem.W.Frag} {H : Hp} {v : V} {T : String} (o : Oth K H v T) : TyX K H v (.type T) := by
  cases o with
  | non => exact .base .non
  | bl b => exact .base (.bl b)
  | int i => exact .base (.int i)
  | str x => exact .base (.str x)
  | lst e => exact .base (.lst e)
  | tup e => exact .base (.tup e)
  | dK e => exact .base (.dK e)

/-! ### is_whole, is_number, _parts -/
theorem kit_int {K : PySem.W.Frag} : ∀ T ∈ ["NoneType", "bool", "int", "str", "list", "tuple", "dict"], PySem.W.kitOne K (.type T) (.type "int") = some (T == "int" || T == "bool") := by
  intro T h
  simp only [List.mem_cons, List.not_mem_nil, or_false] at h
  rcases h with h | h | h | h | h | h | h <;> subst h <;> exact kit_ty (by decide +kernel)
theorem kit_bool {K : PySem.W.Frag} : ∀ T ∈ ["NoneType", "bool", "int", "str", "list", "tuple", "dict"], PySem.W.kitOne K (.type T) (.type "bool") = some (T == "bool") := by
  intro T h
  simp only [List.mem_cons, List.not_mem_nil, or_false] at h
  rcases h with h | h | h | h | h | h | h <;> subst h <;> exact kit_ty (by decide +kernel)
def spWhole (K : PySem.W.Frag) : Sp := fun vs H Q _ => ∃ v T, vs = [v] ∧ Oth K H v T ∧ Q (.bl (T == "int")) H
def spNumber (K : PySem.W.Frag) (C : Addr) : Sp := fun vs H Q _ => (∃ a dx fs, vs = [.ref a] ∧ H a = some (.ins C dx fs) ∧ Q (.bl true) H) ∨ ∃ v T, vs = [v] ∧ Oth K H v T ∧ Q (.bl (T == "int")) H
def spParts (C : Addr) : Sp := fun vs H Q _ => ∃ v n d, vs = [v] ∧ Nu C H v n d ∧ ∀ t, H t = none → Q (.ref t) (upd H t (.tup [.int n, .int d]))
/-- a def that is called by its name -/
structure Cal (P : Program) (w : World) (K : PySem.W.Frag) (mg : Str → Option Value) (base : Heap) (x : Str) (k : Nat) (ps : List Str) (sp : Sp) : Prop where
  ex : ∃ f fd, FnOk P w K mg base CX0 k f fd ps sp ∧ mg x = some (.ref f) ∧ PySem.W.keepIn K (.ref f) = true ∧ Binds K fd ps []
section
variable {X : Cx} {k : Nat} {ps : List Str} {sp : Sp} {x : Str} {p pos : Pos} {e : Expr} {es : List Expr} {t : TA}
theorem pe_cal (C : Cal X.prog X.w X.K X.mg X.base x k ps sp) (hr : Room k X.A) (ha : PA X (e :: es) t) (hg : Gl X x := by rfl)
    (hdb : (x == ("__debug__" : Str)) = false := by decide) (he : starEach (e :: es) X.env = (false, eval e X.env) :: starEach es X.env := by rfl)
    (hpl : (backTo pos (starEach es X.env)).any (·.1) = false := by rfl) : PE X (.Call (.Name x p) (e :: es) [] pos) (tCall sp [] E0 t) := by
  obtain ⟨f, fd, F, m, kp, b⟩ := C.ex
  exact pe_call F hr hg m kp b .nil pass0 ha hdb he hpl
end
section
variable {P : Program} {w : World} {K : PySem.W.Frag} {mg : Str → Option Value} {base : Heap} {C : Addr}
theorem scWhole : FnScope ["value"] ["value"] (defScope (top 2)) := ⟨rfl, rfl, rfl, by decide +kernel, rfl, by decide +kernel, by decide +kernel⟩
theorem ok_whole {f : Addr} {fd : FuncData} (F : L2.Fun K "is_whole" "is_whole" (top 2) f fd) (T : Bt mg) : FnOk P w K mg base CX0 1 f fd ["value"] (spWhole K) := by
  refine F.ok scWhole (fun vs H Q E h => ?_) (fun cdv A outer s H vs Q E hr h => ?_)
  · obtain ⟨v, T, rfl, _⟩ := h
    rfl
  · obtain ⟨v, U, rfl, o, go⟩ := h
    refine ⟨_, pss_one (ps_ret (pe_and (pe_callB call_isi (by rfl) T.isi (by decide +kernel) (pa_cons (pv 0) (pa_cons (pe_bltn (v := .ty "int") (by rfl) T.int (by decide +kernel) rfl) pa_nil)))
      (pe_one (pe_not (pe_callB call_isi (by rfl) T.isi (by decide +kernel) (pa_cons (pv 0) (pa_cons (pe_bltn (v := .ty "bool") (by rfl) T.bool (by decide +kernel) rfl) pa_nil))))))), ?_⟩
    refine ⟨v, rfl, v, _, .type U, _, _, rfl, .ty "int", ty_oth o, kit_int U o.mem, _, rfl, ?_⟩
    have m := o.mem
    simp only [List.mem_cons, List.not_mem_nil, or_false] at m
    rcases m with m | m | m | m | m | m | m <;> subst m
    · exact iteF go
    · refine iteT ⟨v, rfl, v, _, .type "bool", _, _, rfl, .ty "bool", ty_oth o, kit_bool _ o.mem, _, rfl, go⟩
    · refine iteT ⟨v, rfl, v, _, .type "int", _, _, rfl, .ty "bool", ty_oth o, kit_bool _ o.mem, _, rfl, go⟩
    · exact iteF go
    · exact iteF go
    · exact iteF go
    · exact iteF go
theorem scNumber : FnScope ["value"] ["value"] (defScope (top 8)) := ⟨rfl, rfl, rfl, by decide +kernel, rfl, by decide +kernel, by decide +kernel⟩
theorem ok_number {f : Addr} {fd : FuncData} (F : L2.Fun K "is_number" "is_number" (top 8) f fd) (T : Bt mg) (R : Rc K C) (gC : mg "Ratio" = some (.ref C)) (W : Cal P w K mg base "is_whole" 1 ["value"] (spWhole K)) :
    FnOk P w K mg base CX0 2 f fd ["value"] (spNumber K C) := by
  refine F.ok scNumber (fun vs H Q E h => ?_) (fun cdv A outer s H vs Q E hr h => ?_)
  · rcases h with ⟨a, dx, fs, rfl, _⟩ | ⟨v, T, rfl, _⟩ <;> rfl
  · refine ⟨_, pss_one (ps_ret (pe_or (pe_callB call_isi (by rfl) T.isi (by decide +kernel) (pa_cons (pv 0) (pa_cons (pe_glob (v := .ref C) (by rfl) gC rfl) pa_nil)))
      (pe_one (pe_cal W (hr.mono (by decide)) (pa_cons (pv 0) pa_nil))))), ?_⟩
    rcases h with ⟨a, dx, fs, rfl, e, go⟩ | ⟨v, U, rfl, o, go⟩
    · exact ⟨.ref a, rfl, .ref a, .ref C, .ref C, _, _, rfl, .own C, R.ty e, R.one, _, rfl, iteT go⟩
    · exact ⟨v, rfl, v, .ref C, .type U, _, _, rfl, .own C, ty_oth o, R.oth U o.mem, _, rfl, iteF ⟨v, rfl, v, U, rfl, o, go⟩⟩
theorem scParts : FnScope ["number"] ["number"] (defScope (top 9)) := ⟨rfl, rfl, rfl, by decide +kernel, rfl, by decide +kernel, by decide +kernel⟩
theorem ok_parts {f : Addr} {fd : FuncData} (F : L2.Fun K "_parts" "_parts" (top 9) f fd) (T : Bt mg) (R : Rc K C) (gC : mg "Ratio" = some (.ref C)) : FnOk P w K mg base CX0 1 f fd ["number"] (spParts C) := by
  refine F.ok scParts (fun vs H Q E h => ?_) (fun cdv A outer s H vs Q E hr h => ?_)
  · obtain ⟨v, n, d, rfl, _⟩ := h
    rfl
  · obtain ⟨v, n, d, rfl, nu, go⟩ := h
    refine ⟨_, pss_cons (ps_if (pt_val (pe_callB call_isi (by rfl) T.isi (by decide +kernel) (pa_cons (pv 0) (pa_cons (pe_glob (v := .ref C) (by rfl) gC rfl) pa_nil))))
        (pss_one (ps_ret (pe_tup (pa_cons (pe_fld (pv 0) rfl) (pa_cons (pe_fld (pv 0) rfl) pa_nil))))) pss_nil)
      (pss_one (ps_ret (pe_tup (pa_cons (pv 0) (pa_cons pe_int pa_nil))))), ?_⟩
    rcases nu with ⟨rfl, rfl⟩ | ⟨a, rfl, dx, e⟩
    · refine ⟨_, rfl, .int n, .ref C, .type "int", _, _, rfl, .own C, ty_oth (.int n), R.oth "int" (by decide), _, rfl, iteF ?_⟩
      exact ⟨_, rfl, (by show 2 ≤ sizeLine; decide), fun t ht => go t ht⟩
    · refine ⟨_, rfl, .ref a, .ref C, .ref C, _, _, rfl, .own C, R.ty e, R.one, _, rfl, iteT ?_⟩
      exact ⟨_, rfl, a, C, dx, _, _, rfl, e, R.own.cls, R.noT, lkT n d, _, rfl, a, C, dx, _, _, rfl, e, R.own.cls, R.noB, lkB n d, (by show 2 ≤ sizeLine; decide), fun t ht => go t ht⟩
end
end K02

set_option Elab.async false
set_option linter.all false
set_option maxRecDepth 100000
set_option maxHeartbeats 4000000
set_option exponentiation.threshold 3000
/-! The law over Ratios: making one, its methods. -/
namespace K02
open PySem PySem.Spec PyProof.Rows L2 Vx Vr
theorem same_new {H : Hp} {l : Addr} {o : HO} (h : H l = none) : Same H (upd H l o) := fun b u e => by rw [upd_ne (ne_of_none e h)]; exact e
def spInit (C : Addr) : Sp := fun vs H Q _ => ∃ a dx N D, vs = [.ref a, .int N, .int D] ∧ H a = some (.ins C dx []) ∧ D ≠ 0 ∧ Lg D ∧
  ∀ n d, Norm N D n d → Q .non (upd (upd H a (.ins C dx [("_top", .int n)])) a (.ins C dx (fs2 n d)))
section
variable {P : Program} {w : World} {K : PySem.W.Frag} {mg : Str → Option Value} {base : Heap} {C : Addr}
theorem scInit : FnScope ["self", "top", "bottom", "common"] ["self", "top", "bottom"] (defScope (mth 0)) := ⟨rfl, rfl, rfl, by decide +kernel, rfl, by decide +kernel, by decide +kernel⟩
theorem ok_init {f : Addr} {fd : FuncData} (F : FunD K "__init__" "Ratio.__init__" (defArgs (mth 0)) (defBody (mth 0)) (defScope (mth 0)) [.int 1] [] f fd) (T : Bt mg) (R : Rc K C) :
    FnOk P w K mg base CX0 1 f fd ["self", "top", "bottom"] (spInit C) := by
  refine F.ok scInit (fun vs H Q E h => ?_) (fun cdv A outer s H vs Q E hr h => ?_)
  · obtain ⟨a, dx, N, D, rfl, _⟩ := h
    rfl
  · obtain ⟨a, dx, N, D, rfl, e, hD, sD, go⟩ := h
    refine ⟨_, PSs.nox (pss_cons (ps_if (pt_cmpR op_eq (pv 2) pe_int (nomark _)) (pss_one ps_never) pss_nil)
      (pss_cons (ps_set (i := 3) scInit.nd rfl (.inl rfl) (pe_callBfun cr_gcd (by rfl) T.gcd (pa_cons (pv 1) (pa_cons (pv 2) pa_nil))))
      (pss_cons (ps_if (pt_cmpR op_lt (pv 2) pe_int (nomark _)) (pss_one (ps_set (i := 3) scInit.nd rfl (.inl rfl) (pe_un un_neg (pv 3)))) pss_nil)
      (pss_cons (ps_fld (pv 0) (pe_op op_fdivZ (pv 1) (pv 3)) rfl)
      (pss_one (ps_fld (pv 0) (pe_op op_fdivZ (pv 2) (pv 3)) rfl)))))), ?_⟩
    have gp := gcd_pos (N := N) hD
    have key : ∀ c : Int, c = (if D < 0 then -((Nat.gcd N.natAbs D.natAbs : Nat) : Int) else ((Nat.gcd N.natAbs D.natAbs : Nat) : Int)) → CDivZ N c ∧ Norm N D (N.fdiv c) (D.fdiv c) := by
      intro c hc
      obtain ⟨c0, nm⟩ := norm_of hD hc
      refine ⟨⟨c0, ?_⟩, nm⟩
      have l1 : c.natAbs ≤ D.natAbs := by
        have : c.natAbs = Nat.gcd N.natAbs D.natAbs := by
          rw [hc]
          split <;> simp
        rw [this]
        exact Nat.gcd_le_right _ (by omega)
      have l2 : c.natAbs < 2 ^ 2100 := Nat.lt_of_le_of_lt l1 sD
      exact Nat.lt_of_lt_of_le (PySem.Flt.log2_lt_of (by decide) l2) (by decide)
    refine ⟨_, rfl, (by trivial), _, rfl, ?_⟩
    refine ite2 (fun c => absurd (V.int.inj (of_decide_eq_true c)) hD) (fun _ => ?_)
    refine ⟨_, rfl, _, rfl, N, D, rfl, ?_⟩
    refine ⟨_, rfl, _, _, rfl, rfl, _, rfl, ?_⟩
    refine ite2 (fun c => ?_) (fun c => ?_)
    · have hn : D < 0 := of_decide_eq_true c
      obtain ⟨k1, k2⟩ := key (-((Nat.gcd N.natAbs D.natAbs : Nat) : Int)) (by rw [if_pos hn])
      refine ⟨_, rfl, _, rfl, ?_⟩
      refine ⟨_, rfl, _, rfl, _, _, rfl, rfl, k1, _, rfl, a, C, dx, _, rfl, e, R.own.cls, R.noT, (by show 0 < 1000; decide), ?_⟩
      refine ⟨_, rfl, _, rfl, _, _, rfl, rfl, ⟨k1.1, k1.2⟩, _, rfl, a, C, dx, _, rfl, upd_same, R.own.cls, R.noB, (by show 1 < 1000; decide), ?_⟩
      exact go _ _ k2
    · have hn : ¬ D < 0 := fun z => c (decide_eq_true z)
      obtain ⟨k1, k2⟩ := key ((Nat.gcd N.natAbs D.natAbs : Nat) : Int) (by rw [if_neg hn])
      refine ⟨_, rfl, _, rfl, _, _, rfl, rfl, k1, _, rfl, a, C, dx, _, rfl, e, R.own.cls, R.noT, (by show 0 < 1000; decide), ?_⟩
      refine ⟨_, rfl, _, rfl, _, _, rfl, rfl, ⟨k1.1, k1.2⟩, _, rfl, a, C, dx, _, rfl, upd_same, R.own.cls, R.noB, (by show 1 < 1000; decide), ?_⟩
      exact go _ _ k2
end
/-- the class called -/
structure Mkr (P : Program) (w : World) (K : PySem.W.Frag) (mg : Str → Option Value) (base : Heap) (C : Addr) : Prop where
  ex : ∃ f fd, Mk K C f ∧ FnOk P w K mg base CX0 1 f fd ["self", "top", "bottom"] (spInit C) ∧ mg "Ratio" = some (.ref C) ∧ Binds K fd ["self", "top", "bottom"] [] ∧ ∃ u, RelV (.int 1) u ∧ Binds K fd ["self", "top", "bottom"] [u]
/-- Ratio(a, b), b not 0 -/
def rdRat (C : Addr) (N D : Int) (H : Hp) (Q : VK) : Prop := D ≠ 0 ∧ Lg D ∧ ∀ p H3 n d, Same H H3 → H p = none → Rt C H3 p n d → Norm N D n d → Q (.ref p) H3
theorem rd_init {C : Addr} {N D : Int} {H : Hp} {Q : VK} {vs : List V} (e : vs = [.int N, .int D]) (h : rdRat C N D H Q) : ∀ x dx, H x = none → H dx = none → dx ≠ x →
    spInit C (.ref x :: vs) (upd (upd H dx (.own x)) x (.ins C dx [])) (fun v H2 => v = .non ∧ Q (.ref x) H2) E0 := by
  intro x dx hx hdx ne
  obtain ⟨hD, sD, go⟩ := h
  subst e
  refine ⟨x, dx, N, D, rfl, upd_same, hD, sD, fun n d nm => ⟨rfl, go x _ n d (fun b o e => ?_) hx ⟨dx, upd_same⟩ nm⟩⟩
  rw [upd_ne (ne_of_none e hx), upd_ne (ne_of_none e hx), upd_ne (ne_of_none e hx), upd_ne (ne_of_none e hdx)]
  exact e
section
variable {X : Cx} {C : Addr} {a b : Expr} {ta tb : TE} {p pos : Pos}
theorem pe_rat (M : Mkr X.prog X.w X.K X.mg X.base C) (hr : Room 2 X.A) (ha : PE X a ta) (hb : PE X b tb) (hg : Gl X "Ratio" := by rfl)
    (na : starEach [a, b] X.env = (false, eval a X.env) :: starEach [b] X.env := by rfl) (nb : starEach [b] X.env = (false, eval b X.env) :: starEach [] X.env := by rfl) :
    PE X (.Call (.Name "Ratio" p) [a, b] [] pos) (tMake C (spInit C) [] E0 (tCons ta (tCons tb tNil))) := by
  obtain ⟨f, fd, mk, F, gC, bs, _⟩ := M.ex
  exact pe_make mk F hr hg gC bs .nil pass0 (pa_cons ha (pa_cons hb pa_nil nb) na) (by decide) na (by rw [nb]; rfl)
theorem pe_rat1 (M : Mkr X.prog X.w X.K X.mg X.base C) (hr : Room 2 X.A) (ha : PE X a ta) (hg : Gl X "Ratio" := by rfl)
    (na : starEach [a] X.env = (false, eval a X.env) :: starEach [] X.env := by rfl) :
    PE X (.Call (.Name "Ratio" p) [a] [] pos) (tMake C (spInit C) [.int 1] E0 (tCons ta tNil)) := by
  obtain ⟨f, fd, mk, F, gC, _, u, ru, bs⟩ := M.ex
  exact pe_make mk F hr hg gC bs (.cons ru .nil) pass0 (pa_cons ha pa_nil na) (by decide) na (by rfl)
end
section
variable {P : Program} {w : World} {K : PySem.W.Frag} {mg : Str → Option Value} {base : Heap} {C : Addr}
/-- self op other, a Ratio and a number -/
def spBin (C : Addr) (g1 g2 : Int → Int → Int → Int → Int) : Sp := fun vs H Q _ => ∃ a n d y m e, vs = [.ref a, y] ∧ Rt C H a n d ∧ Nu C H y m e ∧ Sm n ∧ Sm d ∧ Sm m ∧ Sm e ∧ g2 n d m e ≠ 0 ∧
  ∀ p H' n' d', Same H H' → Rt C H' p n' d' → Norm (g1 n d m e) (g2 n d m e) n' d' → Q (.ref p) H'
theorem rd_num {H : Hp} {y : V} {m e : Int} {vs : List V} {Q : VK} {E : XK} (nu : Nu C H y m e) (hv : vs = [y]) (q : Q (.bl true) H) : spNumber K C vs H Q E := by
  subst hv
  rcases nu with ⟨rfl, rfl⟩ | ⟨b, rfl, dx, h⟩
  · exact .inr ⟨_, "int", rfl, .int m, q⟩
  · exact .inl ⟨b, dx, _, rfl, h, q⟩
/-- what the methods use -/
structure Us (P : Program) (w : World) (K : PySem.W.Frag) (mg : Str → Option Value) (base : Heap) (C : Addr) : Prop where
  bt : Bt mg
  rc : Rc K C
  num : Cal P w K mg base "is_number" 2 ["value"] (spNumber K C)
  parts : Cal P w K mg base "_parts" 1 ["number"] (spParts C)
  mkr : Mkr P w K mg base C
abbrev NB : List Str := ["self", "other", "top", "bottom"]
theorem scAdd : FnScope NB ["self", "other"] (defScope (mth 3)) := ⟨rfl, rfl, rfl, by decide +kernel, rfl, by decide +kernel, by decide +kernel⟩
theorem ok_add {f : Addr} {fd : FuncData} (F : L2.Fun K "__add__" "Ratio.__add__" (mth 3) f fd) (U : Us P w K mg base C) :
    FnOk P w K mg base CX0 3 f fd ["self", "other"] (spBin C (fun n d m e => n * e + m * d) (fun _ d _ e => d * e)) := by
  refine F.ok scAdd (fun vs H Q E h => ?_) (fun cdv A outer s H vs Q E hr h => ?_)
  · obtain ⟨a, n, d, y, m, e, rfl, _⟩ := h
    rfl
  · obtain ⟨a, n, d, y, m, e, rfl, ⟨dx, ha⟩, nu, sn, sd, sm, se, g0, go⟩ := h
    refine ⟨_, pss_cons (ps_if (pt_not (pt_val (pe_cal U.num (hr.mono (by decide)) (pa_cons (pv 1) pa_nil)))) (pss_one ps_never) pss_nil)
      (pss_cons (ps_asg (pe_cal U.parts (hr.mono (by decide)) (pa_cons (pv 1) pa_nil)) (pg_tup (by rfl) (pgs_cons (pg_name (i := 2) scAdd.nd rfl (.inl rfl)) (pgs_cons (pg_name (i := 3) scAdd.nd rfl (.inl rfl)) pgs_nil))))
      (pss_one (ps_ret (pe_rat U.mkr (hr.mono (by decide)) (pe_op op_add (pe_op op_mulW (pe_fld (pv 0) rfl) (pv 3)) (pe_op op_mulW (pv 2) (pe_fld (pv 0) rfl))) (pe_op op_mulW (pe_fld (pv 0) rfl) (pv 3)))))), ?_⟩
    refine ⟨y, rfl, ?_⟩
    dsimp only [tNil]
    refine rd_num nu rfl ⟨_, rfl, iteF ?_⟩
    refine ⟨y, rfl, y, m, e, rfl, nu, fun t ht => ⟨t, _, rfl, SqT.of upd_same, rfl, _, _, rfl, _, _, rfl, rfl, ?_⟩⟩
    have s1 := same_new (o := .tup [.int m, .int e]) ht
    have ha1 := s1 _ _ ha
    generalize upd H t (.tup [.int m, .int e]) = H1 at s1 ha1 ⊢
    refine ⟨_, rfl, a, C, dx, _, _, rfl, ha1, U.rc.own.cls, U.rc.noT, lkT n d, _, rfl, _, _, rfl, rfl, cmul sn se, ?_⟩
    refine ⟨_, rfl, _, rfl, a, C, dx, _, _, rfl, ha1, U.rc.own.cls, U.rc.noB, lkB n d, _, _, rfl, rfl, cmul sm sd, _, _, rfl, rfl, ?_⟩
    refine ⟨_, rfl, a, C, dx, _, _, rfl, ha1, U.rc.own.cls, U.rc.noB, lkB n d, _, rfl, _, _, rfl, rfl, cmul sd se, ?_⟩
    exact rd_init rfl ⟨g0, lg_of (lg_mul sd se), fun p H3 n' d' s3 _ r nm => go p H3 n' d' (s1.trans s3) r nm⟩
end
end K02

set_option Elab.async false
set_option linter.all false
set_option maxRecDepth 100000
set_option maxHeartbeats 4000000
set_option exponentiation.threshold 3000
/-! The law over Ratios: the other methods. -/
namespace K02
open PySem PySem.Spec PyProof.Rows L2 Vx Vr
section
variable {P : Program} {w : World} {K : PySem.W.Frag} {mg : Str → Option Value} {base : Heap} {C : Addr}
abbrev NO : List Str := ["self", "number", "top", "bottom"]
theorem scSub : FnScope NB ["self", "other"] (defScope (mth 5)) := ⟨rfl, rfl, rfl, by decide +kernel, rfl, by decide +kernel, by decide +kernel⟩
theorem ok_sub {f : Addr} {fd : FuncData} (F : L2.Fun K "__sub__" "Ratio.__sub__" (mth 5) f fd) (U : Us P w K mg base C) :
    FnOk P w K mg base CX0 3 f fd ["self", "other"] (spBin C (fun n d m e => n * e - m * d) (fun _ d _ e => d * e)) := by
  refine F.ok scSub (fun vs H Q E h => ?_) (fun cdv A outer s H vs Q E hr h => ?_)
  · obtain ⟨a, n, d, y, m, e, rfl, _⟩ := h
    rfl
  · obtain ⟨a, n, d, y, m, e, rfl, ⟨dx, ha⟩, nu, sn, sd, sm, se, g0, go⟩ := h
    refine ⟨_, pss_cons (ps_if (pt_not (pt_val (pe_cal U.num (hr.mono (by decide)) (pa_cons (pv 1) pa_nil)))) (pss_one ps_never) pss_nil)
      (pss_cons (ps_asg (pe_cal U.parts (hr.mono (by decide)) (pa_cons (pv 1) pa_nil)) (pg_tup (by rfl) (pgs_cons (pg_name (i := 2) scSub.nd rfl (.inl rfl)) (pgs_cons (pg_name (i := 3) scSub.nd rfl (.inl rfl)) pgs_nil))))
      (pss_one (ps_ret (pe_rat U.mkr (hr.mono (by decide)) (pe_op op_sub (pe_op op_mulW (pe_fld (pv 0) rfl) (pv 3)) (pe_op op_mulW (pv 2) (pe_fld (pv 0) rfl))) (pe_op op_mulW (pe_fld (pv 0) rfl) (pv 3)))))), ?_⟩
    refine ⟨y, rfl, ?_⟩
    dsimp only [tNil]
    refine rd_num nu rfl ⟨_, rfl, iteF ?_⟩
    refine ⟨y, rfl, y, m, e, rfl, nu, fun t ht => ⟨t, _, rfl, SqT.of upd_same, rfl, _, _, rfl, _, _, rfl, rfl, ?_⟩⟩
    have s1 := same_new (o := .tup [.int m, .int e]) ht
    have ha1 := s1 _ _ ha
    generalize upd H t (.tup [.int m, .int e]) = H1 at s1 ha1 ⊢
    refine ⟨_, rfl, a, C, dx, _, _, rfl, ha1, U.rc.own.cls, U.rc.noT, lkT n d, _, rfl, _, _, rfl, rfl, cmul sn se, _, rfl, _, rfl, a, C, dx, _, _, rfl, ha1, U.rc.own.cls, U.rc.noB, lkB n d, _, _, rfl, rfl, cmul sm sd, _, _, rfl, rfl, ?_⟩
    refine ⟨_, rfl, a, C, dx, _, _, rfl, ha1, U.rc.own.cls, U.rc.noB, lkB n d, _, rfl, _, _, rfl, rfl, cmul sd se, ?_⟩
    exact rd_init rfl ⟨g0, lg_of (lg_mul sd se), fun p H3 n' d' s3 _ r nm => go p H3 n' d' (s1.trans s3) r nm⟩
theorem scMul : FnScope NB ["self", "other"] (defScope (mth 7)) := ⟨rfl, rfl, rfl, by decide +kernel, rfl, by decide +kernel, by decide +kernel⟩
theorem ok_mul {f : Addr} {fd : FuncData} (F : L2.Fun K "__mul__" "Ratio.__mul__" (mth 7) f fd) (U : Us P w K mg base C) :
    FnOk P w K mg base CX0 3 f fd ["self", "other"] (spBin C (fun n _ m _ => n * m) (fun _ d _ e => d * e)) := by
  refine F.ok scMul (fun vs H Q E h => ?_) (fun cdv A outer s H vs Q E hr h => ?_)
  · obtain ⟨a, n, d, y, m, e, rfl, _⟩ := h
    rfl
  · obtain ⟨a, n, d, y, m, e, rfl, ⟨dx, ha⟩, nu, sn, sd, sm, se, g0, go⟩ := h
    refine ⟨_, pss_cons (ps_if (pt_not (pt_val (pe_cal U.num (hr.mono (by decide)) (pa_cons (pv 1) pa_nil)))) (pss_one ps_never) pss_nil)
      (pss_cons (ps_asg (pe_cal U.parts (hr.mono (by decide)) (pa_cons (pv 1) pa_nil)) (pg_tup (by rfl) (pgs_cons (pg_name (i := 2) scMul.nd rfl (.inl rfl)) (pgs_cons (pg_name (i := 3) scMul.nd rfl (.inl rfl)) pgs_nil))))
      (pss_one (ps_ret (pe_rat U.mkr (hr.mono (by decide)) (pe_op op_mulW (pe_fld (pv 0) rfl) (pv 2)) (pe_op op_mulW (pe_fld (pv 0) rfl) (pv 3)))))), ?_⟩
    refine ⟨y, rfl, ?_⟩
    dsimp only [tNil]
    refine rd_num nu rfl ⟨_, rfl, iteF ?_⟩
    refine ⟨y, rfl, y, m, e, rfl, nu, fun t ht => ⟨t, _, rfl, SqT.of upd_same, rfl, _, _, rfl, _, _, rfl, rfl, ?_⟩⟩
    have s1 := same_new (o := .tup [.int m, .int e]) ht
    have ha1 := s1 _ _ ha
    generalize upd H t (.tup [.int m, .int e]) = H1 at s1 ha1 ⊢
    refine ⟨_, rfl, a, C, dx, _, _, rfl, ha1, U.rc.own.cls, U.rc.noT, lkT n d, _, rfl, _, _, rfl, rfl, cmul sn sm, ?_⟩
    refine ⟨_, rfl, a, C, dx, _, _, rfl, ha1, U.rc.own.cls, U.rc.noB, lkB n d, _, rfl, _, _, rfl, rfl, cmul sd se, ?_⟩
    exact rd_init rfl ⟨g0, lg_of (lg_mul sd se), fun p H3 n' d' s3 _ r nm => go p H3 n' d' (s1.trans s3) r nm⟩
theorem scOver : FnScope NO ["self", "number"] (defScope (mth 12)) := ⟨rfl, rfl, rfl, by decide +kernel, rfl, by decide +kernel, by decide +kernel⟩
theorem ok_over {f : Addr} {fd : FuncData} (F : L2.Fun K "over" "Ratio.over" (mth 12) f fd) (U : Us P w K mg base C) :
    FnOk P w K mg base CX0 3 f fd ["self", "number"] (spBin C (fun n _ _ e => n * e) (fun _ d m _ => d * m)) := by
  refine F.ok scOver (fun vs H Q E h => ?_) (fun cdv A outer s H vs Q E hr h => ?_)
  · obtain ⟨a, n, d, y, m, e, rfl, _⟩ := h
    rfl
  · obtain ⟨a, n, d, y, m, e, rfl, ⟨dx, ha⟩, nu, sn, sd, sm, se, g0, go⟩ := h
    refine ⟨_, pss_cons (ps_asg (pe_cal U.parts (hr.mono (by decide)) (pa_cons (pv 1) pa_nil)) (pg_tup (by rfl) (pgs_cons (pg_name (i := 2) scOver.nd rfl (.inl rfl)) (pgs_cons (pg_name (i := 3) scOver.nd rfl (.inl rfl)) pgs_nil))))
      (pss_one (ps_ret (pe_rat U.mkr (hr.mono (by decide)) (pe_op op_mulW (pe_fld (pv 0) rfl) (pv 3)) (pe_op op_mulW (pe_fld (pv 0) rfl) (pv 2))))), ?_⟩
    refine ⟨y, rfl, y, m, e, rfl, nu, fun t ht => ⟨t, _, rfl, SqT.of upd_same, rfl, _, _, rfl, _, _, rfl, rfl, ?_⟩⟩
    have s1 := same_new (o := .tup [.int m, .int e]) ht
    have ha1 := s1 _ _ ha
    generalize upd H t (.tup [.int m, .int e]) = H1 at s1 ha1 ⊢
    refine ⟨_, rfl, a, C, dx, _, _, rfl, ha1, U.rc.own.cls, U.rc.noT, lkT n d, _, rfl, _, _, rfl, rfl, cmul sn se, ?_⟩
    refine ⟨_, rfl, a, C, dx, _, _, rfl, ha1, U.rc.own.cls, U.rc.noB, lkB n d, _, rfl, _, _, rfl, rfl, cmul sd sm, ?_⟩
    exact rd_init rfl ⟨g0, lg_of (lg_mul sd sm), fun p H3 n' d' s3 _ r nm => go p H3 n' d' (s1.trans s3) r nm⟩
theorem scBelow : FnScope NO ["self", "number"] (defScope (mth 13)) := ⟨rfl, rfl, rfl, by decide +kernel, rfl, by decide +kernel, by decide +kernel⟩
def spBelow (C : Addr) : Sp := fun vs H Q _ => ∃ a n d y m e, vs = [.ref a, y] ∧ Rt C H a n d ∧ Nu C H y m e ∧ Sm n ∧ Sm d ∧ Sm m ∧ Sm e ∧ ∀ H', Same H H' → Q (.bl (decide (n * e < m * d))) H'
theorem ok_below {f : Addr} {fd : FuncData} (F : L2.Fun K "below" "Ratio.below" (mth 13) f fd) (U : Us P w K mg base C) :
    FnOk P w K mg base CX0 3 f fd ["self", "number"] (spBelow C) := by
  refine F.ok scBelow (fun vs H Q E h => ?_) (fun cdv A outer s H vs Q E hr h => ?_)
  · obtain ⟨a, n, d, y, m, e, rfl, _⟩ := h
    rfl
  · obtain ⟨a, n, d, y, m, e, rfl, ⟨dx, ha⟩, nu, sn, sd, sm, se, go⟩ := h
    refine ⟨_, pss_cons (ps_asg (pe_cal U.parts (hr.mono (by decide)) (pa_cons (pv 1) pa_nil)) (pg_tup (by rfl) (pgs_cons (pg_name (i := 2) scBelow.nd rfl (.inl rfl)) (pgs_cons (pg_name (i := 3) scBelow.nd rfl (.inl rfl)) pgs_nil))))
      (pss_one (ps_ret (pe_cmpR op_lt (pe_op op_mulW (pe_fld (pv 0) rfl) (pv 3)) (pe_op op_mulW (pv 2) (pe_fld (pv 0) rfl)) (nomark _)))), ?_⟩
    refine ⟨y, rfl, y, m, e, rfl, nu, fun t ht => ⟨t, _, rfl, SqT.of upd_same, rfl, _, _, rfl, _, _, rfl, rfl, ?_⟩⟩
    have s1 := same_new (o := .tup [.int m, .int e]) ht
    have ha1 := s1 _ _ ha
    generalize upd H t (.tup [.int m, .int e]) = H1 at s1 ha1 ⊢
    refine ⟨_, rfl, a, C, dx, _, _, rfl, ha1, U.rc.own.cls, U.rc.noT, lkT n d, _, rfl, _, _, rfl, rfl, cmul sn se, _, rfl, _, rfl, a, C, dx, _, _, rfl, ha1, U.rc.own.cls, U.rc.noB, lkB n d, _, _, rfl, rfl, cmul sm sd, _, _, rfl, rfl, ?_⟩
    exact go _ s1
theorem scNeg : FnScope ["self"] ["self"] (defScope (mth 9)) := ⟨rfl, rfl, rfl, by decide +kernel, rfl, by decide +kernel, by decide +kernel⟩
def spNeg (C : Addr) : Sp := fun vs H Q _ => ∃ a n d, vs = [.ref a] ∧ Rt C H a n d ∧ d ≠ 0 ∧ Sm d ∧ ∀ p H' n' d', Same H H' → Rt C H' p n' d' → Norm (-n) d n' d' → Q (.ref p) H'
theorem sm_lg {x : Int} (h : Sm x) : Lg x := Nat.lt_trans h (Nat.pow_lt_pow_right (by decide) (by decide))
theorem ok_neg {f : Addr} {fd : FuncData} (F : L2.Fun K "__neg__" "Ratio.__neg__" (mth 9) f fd) (U : Us P w K mg base C) : FnOk P w K mg base CX0 3 f fd ["self"] (spNeg C) := by
  refine F.ok scNeg (fun vs H Q E h => ?_) (fun cdv A outer s H vs Q E hr h => ?_)
  · obtain ⟨a, n, d, rfl, _⟩ := h
    rfl
  · obtain ⟨a, n, d, rfl, ⟨dx, ha1⟩, d0, sd, go⟩ := h
    refine ⟨_, pss_one (ps_ret (pe_rat U.mkr (hr.mono (by decide)) (pe_un un_neg (pe_fld (pv 0) rfl)) (pe_fld (pv 0) rfl))), ?_⟩
    refine ⟨_, rfl, a, C, dx, _, _, rfl, ha1, U.rc.own.cls, U.rc.noT, lkT n d, _, rfl, ?_⟩
    refine ⟨_, rfl, a, C, dx, _, _, rfl, ha1, U.rc.own.cls, U.rc.noB, lkB n d, ?_⟩
    exact rd_init rfl ⟨d0, sm_lg sd, fun p H3 n' d' s3 _ r nm => go p H3 n' d' s3 r nm⟩
/-! ### the reflected ones -/
/-- the class with its operators -/
structure Ops (P : Program) (w : World) (K : PySem.W.Frag) (mg : Str → Option Value) (base : Heap) (C : Addr) : Prop where
  us : Us P w K mg base C
  add : Mth P w K mg base C "__add__" 3 ["self", "other"] (spBin C (fun n d m e => n * e + m * d) (fun _ d _ e => d * e))
  sub : Mth P w K mg base C "__sub__" 3 ["self", "other"] (spBin C (fun n d m e => n * e - m * d) (fun _ d _ e => d * e))
  mul : Mth P w K mg base C "__mul__" 3 ["self", "other"] (spBin C (fun n _ m _ => n * m) (fun _ d _ e => d * e))
  neg : Mth P w K mg base C "__neg__" 3 ["self"] (spNeg C)
  radd : ∃ g : Addr, PySem.W.findIn K (.ref C) "__radd__" = some (some (.ref g))
  rsub : ∃ g : Addr, PySem.W.findIn K (.ref C) "__rsub__" = some (some (.ref g))
  rmul : ∃ g : Addr, PySem.W.findIn K (.ref C) "__rmul__" = some (some (.ref g))
  intSub : PySem.W.subIn K (.type "int") (.ref C) = some false
  iA : ∃ fo ro, PySem.W.findIn K (.type "int") "__add__" = some fo ∧ PySem.W.findIn K (.type "int") "__radd__" = some ro
  iS : ∃ fo ro, PySem.W.findIn K (.type "int") "__sub__" = some fo ∧ PySem.W.findIn K (.type "int") "__rsub__" = some ro
  iM : ∃ fo ro, PySem.W.findIn K (.type "int") "__mul__" = some fo ∧ PySem.W.findIn K (.type "int") "__rmul__" = some ro
/-- a Ratio op a number -/
def rNum (C : Addr) (g1 g2 : Int → Int → Int → Int → Int) : R2 := fun x y H Q => ∃ a n d m e, x = .ref a ∧ Rt C H a n d ∧ Nu C H y m e ∧ Sm n ∧ Sm d ∧ Sm m ∧ Sm e ∧ g2 n d m e ≠ 0 ∧
  ∀ p H' n' d', Same H H' → Rt C H' p n' d' → Norm (g1 n d m e) (g2 n d m e) n' d' → Q (.ref p) H'
theorem rNum_of {C : Addr} {g1 g2 : Int → Int → Int → Int → Int} {x y : V} {H : Hp} {Q : VK} (h : rNum C g1 g2 x y H Q) : ∃ a dx fs, x = .ref a ∧ H a = some (.ins C dx fs) ∧ ((∃ b dy gs, y = .ref b ∧ H b = some (.ins C dy gs)) ∨ ∃ i, y = .int i) ∧
    spBin C g1 g2 [x, y] H (fun v H' => Nn v ∧ Q v H') E0 := by
  obtain ⟨a, n, d, m, e, rfl, ⟨dx, ha⟩, nu, sn, sd, sm, se, g0, go⟩ := h
  refine ⟨a, dx, _, rfl, ha, ?_, a, n, d, y, m, e, rfl, ⟨dx, ha⟩, nu, sn, sd, sm, se, g0, fun p H' n' d' s r nm => ⟨.inl ⟨p, rfl⟩, go p H' n' d' s r nm⟩⟩
  rcases nu with ⟨rfl, rfl⟩ | ⟨b, rfl, dy, hb⟩
  · exact .inr ⟨m, rfl⟩
  · exact .inl ⟨b, dy, _, rfl, hb⟩
theorem OpR.imp {X : Cx} {f : Value → Value → Sem Value} {r r' : R2} (h : OpR X f r) (i : ∀ x y H Q, r' x y H Q → r x y H Q) : OpR X f r' := fun pins s σ H x y v u Q I rx ry q => h pins s σ H x y v u Q I rx ry (i x y H Q q)
variable {X : Cx}
theorem op_addN (O : Ops X.prog X.w X.K X.mg X.base C) (hr : Room 3 X.A) : OpR X (binaryOp .Add) (rNum C (fun n d m e => n * e + m * d) (fun _ d _ e => d * e)) := by
  obtain ⟨g, hg⟩ := O.radd
  obtain ⟨fo, ro, h1, h2⟩ := O.iA
  exact OpR.imp (op_own (op := .Add) O.us.rc.own O.add hr hg (.inr ⟨g, rfl⟩) h1 h2 O.intSub) fun x y H Q => rNum_of
theorem op_subN (O : Ops X.prog X.w X.K X.mg X.base C) (hr : Room 3 X.A) : OpR X (binaryOp .Sub) (rNum C (fun n d m e => n * e - m * d) (fun _ d _ e => d * e)) := by
  obtain ⟨g, hg⟩ := O.rsub
  obtain ⟨fo, ro, h1, h2⟩ := O.iS
  exact OpR.imp (op_own (op := .Sub) O.us.rc.own O.sub hr hg (.inr ⟨g, rfl⟩) h1 h2 O.intSub) fun x y H Q => rNum_of
theorem op_mulN (O : Ops X.prog X.w X.K X.mg X.base C) (hr : Room 3 X.A) : OpR X (binaryOp .Mult) (rNum C (fun n _ m _ => n * m) (fun _ d _ e => d * e)) := by
  obtain ⟨g, hg⟩ := O.rmul
  obtain ⟨fo, ro, h1, h2⟩ := O.iM
  exact OpR.imp (op_own (op := .Mult) O.us.rc.own O.mul hr hg (.inr ⟨g, rfl⟩) h1 h2 O.intSub) fun x y H Q => rNum_of
theorem un_negN (O : Ops X.prog X.w X.K X.mg X.base C) (hr : Room 3 X.A) : UnR X (unaryOp .USub) (fun x H Q => ∃ a n d, x = .ref a ∧ Rt C H a n d ∧ d ≠ 0 ∧ Sm d ∧ ∀ p H' n' d', Same H H' → Rt C H' p n' d' → Norm (-n) d n' d' → Q (.ref p) H') := by
  intro pins s σ H x v Q I rx h
  obtain ⟨a, n, d, rfl, ⟨dx, ha⟩, d0, sd, go⟩ := h
  exact un_negOwn O.neg hr pins s σ H _ v Q I rx ⟨a, dx, _, rfl, ha, a, n, d, rfl, ⟨dx, ha⟩, d0, sd, go⟩
end
section
variable {P : Program} {w : World} {K : PySem.W.Frag} {mg : Str → Option Value} {base : Heap} {C : Addr}
abbrev NR : List Str := ["self", "other"]
theorem scRadd : FnScope NR ["self", "other"] (defScope (mth 4)) := ⟨rfl, rfl, rfl, by decide +kernel, rfl, by decide +kernel, by decide +kernel⟩
theorem ok_radd {f : Addr} {fd : FuncData} (F : L2.Fun K "__radd__" "Ratio.__radd__" (mth 4) f fd) (O : Ops P w K mg base C) :
    FnOk P w K mg base CX0 4 f fd ["self", "other"] (spBin C (fun n d m e => n * e + m * d) (fun _ d _ e => d * e)) := by
  refine F.ok scRadd (fun vs H Q E h => ?_) (fun cdv A outer s H vs Q E hr h => ?_)
  · obtain ⟨a, n, d, y, m, e, rfl, _⟩ := h
    rfl
  · obtain ⟨a, n, d, y, m, e, rfl, ha, nu, sn, sd, sm, se, g0, go⟩ := h
    refine ⟨_, pss_one (ps_ret (pe_op (op_addN O (hr.mono (by decide))) (pv 0) (pv 1))), ?_⟩
    exact ⟨_, rfl, y, rfl, a, n, d, m, e, rfl, ha, nu, sn, sd, sm, se, g0, go⟩
theorem scRmul : FnScope NR ["self", "other"] (defScope (mth 8)) := ⟨rfl, rfl, rfl, by decide +kernel, rfl, by decide +kernel, by decide +kernel⟩
theorem ok_rmul {f : Addr} {fd : FuncData} (F : L2.Fun K "__rmul__" "Ratio.__rmul__" (mth 8) f fd) (O : Ops P w K mg base C) :
    FnOk P w K mg base CX0 4 f fd ["self", "other"] (spBin C (fun n _ m _ => n * m) (fun _ d _ e => d * e)) := by
  refine F.ok scRmul (fun vs H Q E h => ?_) (fun cdv A outer s H vs Q E hr h => ?_)
  · obtain ⟨a, n, d, y, m, e, rfl, _⟩ := h
    rfl
  · obtain ⟨a, n, d, y, m, e, rfl, ha, nu, sn, sd, sm, se, g0, go⟩ := h
    refine ⟨_, pss_one (ps_ret (pe_op (op_mulN O (hr.mono (by decide))) (pv 0) (pv 1))), ?_⟩
    exact ⟨_, rfl, y, rfl, a, n, d, m, e, rfl, ha, nu, sn, sd, sm, se, g0, go⟩
theorem norm_neg {n d n' d' m e : Int} (d0 : d ≠ 0) (e0 : e ≠ 0) (h : Norm (-n) d n' d') {n2 d2 : Int} (h2 : Norm (n' * e + m * d') (d' * e) n2 d2) : n2 * (d * e) = (m * d - n * e) * d2 := by
  obtain ⟨a1, a2, _⟩ := h
  obtain ⟨b1, _⟩ := h2
  have k : d' * (n2 * (d * e)) = d' * ((m * d - n * e) * d2) := by
    have t1 : d' * (n2 * (d * e)) = d * (n2 * (d' * e)) := by ac_rfl
    rw [t1, b1]
    have t2 : d * ((n' * e + m * d') * d2) = ((n' * d) * e + m * d * d') * d2 := by
      rw [Int.add_mul, Int.add_mul, Int.mul_add]
      congr 1 <;> ac_rfl
    rw [t2, a1]
    rw [Int.add_mul, Int.sub_mul, Int.mul_sub, Int.neg_mul, Int.neg_mul, Int.neg_mul]
    have t3 : n * d' * e * d2 = d' * (n * e * d2) := by ac_rfl
    have t4 : m * d * d' * d2 = d' * (m * d * d2) := by ac_rfl
    rw [t3, t4]
    omega
  exact Int.eq_of_mul_eq_mul_left (by omega) k
def spRsub (C : Addr) : Sp := fun vs H Q _ => ∃ a n d y m e, vs = [.ref a, y] ∧ Rt C H a n d ∧ Nu C H y m e ∧ Sm n ∧ Sm d ∧ Sm m ∧ Sm e ∧ d ≠ 0 ∧ e ≠ 0 ∧
  ∀ p H' n' d', Same H H' → Rt C H' p n' d' → n' * (d * e) = (m * d - n * e) * d' → 0 < d' → Int.gcd n' d' = 1 → Lg n' → Lg d' → Q (.ref p) H'
theorem scRsub : FnScope NR ["self", "other"] (defScope (mth 6)) := ⟨rfl, rfl, rfl, by decide +kernel, rfl, by decide +kernel, by decide +kernel⟩
theorem ok_rsub {f : Addr} {fd : FuncData} (F : L2.Fun K "__rsub__" "Ratio.__rsub__" (mth 6) f fd) (O : Ops P w K mg base C) :
    FnOk P w K mg base CX0 4 f fd ["self", "other"] (spRsub C) := by
  refine F.ok scRsub (fun vs H Q E h => ?_) (fun cdv A outer s H vs Q E hr h => ?_)
  · obtain ⟨a, n, d, y, m, e, rfl, _⟩ := h
    rfl
  · obtain ⟨a, n, d, y, m, e, rfl, ha, nu, sn, sd, sm, se, d0, e0, go⟩ := h
    refine ⟨_, pss_one (ps_ret (pe_op (op_addN O (hr.mono (by decide))) (pe_un (un_negN O (hr.mono (by decide))) (pv 0)) (pv 1))), ?_⟩
    refine ⟨_, rfl, a, n, d, rfl, ha, d0, sd, fun p H1 n1 d1 s1 r1 nm1 => ?_⟩
    have sn1 : Sm n1 := Nat.lt_of_le_of_lt nm1.2.2.2.1 (by rw [Int.natAbs_neg]; exact sn)
    have sd1 : Sm d1 := Nat.lt_of_le_of_lt nm1.2.2.2.2 sd
    refine ⟨y, rfl, p, n1, d1, m, e, rfl, r1, nu.same s1, sn1, sd1, sm, se, ?_, fun p2 H2 n2 d2 s2 r2 nm2 => ?_⟩
    · have := nm1.2.1
      exact Int.mul_ne_zero (by omega) e0
    · exact go p2 H2 n2 d2 (s1.trans s2) r2 (norm_neg d0 e0 nm1 nm2) nm2.2.1 nm2.2.2.1 (Nat.lt_of_le_of_lt nm2.2.2.2.1 (lg_add (lg_mul sn1 se) (lg_mul sm sd1))) (Nat.lt_of_le_of_lt nm2.2.2.2.2 (lg_of (lg_mul sd1 se)))
end
end K02

set_option Elab.async false
set_option linter.all false
set_option maxRecDepth 100000
set_option maxHeartbeats 4000000
set_option exponentiation.threshold 3000
/-! The law over Ratios: == of the class, its texts, its properties. -/
namespace K02
open PySem PySem.Spec PyProof.Rows L2 Vx Vr
theorem shaped_pair (n d : Int) : SeqAt.shaped (.tuple [.int n, .int d]) = true := by rfl
theorem eqv_pair (n d m e : Int) : PyData.eqv (.tuple [.int n, .int d]) (.tuple [.int m, .int e]) = (decide (n = m) && decide (d = e)) := by
  simp [PyData.eqv, PyData.eqvAll]
  rfl
section
variable {P : Program} {w : World} {K : PySem.W.Frag} {mg : Str → Option Value} {base : Heap} {C : Addr}
/-- a Ratio beside another thing: a number, or something of another kind -/
def spEq (K : PySem.W.Frag) (C : Addr) : Sp := fun vs H Q _ => ∃ a n d y, vs = [.ref a, y] ∧ Rt C H a n d ∧
  ((∃ m e, Nu C H y m e ∧ ∀ H', Same H H' → Q (.bl (decide (n = m) && decide (d = e))) H') ∨ ∃ T, Oth K H y T ∧ T ≠ "int" ∧ Q (.bl false) H)
theorem dp_pair {H : Hp} {t : Addr} {n d : Int} (h : H t = some (.tup [.int n, .int d])) : Dp K H (.ref t) (.tuple [.int n, .int d]) := .tup (SqT.of h) (.cons (.int n) (.cons (.int d) .nil))
theorem scEq : FnScope NR ["self", "other"] (defScope (mth 10)) := ⟨rfl, rfl, rfl, by decide +kernel, rfl, by decide +kernel, by decide +kernel⟩
theorem ok_eq {f : Addr} {fd : FuncData} (F : L2.Fun K "__eq__" "Ratio.__eq__" (mth 10) f fd) (U : Us P w K mg base C) : FnOk P w K mg base CX0 3 f fd ["self", "other"] (spEq K C) := by
  refine F.ok scEq (fun vs H Q E h => ?_) (fun cdv A outer s H vs Q E hr h => ?_)
  · obtain ⟨a, n, d, y, rfl, _⟩ := h
    rfl
  · obtain ⟨a, n, d, y, rfl, ha, h⟩ := h
    refine ⟨_, pss_one (ps_ret (pe_and (pe_cal U.num (hr.mono (by decide)) (pa_cons (pv 1) pa_nil))
      (pe_one (pe_cmpR (op_eqD hr.units) (pe_cal U.parts (hr.mono (by decide)) (pa_cons (pv 0) pa_nil)) (pe_cal U.parts (hr.mono (by decide)) (pa_cons (pv 1) pa_nil)) (nomark _))))), ?_⟩
    rcases h with ⟨m, e, nu, go⟩ | ⟨T, o, ne, go⟩
    · refine ⟨y, rfl, ?_⟩
      dsimp only [tNil]
      refine rd_num nu rfl ⟨_, rfl, iteT ?_⟩
      refine ⟨_, rfl, .ref a, n, d, rfl, .inr ⟨a, rfl, ha⟩, fun t ht => ?_⟩
      have s1 := same_new (o := .tup [.int n, .int d]) ht
      have h1 := upd_same (H := H) (a := t) (o := .tup [.int n, .int d])
      generalize upd H t (.tup [.int n, .int d]) = H1 at s1 h1 ⊢
      refine ⟨y, rfl, y, m, e, rfl, nu.same s1, fun t2 ht2 => ?_⟩
      have s2 := same_new (o := .tup [.int m, .int e]) ht2
      have h2 := upd_same (H := H1) (a := t2) (o := .tup [.int m, .int e])
      generalize upd H1 t2 (.tup [.int m, .int e]) = H2 at s2 h2 ⊢
      refine ⟨_, _, dp_pair (s2 _ _ h1), dp_pair h2, shaped_pair n d, shaped_pair m e, ?_⟩
      rw [eqv_pair]
      exact go _ (s1.trans s2)
    · refine ⟨y, rfl, .inr ⟨y, T, rfl, o, false, ?_, iteF go⟩⟩
      rw [beq_false_of_ne ne]
/-! ### its text -/
def spText (C : Addr) : Sp := fun vs H Q _ => ∃ a n d, vs = [.ref a] ∧ Rt C H a n d ∧ Sm n ∧ Sm d ∧ ∀ z : Str, Q (.str z) H
theorem sm_log {x : Int} (h : Sm x) : x.natAbs.log2 < 1920 := Nat.lt_of_lt_of_le (PySem.Flt.log2_lt_of (by decide) h) (by decide)
theorem scText : FnScope ["self"] ["self"] (defScope (mth 14)) := ⟨rfl, rfl, rfl, by decide +kernel, rfl, by decide +kernel, by decide +kernel⟩
/-! ### its properties -/
theorem ok_top {f : Addr} {fd : FuncData} (F : L2.Fun K "top" "Ratio.top" (mth 1) f fd) (R : Rc K C) : FnOk P w K mg base CX0 1 f fd ["self"] (getSp C "_top") := by
  obtain ⟨oc, od, kV, doc, pm, an, cdv, ct, osl, rfl, lk, hcd⟩ := F.ex
  exact fn_getter (N := ["self"]) lk hcd ⟨rfl, rfl, rfl, by decide +kernel, rfl, by decide +kernel, by decide +kernel⟩ rfl rfl R.own.cls R.noT
theorem ok_bot {f : Addr} {fd : FuncData} (F : L2.Fun K "bottom" "Ratio.bottom" (mth 2) f fd) (R : Rc K C) : FnOk P w K mg base CX0 1 f fd ["self"] (getSp C "_bottom") := by
  obtain ⟨oc, od, kV, doc, pm, an, cdv, ct, osl, rfl, lk, hcd⟩ := F.ex
  exact fn_getter (N := ["self"]) lk hcd ⟨rfl, rfl, rfl, by decide +kernel, rfl, by decide +kernel, by decide +kernel⟩ rfl rfl R.own.cls R.noB
end
end K02

set_option Elab.async false
set_option linter.all false
set_option maxRecDepth 100000
set_option maxHeartbeats 4000000
set_option exponentiation.threshold 3000
/-! The law over Ratios: texts; what the law's own text uses of the class. -/
namespace K02
open PySem PySem.Spec PyProof.Rows L2 Vx Vr
section
variable {X : Cx} {C : Addr} {k : Nat} {ps : List Str} {sp : Sp}
/-- str(o) by the class's __str__ -/
theorem call_strOwn (M : Mth X.prog X.w X.K X.mg X.base C "__str__" k ps sp) (hr : Room (k + 2) X.A) : CallR X (.type "str") (fun xs H Q => ∃ a dx fs, xs = [.ref a] ∧ H a = some (.ins C dx fs) ∧ sp [.ref a] H (fun v H' => ∃ z, v = .str z ∧ Q v H') E0) := by
  intro pins s σ H xs us Q I r h
  obtain ⟨a, dx, fs, rfl, ha, q⟩ := h
  obtain ⟨u, rfl, ru⟩ := r.one
  obtain rfl : u = .ref a := ru
  obtain ⟨f, fd, hs, hf, F, hb⟩ := M.ex
  obtain ⟨ox, od, J, hd⟩ := inst_at I ha
  have r2 : Vals [V.ref a] [Value.ref a] := .cons rfl .nil
  have hl : ([Value.ref a] ++ []).length = ps.length := by
    rw [List.append_nil, ← r2.length]
    exact F.len _ _ _ _ q
  refine PySem.W.kso_call hr.in1.in1.units0 I.kIn J hs hf ?_
  refine wpAny_call (codeAny_mono (F.run X.A.in1.in1 X.stack s H ⟨[.ref a], []⟩ [.ref a] [.ref a] _ E0 hr.in1.in1 I.env0.in1.in1 (by
      have := hb s [.ref a] I.kIn hl
      rw [List.append_nil] at this
      exact this) r2 q) fun r s' hq => ?_)
  cases r with
  | error e => exact False.elim hq
  | ok fl =>
    cases fl with
    | ret w =>
      obtain ⟨v, H', J', rv, z, rfl, q2⟩ := I.after hq
      obtain ⟨t, rfl⟩ := rv
      exact ⟨.str z, H', J', ⟨t, rfl⟩, q2⟩
    | next => exact False.elim hq
    | brk => exact False.elim hq
    | cont => exact False.elim hq
end
section
variable {P : Program} {w : World} {K : PySem.W.Frag} {mg : Str → Option Value} {base : Heap} {C : Addr}
theorem ok_text {f : Addr} {fd : FuncData} (F : L2.Fun K "text" "Ratio.text" (mth 14) f fd) (U : Us P w K mg base C) : FnOk P w K mg base CX0 1 f fd ["self"] (spText C) := by
  refine F.ok scText (fun vs H Q E h => ?_) (fun cdv A outer s H vs Q E hr h => ?_)
  · obtain ⟨a, n, d, rfl, _⟩ := h
    rfl
  · obtain ⟨a, n, d, rfl, ⟨dx, ha⟩, sn, sd, go⟩ := h
    refine ⟨_, pss_cons (ps_if (pt_cmpR op_eq (pe_fld (pv 0) rfl) pe_int (nomark _)) (pss_one (ps_ret (pe_callTy call_str_int (by rfl) U.bt.str (by decide +kernel) (pa_cons (pe_fld (pv 0) rfl) pa_nil)))) pss_nil)
      (pss_one (ps_ret (pe_joined (.cons (pe_fmt (pe_fld (pv 0) rfl)) (.cons pe_str (.cons (pe_fmt (pe_fld (pv 0) rfl)) .nil)))))), ?_⟩
    refine ⟨_, rfl, a, C, dx, _, _, rfl, ha, U.rc.own.cls, U.rc.noB, lkB n d, (by trivial), _, rfl, ?_⟩
    have l1 := int_text_len_1921 (sm_log sn)
    have l2 := int_text_len_1921 (sm_log sd)
    refine ite2 (fun _ => ?_) (fun _ => ?_)
    · exact ⟨_, rfl, a, C, dx, _, _, rfl, ha, U.rc.own.cls, U.rc.noT, lkT n d, _, rfl, sm_log sn, go _⟩
    · refine ⟨_, rfl, a, C, dx, _, _, rfl, ha, U.rc.own.cls, U.rc.noT, lkT n d, .inr ⟨n, rfl, sm_log sn, _, rfl, ?_, ?_⟩⟩
      · have z : (1921 + 1 + 1921 : Nat) ≤ sizeLine := by decide
        have z0 : (Str.empty).length = 0 := rfl
        have z1 : (Str.ofString "/").length = 1 := by decide
        simp only [PySem.Str.length_append]
        omega
      refine ⟨_, rfl, ?_, _, rfl, a, C, dx, _, _, rfl, ha, U.rc.own.cls, U.rc.noB, lkB n d, .inr ⟨d, rfl, sm_log sd, _, rfl, ?_, go _⟩⟩
      · have z : (1921 + 1 + 1921 : Nat) ≤ sizeLine := by decide
        have z0 : (Str.empty).length = 0 := rfl
        have z1 : (Str.ofString "/").length = 1 := by decide
        simp only [PySem.Str.length_append]
        omega
      · have z : (1921 + 1 + 1921 : Nat) ≤ sizeLine := by decide
        have z0 : (Str.empty).length = 0 := rfl
        have z1 : (Str.ofString "/").length = 1 := by decide
        simp only [PySem.Str.length_append]
        omega
theorem scStr : FnScope ["self"] ["self"] (defScope (mth 11)) := ⟨rfl, rfl, rfl, by decide +kernel, rfl, by decide +kernel, by decide +kernel⟩
theorem ok_str {f g : Addr} {fd gd : FuncData} (F : L2.Fun K "__str__" "Ratio.__str__" (mth 11) f fd) (U : Us P w K mg base C) (M : Meth K C "text" g) (G : FnOk P w K mg base CX0 1 g gd ["self"] (spText C)) (hb : Binds K gd ["self"] []) :
    FnOk P w K mg base CX0 3 f fd ["self"] (spText C) := by
  refine F.ok scStr (fun vs H Q E h => ?_) (fun cdv A outer s H vs Q E hr h => ?_)
  · obtain ⟨a, n, d, rfl, _⟩ := h
    rfl
  · obtain ⟨a, n, d, rfl, ⟨dx, ha⟩, sn, sd, go⟩ := h
    refine ⟨_, pss_one (ps_ret (pe_callTy SkE.call_str_str (by rfl) U.bt.str (by decide +kernel) (pa_cons (pe_meth0 (pv 0) U.rc.own.cls M G (hr.mono (by decide)) hb .nil pass0) pa_nil))), ?_⟩
    exact ⟨_, rfl, a, dx, _, rfl, ha, rfl, a, n, d, rfl, ⟨dx, ha⟩, sn, sd, fun z => ⟨z, rfl, go z⟩⟩
/-! ### what the law's text uses -/
/-- all of the class -/
structure Al (P : Program) (w : World) (K : PySem.W.Frag) (mg : Str → Option Value) (base : Heap) (C : Addr) : Prop where
  ops : Ops P w K mg base C
  radd : Mth P w K mg base C "__radd__" 4 ["self", "other"] (spBin C (fun n d m e => n * e + m * d) (fun _ d _ e => d * e))
  rsub : Mth P w K mg base C "__rsub__" 4 ["self", "other"] (spRsub C)
  rmul : Mth P w K mg base C "__rmul__" 4 ["self", "other"] (spBin C (fun n _ m _ => n * m) (fun _ d _ e => d * e))
  eq : Mth P w K mg base C "__eq__" 3 ["self", "other"] (spEq K C)
  ne : PySem.W.findIn K (.ref C) "__ne__" = some (some (.builtin "object.__ne__"))
  str : Mth P w K mg base C "__str__" 3 ["self"] (spText C)
  over : ∃ f fd, Meth K C "over" f ∧ FnOk P w K mg base CX0 3 f fd ["self", "number"] (spBin C (fun n _ _ e => n * e) (fun _ d m _ => d * m)) ∧ Binds K fd ["self", "number"] []
  below : ∃ f fd, Meth K C "below" f ∧ FnOk P w K mg base CX0 3 f fd ["self", "number"] (spBelow C) ∧ Binds K fd ["self", "number"] []
  top : ∃ p g fd, PropOf K C "top" p g ∧ FnOk P w K mg base CX0 1 g fd ["self"] (getSp C "_top") ∧ Binds K fd ["self"] []
  bot : ∃ p g fd, PropOf K C "bottom" p g ∧ FnOk P w K mg base CX0 1 g fd ["self"] (getSp C "_bottom") ∧ Binds K fd ["self"] []
  cd : ∃ cd, PySem.W.clsIn K C = some cd ∧ cd.mro = [.ref C, .type "object"]
  iadd : PySem.W.findIn K (.ref C) "__iadd__" = some none
  isub : PySem.W.findIn K (.ref C) "__isub__" = some none
  imul : PySem.W.findIn K (.ref C) "__imul__" = some none

section
variable {X : Cx}
/-- a Ratio op= a Ratio -/
def rIop (C : Addr) (g1 g2 : Int → Int → Int → Int → Int) : R2 := fun x y H Q => ∃ a n d b m e, x = .ref a ∧ Rt C H a n d ∧ y = .ref b ∧ Rt C H b m e ∧ Sm n ∧ Sm d ∧ Sm m ∧ Sm e ∧ g2 n d m e ≠ 0 ∧
  ∀ p H' n' d', Same H H' → Rt C H' p n' d' → Norm (g1 n d m e) (g2 n d m e) n' d' → Q (.ref p) H'
theorem rIop_of {g1 g2 : Int → Int → Int → Int → Int} {x y : V} {H : Hp} {Q : VK} (h : rIop C g1 g2 x y H Q) : ∃ a dx fs b dy gs, x = .ref a ∧ H a = some (.ins C dx fs) ∧ y = .ref b ∧ H b = some (.ins C dy gs) ∧
    spBin C g1 g2 [x, y] H (fun v H' => Nn v ∧ Q v H') E0 := by
  obtain ⟨a, n, d, b, m, e, rfl, ⟨dx, ha⟩, rfl, ⟨dy, hb⟩, sn, sd, sm, se, g0, go⟩ := h
  exact ⟨a, dx, _, b, dy, _, rfl, ha, rfl, hb, a, n, d, _, m, e, rfl, ⟨dx, ha⟩, .inr ⟨b, rfl, dy, hb⟩, sn, sd, sm, se, g0, fun p H' n' d' s r nm => ⟨.inl ⟨p, rfl⟩, go p H' n' d' s r nm⟩⟩
theorem iop_addN (T : Al X.prog X.w X.K X.mg X.base C) (hr : Room 3 X.A) : OpR X (inplaceOp .Add) (rIop C (fun n d m e => n * e + m * d) (fun _ d _ e => d * e)) := by
  obtain ⟨cd, hc, hm⟩ := T.cd
  exact OpR.imp (iop_own (op := .Add) T.ops.us.rc.own T.ops.add hr hc hm T.iadd (by rw [typeLookup_type, builtinLookup_eq_fast]; kernel_rfl)) fun x y H Q => rIop_of
theorem iop_subN (T : Al X.prog X.w X.K X.mg X.base C) (hr : Room 3 X.A) : OpR X (inplaceOp .Sub) (rIop C (fun n d m e => n * e - m * d) (fun _ d _ e => d * e)) := by
  obtain ⟨cd, hc, hm⟩ := T.cd
  exact OpR.imp (iop_own (op := .Sub) T.ops.us.rc.own T.ops.sub hr hc hm T.isub (by rw [typeLookup_type, builtinLookup_eq_fast]; kernel_rfl)) fun x y H Q => rIop_of
theorem iop_mulN (T : Al X.prog X.w X.K X.mg X.base C) (hr : Room 3 X.A) : OpR X (inplaceOp .Mult) (rIop C (fun n _ m _ => n * m) (fun _ d _ e => d * e)) := by
  obtain ⟨cd, hc, hm⟩ := T.cd
  exact OpR.imp (iop_own (op := .Mult) T.ops.us.rc.own T.ops.mul hr hc hm T.imul (by rw [typeLookup_type, builtinLookup_eq_fast]; kernel_rfl)) fun x y H Q => rIop_of
end
end
end K02

set_option Elab.async false
set_option linter.all false
set_option maxRecDepth 100000
set_option maxHeartbeats 4000000
set_option exponentiation.threshold 3000
/-! The law over Ratios: operators in the law's text. -/
namespace K02
open PySem PySem.Spec PyProof.Rows L2 Vx Vr
section
variable {X : Cx} {C : Addr}
theorem m_rsub {n1 d1 i a b n' d' : Int} (h1 : n1 * b = a * d1) (h : n' * (d1 * 1) = (i * d1 - n1 * 1) * d') (e1 : d1 ≠ 0) : n' * b = (i * b - a) * d' := by
  have k : d1 * (n' * b) = d1 * ((i * b - a) * d') := by grind
  exact Int.eq_of_mul_eq_mul_left e1 k
theorem sm1 : Sm 1 := by
  show (1 : Nat) < 2 ^ 1000
  exact Nat.one_lt_two_pow (by decide)
/-- int op Ratio -/
def rIntN (C : Addr) (g1 g2 : Int → Int → Int → Int → Int) : R2 := fun x y H Q => ∃ a n d i, y = .ref a ∧ Rt C H a n d ∧ x = .int i ∧ Sm n ∧ Sm d ∧ Sm i ∧ d ≠ 0 ∧
  ∀ p H' n' d', Same H H' → Rt C H' p n' d' → n' * g2 n d i 1 = g1 n d i 1 * d' → 0 < d' → Int.gcd n' d' = 1 → Lg n' → Lg d' → Q (.ref p) H'
theorem op_intAdd (T : Al X.prog X.w X.K X.mg X.base C) (hr : Room 4 X.A) : OpR X (binaryOp .Add) (rIntN C (fun n d m e => n * e + m * d) (fun _ d _ e => d * e)) := by
  obtain ⟨f0, _, h0, _⟩ := T.ops.add.ex
  refine OpR.imp (op_intOwn (op := .Add) (B := Builtin.«int.__add__») (n := "__add__") (g := fun x y => retInt (x + y)) T.ops.us.rc.own T.radd hr h0 PySem.F.fills_int_add PySem.F.slot_int_add PySem.F.entry_int_add PySem.F.args_int_add_2 rfl) fun x y H Q h => ?_
  obtain ⟨a, n, d, i, rfl, ⟨dx, ha⟩, rfl, sn, sd, si, d0, go⟩ := h
  exact ⟨i, a, dx, _, rfl, rfl, ha, a, n, d, _, i, 1, rfl, ⟨dx, ha⟩, .inl ⟨rfl, rfl⟩, sn, sd, si, sm1, Int.mul_ne_zero d0 (by decide), fun p H' n' d' s r nm => ⟨.inl ⟨p, rfl⟩, go p H' n' d' s r nm.1 nm.2.1 nm.2.2.1
    (Nat.lt_of_le_of_lt nm.2.2.2.1 (lg_add (lg_mul sn sm1) (lg_mul si sd))) (Nat.lt_of_le_of_lt nm.2.2.2.2 (lg_of (lg_mul sd sm1)))⟩⟩
theorem op_intMul (T : Al X.prog X.w X.K X.mg X.base C) (hr : Room 4 X.A) : OpR X (binaryOp .Mult) (rIntN C (fun n _ m _ => n * m) (fun _ d _ e => d * e)) := by
  obtain ⟨f0, _, h0, _⟩ := T.ops.mul.ex
  refine OpR.imp (op_intOwn (op := .Mult) (B := Builtin.«int.__mul__») (n := "__mul__") (g := fun x y => Builtin.intProduct "__mul__" x y) T.ops.us.rc.own T.rmul hr h0 PySem.F.fills_int_mul PySem.F.slot_int_mul PySem.F.entry_int_mul PySem.F.args_int_mul_2 rfl) fun x y H Q h => ?_
  obtain ⟨a, n, d, i, rfl, ⟨dx, ha⟩, rfl, sn, sd, si, d0, go⟩ := h
  exact ⟨i, a, dx, _, rfl, rfl, ha, a, n, d, _, i, 1, rfl, ⟨dx, ha⟩, .inl ⟨rfl, rfl⟩, sn, sd, si, sm1, Int.mul_ne_zero d0 (by decide), fun p H' n' d' s r nm => ⟨.inl ⟨p, rfl⟩, go p H' n' d' s r nm.1 nm.2.1 nm.2.2.1
    (Nat.lt_of_le_of_lt nm.2.2.2.1 (lg_of (lg_mul sn si))) (Nat.lt_of_le_of_lt nm.2.2.2.2 (lg_of (lg_mul sd sm1)))⟩⟩
theorem op_intSub (T : Al X.prog X.w X.K X.mg X.base C) (hr : Room 4 X.A) : OpR X (binaryOp .Sub) (rIntN C (fun n d m e => m * d - n * e) (fun _ d _ e => d * e)) := by
  obtain ⟨f0, _, h0, _⟩ := T.ops.sub.ex
  refine OpR.imp (op_intOwn (op := .Sub) (B := Builtin.«int.__sub__») (n := "__sub__") (g := fun x y => retInt (x - y)) T.ops.us.rc.own T.rsub hr h0 PySem.F.fills_int_sub PySem.F.slot_int_sub PySem.F.entry_int_sub PySem.F.args_int_sub_2 rfl) fun x y H Q h => ?_
  obtain ⟨a, n, d, i, rfl, ⟨dx, ha⟩, rfl, sn, sd, si, d0, go⟩ := h
  exact ⟨i, a, dx, _, rfl, rfl, ha, a, n, d, _, i, 1, rfl, ⟨dx, ha⟩, .inl ⟨rfl, rfl⟩, sn, sd, si, sm1, d0, (by decide), fun p H' n' d' s r e1 e2 e3 l1 l2 => ⟨.inl ⟨p, rfl⟩, go p H' n' d' s r e1 e2 e3 l1 l2⟩⟩
/-- == and its kin -/
def rEqN (K : PySem.W.Frag) (C : Addr) : R2 := fun x y H Q => ∃ a n d, x = .ref a ∧ Rt C H a n d ∧
  ((∃ m e, Nu C H y m e ∧ ∀ H', Same H H' → Q (.bl (decide (n = m) && decide (d = e))) H') ∨ ∃ T, Oth K H y T ∧ T ≠ "int" ∧ Q (.bl false) H)
def rNeN (K : PySem.W.Frag) (C : Addr) : R2 := fun x y H Q => ∃ a n d, x = .ref a ∧ Rt C H a n d ∧
  ((∃ m e, Nu C H y m e ∧ ∀ H', Same H H' → Q (.bl (!(decide (n = m) && decide (d = e)))) H') ∨ ∃ T, Oth K H y T ∧ T ≠ "int" ∧ Q (.bl true) H)
def rEqR (K : PySem.W.Frag) (C : Addr) : R2 := fun x y H Q => ∃ a n d, y = .ref a ∧ Rt C H a n d ∧
  ((∃ i, x = .int i ∧ ∀ H', Same H H' → Q (.bl (decide (n = i) && decide (d = 1))) H') ∨ ∃ T, Oth K H x T ∧ T ≠ "int" ∧ Q (.bl false) H)
theorem op_eqN (T : Al X.prog X.w X.K X.mg X.base C) (hr : Room 3 X.A) : OpR X (compareOp .Eq) (rEqN X.K C) := by
  refine OpR.imp (op_eqOwn T.eq T.ops.us.rc.far hr) fun x y H Q h => ?_
  obtain ⟨a, n, d, rfl, ⟨dx, ha⟩, h⟩ := h
  refine ⟨a, dx, _, rfl, ha, ?_, a, n, d, y, rfl, ⟨dx, ha⟩, ?_⟩
  · rcases h with ⟨m, e, ⟨rfl, rfl⟩ | ⟨b, rfl, dy, hb⟩, _⟩ | ⟨T, o, _⟩
    · exact .inr ⟨"int", .int m⟩
    · exact .inl ⟨b, dy, _, rfl, hb⟩
    · exact .inr ⟨T, o⟩
  · rcases h with ⟨m, e, nu, go⟩ | ⟨T, o, ne, go⟩
    · exact .inl ⟨m, e, nu, fun H' s => ⟨.inr ⟨_, rfl⟩, go H' s⟩⟩
    · exact .inr ⟨T, o, ne, .inr ⟨_, rfl⟩, go⟩
theorem op_neN (T : Al X.prog X.w X.K X.mg X.base C) (hr : Room 4 X.A) : OpR X (compareOp .NotEq) (rNeN X.K C) := by
  refine OpR.imp (op_neOwn T.ops.us.rc.own T.eq T.ops.us.rc.far hr T.ne) fun x y H Q h => ?_
  obtain ⟨a, n, d, rfl, ⟨dx, ha⟩, h⟩ := h
  refine ⟨a, dx, _, rfl, ha, ?_, a, n, d, y, rfl, ⟨dx, ha⟩, ?_⟩
  · rcases h with ⟨m, e, ⟨rfl, rfl⟩ | ⟨b, rfl, dy, hb⟩, _⟩ | ⟨T, o, _⟩
    · exact .inr ⟨"int", .int m⟩
    · exact .inl ⟨b, dy, _, rfl, hb⟩
    · exact .inr ⟨T, o⟩
  · rcases h with ⟨m, e, nu, go⟩ | ⟨T, o, ne, go⟩
    · exact .inl ⟨m, e, nu, fun H' s => ⟨_, rfl, go H' s⟩⟩
    · exact .inr ⟨T, o, ne, _, rfl, go⟩
theorem op_eqRN (T : Al X.prog X.w X.K X.mg X.base C) (hr : Room 3 X.A) : OpR X (compareOp .Eq) (rEqR X.K C) := by
  refine OpR.imp (op_eqOwnR T.eq T.ops.us.rc.far hr) fun x y H Q h => ?_
  obtain ⟨a, n, d, rfl, ⟨dx, ha⟩, h⟩ := h
  refine ⟨a, dx, _, rfl, ha, ?_, a, n, d, x, rfl, ⟨dx, ha⟩, ?_⟩
  · rcases h with ⟨i, rfl, _⟩ | ⟨T, o, _⟩
    · exact ⟨"int", .int i⟩
    · exact ⟨T, o⟩
  · rcases h with ⟨i, rfl, go⟩ | ⟨T, o, ne, go⟩
    · exact .inl ⟨i, 1, .inl ⟨rfl, rfl⟩, fun H' s => ⟨.inr ⟨_, rfl⟩, go H' s⟩⟩
    · exact .inr ⟨T, o, ne, .inr ⟨_, rfl⟩, go⟩
/-- o.top, o.bottom -/
theorem pe_top {e : Expr} {ta : TE} {pos : Pos} (T : Al X.prog X.w X.K X.mg X.base C) (hr : Room 2 X.A) (he : PE X e ta) (hab : attributeBase e "top" X.env (eval e X.env) = eval e X.env := by rfl) : PE X (.Attribute e "top" pos) (tProp C (getSp C "_top") [] E0 ta) := by
  obtain ⟨p, g, fd, P, F, b⟩ := T.top
  exact pe_prop he T.ops.us.rc.own.cls P F hr b .nil pass0 hab
theorem pe_bot {e : Expr} {ta : TE} {pos : Pos} (T : Al X.prog X.w X.K X.mg X.base C) (hr : Room 2 X.A) (he : PE X e ta) (hab : attributeBase e "bottom" X.env (eval e X.env) = eval e X.env := by rfl) : PE X (.Attribute e "bottom" pos) (tProp C (getSp C "_bottom") [] E0 ta) := by
  obtain ⟨p, g, fd, P, F, b⟩ := T.bot
  exact pe_prop he T.ops.us.rc.own.cls P F hr b .nil pass0 hab
theorem rd_top {a : Addr} {n d : Int} {H : Hp} {Q : VK} (h : Rt C H a n d) (q : Q (.int n) H) : ∃ a' dx fs, (V.ref a) = .ref a' ∧ H a' = some (.ins C dx fs) ∧ getSp C "_top" (.ref a' :: []) H Q E0 := by
  obtain ⟨dx, e⟩ := h
  exact ⟨a, dx, _, rfl, e, a, dx, _, _, rfl, e, lkT n d, q⟩
theorem rd_bot {a : Addr} {n d : Int} {H : Hp} {Q : VK} (h : Rt C H a n d) (q : Q (.int d) H) : ∃ a' dx fs, (V.ref a) = .ref a' ∧ H a' = some (.ins C dx fs) ∧ getSp C "_bottom" (.ref a' :: []) H Q E0 := by
  obtain ⟨dx, e⟩ := h
  exact ⟨a, dx, _, rfl, e, a, dx, _, _, rfl, e, lkB n d, q⟩
end
end K02

set_option Elab.async false
set_option linter.all false
set_option maxRecDepth 100000
set_option maxHeartbeats 4000000
set_option exponentiation.threshold 3000
/-! The law over Ratios: its drawing of numbers. -/
namespace K02
open PySem PySem.Spec PyProof.Rows L2 Vx Vr
abbrev sCell : Stmt := top 11
abbrev sBox : Stmt := top 12
abbrev sTake : Stmt := top 13
def spCell (K : PySem.W.Frag) : Sp := fun vs H Q _ => ∃ (a : Addr) (ns : List Int) (k : Nat), vs = [.ref a, .int k] ∧ SqL K H a (ns.map V.int) ∧ ns.length ≤ 63 ∧ k < 100 ∧
  ∀ z H', Same H H' → Q (.int z) H'
def spBox : Sp := fun vs H Q _ => ∃ c : Int, vs = [.int c] ∧ ∀ b x y, H b = none → 0 ≤ x → 0 ≤ y → y ≤ 2147483629 → Q (.ref b) (upd H b (.lst [.int x, .int y, .int 0]))
def spTake : Sp := fun vs H Q _ => ∃ (b : Addr) (n x y z : Int), vs = [.ref b, .int n] ∧ H b = some (.lst [.int x, .int y, .int z]) ∧ 0 < n ∧ n.natAbs.log2 < 9000 ∧ 0 ≤ y ∧ y ≤ 2147483629 ∧ 0 ≤ z ∧ z ≤ 1000000 ∧
  ∀ r x' z', 0 ≤ r → r < n → z ≤ z' → z' ≤ z + 1 → Q (.int r) (upd H b (.lst [.int x', .int y, .int z']))
section
variable {P : Program} {w : World} {K : PySem.W.Frag} {mg : Str → Option Value} {base : Heap}
theorem scCell : FnScope ["_law_script", "_law_k"] ["_law_script", "_law_k"] (defScope sCell) := ⟨rfl, rfl, rfl, by decide +kernel, rfl, by decide +kernel, by decide +kernel⟩
theorem ok_cell {f : Addr} {fd : FuncData} (F : Fun K "_law_cell" "_law_cell" sCell f fd) (T : Bt mg) : FnOk P w K mg base CX0 1 f fd ["_law_script", "_law_k"] (spCell K) := by
  refine F.ok scCell (fun vs H Q E h => ?_) (fun cdv A outer s H vs Q E hr h => ?_)
  · obtain ⟨a, ns, k, rfl, _⟩ := h
    rfl
  · obtain ⟨a, ns, k, rfl, hS, hl, hk, go⟩ := h
    refine ⟨_, pss_cons (ps_if (pt_cmpR op_lt (pv 1) (pe_callB call_len_seq (by rfl) T.len PySem.boot_len (pa_cons (pv 0) pa_nil)) (nomark _))
        (pss_one (ps_ret (pe_ix ix_list (pv 0) (pv 1) (fun _ _ => rfl)))) pss_nil)
      (pss_one (ps_ret (pe_op op_add (pe_op op_add (pe_op op_mul pe_int (pv 1)) pe_int)
        (pe_op op_mod (pe_callB (cr_sum rfl) (by rfl) T.sum (by decide +kernel) (pa_cons (pe_slice sl_list (pv 0) po_none (po_some pe_int)) pa_nil)) pe_int)))), ?_⟩
    refine ⟨_, rfl, _, rfl, a, _, rfl, .inl hS, _, _, rfl, rfl, _, rfl, ?_⟩
    refine ite2 (fun c => ?_) (fun c => ?_)
    · have c' : k < ns.length := by
        have c2 := of_decide_eq_true c
        rw [List.length_map] at c2
        omega
      refine ⟨_, rfl, _, rfl, a, _, _, .int (ns[k]'c'), rfl, rfl, hS, atI_nat (by rw [List.getElem?_map, List.getElem?_eq_getElem c']; rfl), ?_⟩
      exact go _ _ (Same.refl _)
    · refine ⟨_, rfl, _, _, rfl, rfl, .inl ⟨by decide, by decide⟩, _, _, rfl, rfl, _, rfl, _, rfl, a, _, rfl, hS, fun p hp => ?_⟩
      refine ⟨p, ns.take 1, rfl, ?_, _, _, rfl, rfl, (by show (0 : Int) < 1000003; decide), _, _, rfl, rfl, go _ _ fun b o e => by rw [upd_ne (ne_of_none e hp)]; exact e⟩
      refine .inl (.inl (upd_same.trans ?_))
      congr 1
      show HO.lst (cutV (ns.map V.int) none (some 1)) = _
      congr 1
      cases ns with
      | nil => rfl
      | cons n r =>
        simp [cutV, HT.sIx]
theorem scBox : FnScope ["_law_cell_here"] ["_law_cell_here"] (defScope sBox) := ⟨rfl, rfl, rfl, by decide +kernel, rfl, by decide +kernel, by decide +kernel⟩
theorem ok_box {f : Addr} {fd : FuncData} (F : Fun K "_law_box" "_law_box" sBox f fd) (T : Bt mg) : FnOk P w K mg base CX0 1 f fd ["_law_cell_here"] spBox := by
  refine F.ok scBox (fun vs H Q E h => ?_) (fun cdv A outer s H vs Q E hr h => ?_)
  · obtain ⟨c, rfl, _⟩ := h
    rfl
  · obtain ⟨c, rfl, go⟩ := h
    refine ⟨_, pss_one (ps_ret (pe_lst (pa_cons
        (pe_op op_mul (pe_callB call_abs (by rfl) T.abs (by decide +kernel) (pa_cons (pv 0) pa_nil))
          (pe_callTy call_int1 (by rfl) T.int (by decide +kernel) (pa_cons (pe_cmpR op_ge (pe_callB call_abs (by rfl) T.abs (by decide +kernel) (pa_cons (pv 0) pa_nil)) (pe_op op_pow pe_int pe_int) (nomark _)) pa_nil)))
        (pa_cons (pe_op op_add (pe_op op_mod (pe_callTy call_int1 (by rfl) T.int (by decide +kernel) (pa_cons (pe_callB call_abs (by rfl) T.abs (by decide +kernel) (pa_cons (pv 0) pa_nil)) pa_nil)) pe_int)
            (pe_callTy call_int1 (by rfl) T.int (by decide +kernel) (pa_cons (pe_cmpR op_lt (pv 0) pe_int (nomark _)) pa_nil)))
        (pa_cons pe_int pa_nil))))), ?_⟩
    generalize ea : (if c < 0 then -c else c) = a
    have ha : 0 ≤ a := by
      rw [← ea]
      split <;> omega
    refine ⟨_, rfl, c, rfl, ?_⟩
    rw [ea]
    refine ⟨_, rfl, c, rfl, ?_⟩
    rw [ea]
    refine ⟨_, _, rfl, rfl, ⟨by decide, by decide, by decide⟩, _, _, rfl, rfl, .inr ⟨_, rfl, _, _, rfl, rfl, .inr ?_, ?_⟩⟩
    · split <;> decide
    refine ⟨_, rfl, c, rfl, .inl ⟨_, rfl, _, _, rfl, rfl, (by show (0 : Int) < 2147483629; decide), _, rfl, _, _, rfl, rfl, .inr ⟨_, rfl, _, _, rfl, rfl, (by show 3 ≤ sizeLine; decide), fun b hb => ?_⟩⟩⟩
    rw [ea]
    have hm0 := Int.emod_nonneg a (show (2147483629 : Int) ≠ 0 by decide)
    have hm1 := Int.emod_lt_of_pos a (show (0 : Int) < 2147483629 by decide)
    refine go b _ _ hb ?_ ?_ ?_
    · split <;> simp [ha]
    · split <;> omega
    · split <;> omega
theorem scTake : FnScope ["_law_box_here", "_law_many", "_law_digit", "_law_mixed"] ["_law_box_here", "_law_many"] (defScope sTake) := ⟨rfl, rfl, rfl, by decide +kernel, rfl, by decide +kernel, by decide +kernel⟩
theorem ok_take {f : Addr} {fd : FuncData} (F : Fun K "_law_take" "_law_take" sTake f fd) (T : Bt mg) : FnOk P w K mg base CX0 1 f fd ["_law_box_here", "_law_many"] spTake := by
  refine F.ok scTake (fun vs H Q E h => ?_) (fun cdv A outer s H vs Q E hr h => ?_)
  · obtain ⟨b, n, x, y, z, rfl, _⟩ := h
    rfl
  · obtain ⟨b, n, x, y, z, rfl, hb, n0, n1, y0, y1, z0, z1, go⟩ := h
    refine ⟨_, pss_cons (ps_if (pt_cmpR op_gt (pe_ix ix_list (pv 0) pe_int (fun _ _ => rfl)) pe_int (nomark _))
        (pss_cons (ps_set (i := 2) scTake.nd rfl (.inl rfl) (pe_op op_mod (pe_callTy call_int1 (by rfl) T.int (by decide +kernel) (pa_cons (pe_ix ix_list (pv 0) pe_int (fun _ _ => rfl)) pa_nil)) (pv 1)))
        (pss_cons (ps_asg (pe_op op_fdivW (pe_ix ix_list (pv 0) pe_int (fun _ _ => rfl)) (pv 1)) (pg_sub (pv 0) pe_int set_list))
        (pss_one (ps_ret (pv 2))))) pss_nil)
      (pss_cons (ps_asg (pe_op op_add (pe_ix ix_list (pv 0) pe_int (fun _ _ => rfl)) pe_int) (pg_sub (pv 0) pe_int set_list))
      (pss_cons (ps_set (i := 3) scTake.nd rfl (.inl rfl) (pe_op op_mod (pe_op op_pow (pe_callTy call_int1 (by rfl) T.int (by decide +kernel) (pa_cons (pe_op op_add (pe_op op_add (pe_ix ix_list (pv 0) pe_int (fun _ _ => rfl)) (pe_op op_mul pe_int (pe_ix ix_list (pv 0) pe_int (fun _ _ => rfl)))) pe_int) pa_nil)) pe_int) pe_int))
      (pss_cons (ps_set (i := 3) scTake.nd rfl (.inl rfl) (pe_op op_mod (pe_op op_pow (pe_callTy call_int1 (by rfl) T.int (by decide +kernel) (pa_cons (pe_op op_add (pe_op op_add (pe_op op_fdiv (pv 3) pe_int) (pe_op op_mul pe_int (pe_ix ix_list (pv 0) pe_int (fun _ _ => rfl)))) (pe_ix ix_list (pv 0) pe_int (fun _ _ => rfl))) pa_nil)) pe_int) pe_int))
      (pss_one (ps_ret (pe_op op_mod (pe_op op_fdiv (pv 3) pe_int) (pv 1))))))), ?_⟩
    refine ⟨_, rfl, b, _, 0, .int x, rfl, rfl, SqL.of hb, rfl, _, _, rfl, rfl, _, rfl, ?_⟩
    refine ite2 (fun c => ?_) (fun c => ?_)
    · refine ⟨_, rfl, b, _, 0, .int x, rfl, rfl, SqL.of hb, rfl, .inl ⟨_, rfl, _, rfl, _, _, rfl, rfl, n0, ?_⟩⟩
      refine ⟨_, rfl, b, _, 0, .int x, rfl, rfl, SqL.of hb, rfl, _, rfl, _, _, rfl, rfl, ⟨n0, n1⟩, _, rfl, b, _, 0, 0, rfl, rfl, hb, rfl, _, rfl, ?_⟩
      exact go _ _ z (Int.emod_nonneg x (by omega)) (Int.emod_lt_of_pos x n0) (Int.le_refl _) (by omega)
    · refine ⟨_, rfl, b, _, 2, .int z, rfl, rfl, SqL.of hb, rfl, _, _, rfl, rfl, _, rfl, b, _, 2, 2, rfl, rfl, hb, rfl, ?_⟩
      show tSeq _ _ _ _ (upd H b (.lst [.int x, .int y, .int (z + 1)]))
      generalize eH : upd H b (.lst [.int x, .int y, .int (z + 1)]) = H1
      have hb1 : H1 b = some (.lst [.int x, .int y, .int (z + 1)]) := by
        rw [← eH]
        exact upd_same
      have p5 : ∀ q : Int, q ^ (5 : Int).toNat = q ^ 5 := fun _ => rfl
      refine ⟨_, rfl, b, _, 1, .int y, rfl, rfl, SqL.of hb1, rfl, _, rfl, b, _, 2, .int (z + 1), rfl, rfl, SqL.of hb1, rfl, _, _, rfl, rfl, .inl ⟨by decide, by decide⟩,
        _, _, rfl, rfl, _, _, rfl, rfl, .inl ⟨_, rfl, _, _, rfl, rfl, ⟨by decide, by decide, by omega⟩, _, _, rfl, rfl, (by show (0 : Int) < 2147483647; decide), ?_⟩⟩
      generalize em : (y + 48271 * (z + 1) + 11) ^ (5 : Int).toNat % 2147483647 = m
      have m0 : 0 ≤ m := by
        rw [← em]
        exact Int.emod_nonneg _ (by decide)
      have m1 : m < 2147483647 := by
        rw [← em]
        exact Int.emod_lt_of_pos _ (by decide)
      refine ⟨_, rfl, _, _, rfl, rfl, ⟨by decide, by decide⟩, _, rfl, b, _, 2, .int (z + 1), rfl, rfl, SqL.of hb1, rfl, _, _, rfl, rfl, .inl ⟨by decide, by decide⟩,
        _, _, rfl, rfl, _, rfl, b, _, 1, .int y, rfl, rfl, SqL.of hb1, rfl, _, _, rfl, rfl, .inl ⟨_, rfl, _, _, rfl, rfl, ⟨by decide, by decide, by omega⟩, _, _, rfl, rfl, (by show (0 : Int) < 2147483587; decide), ?_⟩⟩
      refine ⟨_, rfl, _, _, rfl, rfl, ⟨by decide, by decide⟩, _, rfl, _, _, rfl, rfl, n0, ?_⟩
      rw [← eH]
      exact go _ x (z + 1) (Int.emod_nonneg _ (by omega)) (Int.emod_lt_of_pos _ n0) (by omega) (Int.le_refl _)
end
end K02

set_option Elab.async false
set_option linter.all false
set_option maxRecDepth 100000
set_option maxHeartbeats 4000000
set_option exponentiation.threshold 3000
/-! The law over Ratios: integers drawn, its gcd, its look at a Ratio. -/
namespace K02
open PySem PySem.Spec PyProof.Rows L2 Vx Vr
/-- all but what stands at b has stayed -/
def Chg (b : Addr) (H H' : Hp) : Prop := ∀ q o, q ≠ b → H q = some o → H' q = some o
theorem Chg.trans {b : Addr} {H1 H2 H3 : Hp} (h : Chg b H1 H2) (g : Chg b H2 H3) : Chg b H1 H3 := fun q o ne e => g q o ne (h q o ne e)
theorem Chg.of {b : Addr} {H H' : Hp} (s : Same H H') : Chg b H H' := fun q o _ e => s q o e
theorem Chg.at_ {b : Addr} {H : Hp} {o : HO} : Chg b H (upd H b o) := fun q o' ne e => by rw [upd_ne ne]; exact e
theorem at4 (a b c d : V) {r : Int} (h0 : 0 ≤ r) (h1 : r < 4) : ∃ v, atI [a, b, c, d] r = some v ∧ (v = a ∨ v = b ∨ v = c ∨ v = d) := by
  obtain h | h | h | h : r = 0 ∨ r = 1 ∨ r = 2 ∨ r = 3 := by omega
  · subst h; exact ⟨a, rfl, .inl rfl⟩
  · subst h; exact ⟨b, rfl, .inr (.inl rfl)⟩
  · subst h; exact ⟨c, rfl, .inr (.inr (.inl rfl))⟩
  · subst h; exact ⟨d, rfl, .inr (.inr (.inr rfl))⟩
def spInt : Sp := fun vs H Q _ => ∃ b x y z, vs = [.ref b] ∧ H b = some (.lst [.int x, .int y, .int z]) ∧ 0 ≤ y ∧ y ≤ 2147483629 ∧ 0 ≤ z ∧ z ≤ 900000 ∧
  ∀ i x' z' H', i.natAbs < 10 ^ 29 → z ≤ z' → z' ≤ z + 3 → Chg b H H' → H' b = some (.lst [.int x', .int y, .int z']) → Q (.int i) H'
section
variable {P : Program} {w : World} {K : PySem.W.Frag} {mg : Str → Option Value} {base : Heap} {C : Addr}
theorem scInt : FnScope ["_law_box_here", "_law_size"] ["_law_box_here"] (defScope (top 14)) := ⟨rfl, rfl, rfl, by decide +kernel, rfl, by decide +kernel, by decide +kernel⟩
theorem ok_int {f : Addr} {fd : FuncData} (F : L2.Fun K "_law_integer" "_law_integer" (top 14) f fd) (T : Bt mg) (TK : Cal P w K mg base "_law_take" 1 ["_law_box_here", "_law_many"] spTake) : FnOk P w K mg base CX0 2 f fd ["_law_box_here"] spInt := by
  refine F.ok scInt (fun vs H Q E h => ?_) (fun cdv A outer s H vs Q E hr h => ?_)
  · obtain ⟨b, x, y, z, rfl, _⟩ := h
    rfl
  · obtain ⟨b, x, y, z, rfl, hb, y0, y1, z0, z1, go⟩ := h
    refine ⟨_, pss_cons (ps_set (i := 1) scInt.nd rfl (.inl rfl) (pe_ix ix_list (pe_lst (pa_cons pe_int (pa_cons pe_int (pa_cons (pe_op op_pow pe_int pe_int) (pa_cons (pe_op op_pow pe_int pe_int) pa_nil)))))
        (pe_cal TK (hr.mono (by decide)) (pa_cons (pv 0) (pa_cons pe_int pa_nil))) (fun _ _ => rfl)))
      (pss_one (ps_ret (pe_op op_mulW (pe_cal TK (hr.mono (by decide)) (pa_cons (pv 0) (pa_cons (pv 1) pa_nil)))
        (pe_ix ix_list (pe_lst (pa_cons pe_int (pa_cons (pe_un un_neg pe_int) (pa_cons pe_int (pa_cons pe_int pa_nil))))) (pe_cal TK (hr.mono (by decide)) (pa_cons (pv 0) (pa_cons pe_int pa_nil))) (fun _ _ => rfl))))), ?_⟩
    refine ⟨_, _, rfl, rfl, ⟨by decide, by decide, by decide⟩, _, _, rfl, rfl, ⟨by decide, by decide, by decide⟩, (by show 4 ≤ sizeLine; decide), fun l hl => ?_⟩
    have nlb : l ≠ b := fun e => by
      rw [e, hb] at hl
      cases hl
    have s1 := same_new (o := .lst [.int 10, .int 1000, .int (10 ^ (15 : Int).toNat), .int (10 ^ (29 : Int).toNat)]) hl
    refine ⟨_, rfl, b, 4, x, y, z, rfl, s1 _ _ hb, by decide, by decide, y0, y1, z0, by omega, fun r x1 z1' r0 r1 za zb => ?_⟩
    obtain ⟨v, hv, cs⟩ := at4 (.int 10) (.int 1000) (.int (10 ^ (15 : Int).toNat)) (.int (10 ^ (29 : Int).toNat)) r0 r1
    have hv2 : ∃ sz : Int, v = .int sz ∧ 0 < sz ∧ sz ≤ 10 ^ 29 := by
      rcases cs with h | h | h | h <;> subst h <;> exact ⟨_, rfl, by decide, by decide⟩
    obtain ⟨sz, rfl, p0, p1⟩ := hv2
    refine ⟨l, _, r, _, rfl, rfl, SqL.of ((upd_ne nlb).trans upd_same), hv, ?_⟩
    have c1 : Chg b H (upd (upd H l (.lst [.int 10, .int 1000, .int (10 ^ (15 : Int).toNat), .int (10 ^ (29 : Int).toNat)])) b (.lst [.int x1, .int y, .int z1'])) := (Chg.of s1).trans Chg.at_
    have b1 : upd (upd H l (.lst [.int 10, .int 1000, .int (10 ^ (15 : Int).toNat), .int (10 ^ (29 : Int).toNat)])) b (.lst [.int x1, .int y, .int z1']) b = some (.lst [.int x1, .int y, .int z1']) := upd_same
    dsimp only
    generalize upd (upd H l (.lst [.int 10, .int 1000, .int (10 ^ (15 : Int).toNat), .int (10 ^ (29 : Int).toNat)])) b (.lst [.int x1, .int y, .int z1']) = H1 at c1 b1 ⊢
    have lsz : sz.natAbs.log2 < 9000 := by
      have : sz.natAbs < 2 ^ 100 := by
        have : (10 : Int) ^ 29 < 2 ^ 100 := by decide
        omega
      exact Nat.lt_of_lt_of_le (PySem.Flt.log2_lt_of (by decide) this) (by decide)
    refine ⟨_, rfl, _, rfl, b, sz, x1, y, z1', rfl, b1, p0, lsz, y0, y1, by omega, by omega, fun r2 x2 z2 r20 r21 zc zd => ?_⟩
    have c2 : Chg b H (upd H1 b (.lst [.int x2, .int y, .int z2])) := c1.trans Chg.at_
    have b2 : upd H1 b (.lst [.int x2, .int y, .int z2]) b = some (.lst [.int x2, .int y, .int z2]) := upd_same
    generalize upd H1 b (.lst [.int x2, .int y, .int z2]) = H2 at c2 b2 ⊢
    refine ⟨_, rfl, (by show 4 ≤ sizeLine; decide), fun l2 hl2 => ?_⟩
    have nlb2 : l2 ≠ b := fun e => by
      rw [e, b2] at hl2
      cases hl2
    have s3 := same_new (o := .lst [.int 1, .int (-1), .int 1, .int 0]) hl2
    refine ⟨_, rfl, b, 4, x2, y, z2, rfl, s3 _ _ b2, by decide, by decide, y0, y1, by omega, by omega, fun r3 x3 z3 r30 r31 ze zf => ?_⟩
    obtain ⟨v, hv, cs⟩ := at4 (.int 1) (.int (-1)) (.int 1) (.int 0) r30 r31
    have hv2 : ∃ sg : Int, v = .int sg ∧ sg.natAbs ≤ 1 := by
      rcases cs with h | h | h | h <;> subst h <;> exact ⟨_, rfl, by decide⟩
    obtain ⟨sg, rfl, p2⟩ := hv2
    refine ⟨l2, _, r3, _, rfl, rfl, SqL.of ((upd_ne nlb2).trans upd_same), hv, ?_⟩
    have r2b : r2.natAbs < 10 ^ 29 := by omega
    refine ⟨_, _, rfl, rfl, wide_mul (a := 100) (b := 1) (Nat.lt_trans r2b (by decide)) (by show sg.natAbs < 2; omega) (by decide) (by decide) (by decide), ?_⟩
    refine go (r2 * sg) x3 z3 _ ?_ (by omega) (by omega) ((c2.trans (Chg.of s3)).trans Chg.at_) upd_same
    rw [Int.natAbs_mul]
    have : r2.natAbs * sg.natAbs ≤ r2.natAbs * 1 := Nat.mul_le_mul_left _ p2
    omega
end
end K02

set_option Elab.async false
set_option linter.all false
set_option maxRecDepth 100000
set_option maxHeartbeats 4000000
set_option exponentiation.threshold 3000
/-! The law over Ratios: its gcd, its look at a Ratio. -/
namespace K02
open PySem PySem.Spec PyProof.Rows L2 Vx Vr
def spCom : Sp := fun vs H Q _ => ∃ a b : Int, vs = [.int a, .int b] ∧ Q (.int ((Nat.gcd a.natAbs b.natAbs : Nat) : Int)) H
section
variable {P : Program} {w : World} {K : PySem.W.Frag} {mg : Str → Option Value} {base : Heap} {C : Addr}
theorem scCom : FnScope ["_law_one", "_law_other"] ["_law_one", "_law_other"] (defScope (top 15)) := ⟨rfl, rfl, rfl, by decide +kernel, rfl, by decide +kernel, by decide +kernel⟩
theorem abs_if (a : Int) : (if a < 0 then -a else a) = ((a.natAbs : Nat) : Int) := by
  split <;> omega
theorem ok_com {f : Addr} {fd : FuncData} (F : L2.Fun K "_law_common" "_law_common" (top 15) f fd) (T : Bt mg) : FnOk P w K mg base CX0 1 f fd ["_law_one", "_law_other"] spCom := by
  refine F.ok scCom (fun vs H Q E h => ?_) (fun cdv A outer s H vs Q E hr h => ?_)
  · obtain ⟨a, b, rfl, _⟩ := h
    rfl
  · obtain ⟨a, b, rfl, go⟩ := h
    refine ⟨_, pss_cons (ps_par (i := 0) (j := 1) (by rfl) scCom.nd rfl rfl (by decide) rfl rfl (pa_cons (pe_callB call_abs (by rfl) T.abs (by decide +kernel) (pa_cons (pv 0) pa_nil)) (pa_cons (pe_callB call_abs (by rfl) T.abs (by decide +kernel) (pa_cons (pv 1) pa_nil)) pa_nil)) (by rfl))
      (pss_cons (ps_while PassesOwn.never (pt_cmpR op_ne (pv 1) pe_int (nomark _))
        (pss_one (ps_par (i := 0) (j := 1) (by rfl) scCom.nd rfl rfl (by decide) rfl rfl (pa_cons (pv 1) (pa_cons (pe_op op_mod (pv 0) (pv 1)) pa_nil)) (by rfl))))
      (pss_one (ps_ret (pv 0)))), ?_⟩
    refine ⟨_, rfl, a, rfl, _, rfl, b, rfl, _, _, rfl, ?_⟩
    dsimp only
    rw [abs_if, abs_if]
    refine while_by (fun σ H' => H' = H ∧ ∃ x y : Nat, σ = [some (.int (x : Int)), some (.int (y : Int))] ∧ Nat.gcd x y = Nat.gcd a.natAbs b.natAbs)
      (fun σ _ => match σ with | [_, some (.int y)] => y.toNat | _ => 0) ⟨rfl, _, _, rfl, rfl⟩ ?_ ?_
    · rintro σ H1 ⟨rfl, x, y, rfl, e⟩
      refine ⟨_, rfl, (by trivial), _, rfl, ?_⟩
      by_cases hy : (y : Int) = 0
      · have : (!decide (V.int (y : Int) = V.int 0)) = false := by rw [hy]; rfl
        rw [this]
        refine iteF ⟨_, rfl, ?_⟩
        have y0 : y = 0 := by omega
        subst y0
        rw [Nat.gcd_zero_right] at e
        rw [e]
        exact go
      · have : (!decide (V.int (y : Int) = V.int 0)) = true := by
          rw [Bool.not_eq_true', decide_eq_false_iff_not]
          exact fun z => hy (V.int.inj z)
        rw [this]
        refine iteT ?_
        have yp : 0 < (y : Int) := by omega
        refine ⟨_, rfl, _, rfl, _, rfl, _, _, rfl, rfl, yp, _, _, rfl, ⟨rfl, y, x % y, ?_, ?_⟩, ?_⟩
        · show [some (V.int (y : Int)), some (V.int ((x : Int) % (y : Int)))] = _
          simp
        · rw [← e, Nat.gcd_comm x y, Nat.gcd_rec y x, Nat.gcd_comm]
        · show ((x : Int) % (y : Int)).toNat < ((y : Int)).toNat
          have h1 := Int.emod_lt_of_pos (x : Int) yp
          have h2 := Int.emod_nonneg (x : Int) (show (y : Int) ≠ 0 by omega)
          omega
    · rintro σ H1 Q1 Q2 hq ⟨v, h1, h2, k, h3, h4⟩
      exact ⟨v, h1, h2, k, h3, hq _ _ h4⟩
/-! ### the look at a Ratio -/
/-- p is the quotient N / D in lowest terms -/
def Qu (C : Addr) (H : Hp) (p : Addr) (N D : Int) : Prop := ∃ n d, Rt C H p n d ∧ n * D = N * d ∧ 0 < d ∧ Int.gcd n d = 1 ∧ Lg n ∧ Lg d
def spIs (C : Addr) : Sp := fun vs H Q _ => ∃ p N D, vs = [.ref p, .int N, .int D] ∧ Qu C H p N D ∧ Lg N ∧ Lg D ∧ Q (.bl true) H
theorem cmulL {a b : Int} (ha : Lg a) (hb : Lg b) : CMulW a b := wide_mul (a := 2100) (b := 2100) ha hb (by decide) (by decide) (by decide)
theorem scIs : FnScope ["_law_ratio", "_law_top", "_law_under"] ["_law_ratio", "_law_top", "_law_under"] (defScope (top 16)) := ⟨rfl, rfl, rfl, by decide +kernel, rfl, by decide +kernel, by decide +kernel⟩
theorem ok_is {f : Addr} {fd : FuncData} (F : L2.Fun K "_law_is" "_law_is" (top 16) f fd) (T : Al P w K mg base C) (gC : mg "Ratio" = some (.ref C)) (CO : Cal P w K mg base "_law_common" 1 ["_law_one", "_law_other"] spCom) :
    FnOk P w K mg base CX0 4 f fd ["_law_ratio", "_law_top", "_law_under"] (spIs C) := by
  refine F.ok scIs (fun vs H Q E h => ?_) (fun cdv A outer s H vs Q E hr h => ?_)
  · obtain ⟨p, N, D, rfl, _⟩ := h
    rfl
  · obtain ⟨p, N, D, rfl, ⟨n, d, hp, e, dp, g, ln, ld⟩, lN, lD, go⟩ := h
    have B := T.ops.us.bt
    have hr2 := hr.mono (show 2 ≤ 3 by decide)
    have ii : ∀ i : Int, PySem.W.kitOne K (.type "int") (.type "int") = some true := fun _ => kit_ty (by decide +kernel)
    refine ⟨_, pss_cons (ps_if (PW.pt (pw_or (pt_not (pt_val (pe_callB call_isi (by rfl) B.isi (by decide +kernel) (pa_cons (pv 0) (pa_cons (pe_glob (v := .ref C) (by rfl) gC rfl) pa_nil)))))
        (pw_or (pt_not (pt_val (pe_callB call_isi (by rfl) B.isi (by decide +kernel) (pa_cons (pe_top T hr2 (pv 0)) (pa_cons (pe_bltn (v := .ty "int") (by rfl) B.int (by decide +kernel) rfl) pa_nil)))))
        (pw_or1 (pt_not (pt_val (pe_callB call_isi (by rfl) B.isi (by decide +kernel) (pa_cons (pe_bot T hr2 (pv 0)) (pa_cons (pe_bltn (v := .ty "int") (by rfl) B.int (by decide +kernel) rfl) pa_nil)))))))))
        (pss_one (ps_ret pe_bl)) pss_nil)
      (pss_cons (ps_if (PW.pt (pw_or (pt_cmpR op_lt (pe_bot T hr2 (pv 0)) pe_int (nomark _))
        (pw_or1 (pt_cmpR op_ne (pe_cal CO (hr.mono (by decide)) (pa_cons (pe_top T hr2 (pv 0)) (pa_cons (pe_bot T hr2 (pv 0)) pa_nil))) pe_int (nomark _)))))
        (pss_one (ps_ret pe_bl)) pss_nil)
      (pss_one (ps_ret (pe_cmpR op_eq (pe_op op_mulW (pe_top T hr2 (pv 0)) (pv 2)) (pe_op op_mulW (pv 1) (pe_bot T hr2 (pv 0))) (nomark _))))), ?_⟩
    obtain ⟨dx, hp'⟩ := hp
    have tT : ∀ {Q : VK}, Q (.int n) H → ∃ a' dx fs, (V.ref p) = .ref a' ∧ H a' = some (.ins C dx fs) ∧ getSp C "_top" (.ref a' :: []) H Q E0 := fun q => rd_top ⟨dx, hp'⟩ q
    have tB : ∀ {Q : VK}, Q (.int d) H → ∃ a' dx fs, (V.ref p) = .ref a' ∧ H a' = some (.ins C dx fs) ∧ getSp C "_bottom" (.ref a' :: []) H Q E0 := fun q => rd_bot ⟨dx, hp'⟩ q
    refine ⟨_, rfl, .ref p, .ref C, .ref C, _, _, rfl, .own C, T.ops.us.rc.ty hp', T.ops.us.rc.one, _, rfl, ?_⟩
    refine iteF ⟨_, rfl, tT ⟨.int n, .ty "int", .type "int", _, _, rfl, .ty "int", ty_oth (.int n), ii n, _, rfl, ?_⟩⟩
    refine iteF ⟨_, rfl, tB ⟨.int d, .ty "int", .type "int", _, _, rfl, .ty "int", ty_oth (.int d), ii d, _, rfl, ?_⟩⟩
    refine iteF ⟨_, rfl, tB ⟨_, _, rfl, rfl, _, rfl, ?_⟩⟩
    have c1 : decide (d < 1) = false := decide_eq_false (by omega)
    rw [c1]
    refine iteF ⟨_, rfl, tT ⟨_, rfl, tB ?_⟩⟩
    refine ⟨n, d, rfl, (by trivial), _, rfl, ?_⟩
    have c2 : Nat.gcd n.natAbs d.natAbs = 1 := g
    rw [c2]
    refine iteF ⟨_, rfl, tT ⟨_, rfl, _, _, rfl, rfl, cmulL ln lD, ?_⟩⟩
    refine ⟨_, rfl, _, rfl, tB ⟨_, _, rfl, rfl, cmulL lN ld, (by trivial), ?_⟩⟩
    have c3 : decide (V.int (n * D) = V.int (N * d)) = true := decide_eq_true (by rw [e])
    rw [c3]
    exact go
end
end K02

set_option Elab.async false
set_option linter.all false
set_option maxRecDepth 100000
set_option maxHeartbeats 4000000
set_option exponentiation.threshold 3000
/-! The law over Ratios: what follows for quotients, by products of integers; lists of truths. -/
namespace K02
theorem m_add {n1 d1 n2 d2 a b c d n' d' : Int} (h1 : n1 * b = a * d1) (h2 : n2 * d = c * d2) (h : n' * (d1 * d2) = (n1 * d2 + n2 * d1) * d') (e1 : d1 ≠ 0) (e2 : d2 ≠ 0) : n' * (b * d) = (a * d + c * b) * d' := by
  have k : (d1 * d2) * (n' * (b * d)) = (d1 * d2) * ((a * d + c * b) * d') := by grind
  exact Int.eq_of_mul_eq_mul_left (Int.mul_ne_zero e1 e2) k
theorem m_sub {n1 d1 n2 d2 a b c d n' d' : Int} (h1 : n1 * b = a * d1) (h2 : n2 * d = c * d2) (h : n' * (d1 * d2) = (n1 * d2 - n2 * d1) * d') (e1 : d1 ≠ 0) (e2 : d2 ≠ 0) : n' * (b * d) = (a * d - c * b) * d' := by
  have k : (d1 * d2) * (n' * (b * d)) = (d1 * d2) * ((a * d - c * b) * d') := by grind
  exact Int.eq_of_mul_eq_mul_left (Int.mul_ne_zero e1 e2) k
theorem m_mul {n1 d1 n2 d2 a b c d n' d' : Int} (h1 : n1 * b = a * d1) (h2 : n2 * d = c * d2) (h : n' * (d1 * d2) = (n1 * n2) * d') (e1 : d1 ≠ 0) (e2 : d2 ≠ 0) : n' * (b * d) = (a * c) * d' := by
  have k : (d1 * d2) * (n' * (b * d)) = (d1 * d2) * ((a * c) * d') := by grind
  exact Int.eq_of_mul_eq_mul_left (Int.mul_ne_zero e1 e2) k
theorem m_neg {n1 d1 a b n' d' : Int} (h1 : n1 * b = a * d1) (h : n' * d1 = -n1 * d') (e1 : d1 ≠ 0) : n' * b = (0 - a) * d' := by
  have k : d1 * (n' * b) = d1 * ((0 - a) * d') := by grind
  exact Int.eq_of_mul_eq_mul_left e1 k
theorem m_over {n1 d1 n2 d2 a b c d n' d' : Int} (h1 : n1 * b = a * d1) (h2 : n2 * d = c * d2) (h : n' * (d1 * n2) = (n1 * d2) * d') (e1 : d1 ≠ 0) (e2 : d2 ≠ 0) (hd : d ≠ 0) (hc : c ≠ 0) : n' * (b * c) = (a * d) * d' := by
  have k : (d1 * d2) * (n' * (b * c)) = (d1 * d2) * ((a * d) * d') := by grind
  exact Int.eq_of_mul_eq_mul_left (Int.mul_ne_zero e1 e2) k
/-- order -/
theorem m_ord {n1 d1 n2 d2 a b c d : Int} (h1 : n1 * b = a * d1) (h2 : n2 * d = c * d2) : (n1 * d2 - n2 * d1) * (b * d) = (a * d - c * b) * (d1 * d2) := by grind
theorem m_lt {n1 d1 n2 d2 a b c d sg : Int} (h1 : n1 * b = a * d1) (h2 : n2 * d = c * d2) (p1 : 0 < d1) (p2 : 0 < d2) (hb : b ≠ 0) (hd : d ≠ 0) (hs : sg = if b * d > 0 then 1 else -1) :
    decide (n1 * d2 < n2 * d1) = decide ((a * d - c * b) * sg < 0) := by
  have o := m_ord h1 h2
  have pd : 0 < d1 * d2 := Int.mul_pos p1 p2
  have bd : b * d ≠ 0 := Int.mul_ne_zero hb hd
  generalize a * d - c * b = s at o ⊢
  generalize b * d = t at o bd hs
  generalize d1 * d2 = u at o pd
  generalize n1 * d2 = x at o ⊢
  generalize n2 * d1 = y at o ⊢
  rw [Bool.eq_iff_iff, decide_eq_true_iff, decide_eq_true_iff]
  have sgn : ∀ k : Int, 0 < k → ∀ z : Int, (z * k < 0 ↔ z < 0) := fun k hk z => by
    constructor
    · intro h
      rcases Int.lt_or_le z 0 with h' | h'
      · exact h'
      · exact absurd h (by have := Int.mul_nonneg h' (Int.le_of_lt hk); omega)
    · intro h
      exact Int.mul_neg_of_neg_of_pos h hk
  rcases Int.lt_or_le 0 t with ht | ht
  · rw [hs, if_pos ht, Int.mul_one]
    have e1 := sgn t ht (x - y)
    have e2 := sgn u pd s
    rw [← o] at e2
    omega
  · have tn : 0 < -t := by omega
    rw [hs, if_neg (by omega)]
    have e1 := sgn (-t) tn (x - y)
    have e2 := sgn u pd (-s)
    have e3 : (x - y) * -t = -s * u := by rw [Int.mul_neg, o, Int.neg_mul]
    rw [e3] at e1
    omega
theorem cop {k m n : Int} (h : k ∣ m * n) (g : Int.gcd m k = 1) : k ∣ n := by
  have h1 : k.natAbs ∣ m.natAbs * n.natAbs := by
    rw [← Int.natAbs_mul]
    exact Int.natAbs_dvd_natAbs.mpr h
  have h2 : Nat.Coprime k.natAbs m.natAbs := by
    rw [Nat.coprime_comm]
    exact g
  exact Int.natAbs_dvd_natAbs.mp (h2.dvd_of_dvd_mul_left h1)
theorem m_eq {n1 d1 n2 d2 a b c d sg : Int} (h1 : n1 * b = a * d1) (h2 : n2 * d = c * d2) (p1 : 0 < d1) (p2 : 0 < d2) (g1 : Int.gcd n1 d1 = 1) (g2 : Int.gcd n2 d2 = 1) (hb : b ≠ 0) (hd : d ≠ 0) (hs : sg = if b * d > 0 then 1 else -1) :
    (decide (n1 = n2) && decide (d1 = d2)) = decide ((a * d - c * b) * sg = 0) := by
  have o := m_ord h1 h2
  have pd : d1 * d2 ≠ 0 := Int.mul_ne_zero (by omega) (by omega)
  have bd : b * d ≠ 0 := Int.mul_ne_zero hb hd
  have s0 : sg ≠ 0 := by
    rw [hs]
    split <;> decide
  rw [Bool.eq_iff_iff, Bool.and_eq_true, decide_eq_true_iff, decide_eq_true_iff, decide_eq_true_iff]
  constructor
  · rintro ⟨rfl, rfl⟩
    have : (a * d - c * b) * (d1 * d1) = 0 := by
      rw [← o, Int.sub_self, Int.zero_mul]
    rcases Int.mul_eq_zero.mp this with h | h
    · rw [h, Int.zero_mul]
    · exact absurd h pd
  · intro h
    have z : a * d - c * b = 0 := by
      rcases Int.mul_eq_zero.mp h with h | h
      · exact h
      · exact absurd h s0
    rw [z, Int.zero_mul] at o
    have x : n1 * d2 = n2 * d1 := by
      rcases Int.mul_eq_zero.mp o with h | h
      · omega
      · exact absurd h bd
    have v1 : d1 ∣ d2 := by
      have : d1 ∣ n1 * d2 := ⟨n2, by rw [x, Int.mul_comm]⟩
      exact cop this g1
    have v2 : d2 ∣ d1 := by
      have : d2 ∣ n2 * d1 := ⟨n1, by rw [← x, Int.mul_comm]⟩
      exact cop this g2
    have e : d1 = d2 := Int.dvd_antisymm (by omega) (by omega) v1 v2
    subst e
    exact ⟨Int.eq_of_mul_eq_mul_right (by omega) x, rfl⟩
section
open PySem PySem.Spec PyProof.Rows L2 Vx Vr
theorem canLay_bools : ∀ bs : List Bool, PyData.canLayAll0 (bs.map PyData.bool) = true
  | [] => by simp [PyData.canLayAll0]
  | b :: bs => by simp [PyData.canLayAll0, PyData.canLay0, canLay_bools bs]
theorem depth_bools : ∀ bs : List Bool, PyData.depthAll (bs.map PyData.bool) ≤ 1
  | [] => by simp [PyData.depthAll]
  | b :: bs => by
    have := depth_bools bs
    simp [PyData.depthAll, PyData.depth]
    omega
theorem shaped_bools (bs : List Bool) : SeqAt.shaped (.list (bs.map PyData.bool)) = true := by
  have := depth_bools bs
  unfold SeqAt.shaped
  simp [PyData.canLay0, canLay_bools bs, PyData.depth]
  omega
theorem eqv_bools : ∀ bs : List Bool, PyData.eqvAll (bs.map PyData.bool) (bs.map PyData.bool) = true
  | [] => by simp [PyData.eqvAll]
  | b :: bs => by simp [PyData.eqvAll, PyData.eqv, eqv_bools bs]
theorem eqv_boolsL (bs : List Bool) : PyData.eqv (.list (bs.map PyData.bool)) (.list (bs.map PyData.bool)) = true := by
  rw [PyData.eqv]
  exact eqv_bools bs
theorem dp_bools {K : PySem.W.Frag} {H : Hp} : ∀ bs : List Bool, DpAll K H (bs.map V.bl) (bs.map PyData.bool)
  | [] => .nil
  | b :: bs => .cons (.bl b) (dp_bools bs)
end
end K02

set_option Elab.async false
set_option linter.all false
set_option maxRecDepth 100000
set_option maxHeartbeats 4000000
set_option exponentiation.threshold 3000
/-! The law over Ratios: the readings of its looks. -/
namespace K02
open PySem PySem.Spec PyProof.Rows L2 Vx Vr
/-- v is the number c / d, kept as m / e -/
structure Nq (C : Addr) (H : Hp) (v : V) (c d m e : Int) : Prop where
  nu : Nu C H v m e
  eq : m * d = c * e
  pos : 0 < e
  low : Int.gcd m e = 1
  sm : Sm m
  se : Sm e
  d0 : d ≠ 0
  sc : Sm c
  sd : Sm d
/-- the Ratio at p is a / b, kept as n / d -/
structure Bq (C : Addr) (H : Hp) (p : Addr) (a b n d : Int) : Prop where
  rt : Rt C H p n d
  eq : n * b = a * d
  pos : 0 < d
  low : Int.gcd n d = 1
  sn : Sm n
  sd : Sm d
  b0 : b ≠ 0
  sa : Sm a
  sb : Sm b
theorem Bq.nq {C : Addr} {H : Hp} {p : Addr} {a b n d : Int} (B : Bq C H p a b n d) : Nq C H (.ref p) a b n d := ⟨.inr ⟨p, rfl, B.rt⟩, B.eq, B.pos, B.low, B.sn, B.sd, B.b0, B.sa, B.sb⟩
theorem Bq.same {C : Addr} {H H' : Hp} {p : Addr} {a b n d : Int} (s : Same H H') (B : Bq C H p a b n d) : Bq C H' p a b n d := ⟨B.rt.same s, B.eq, B.pos, B.low, B.sn, B.sd, B.b0, B.sa, B.sb⟩
theorem Nq.same {C : Addr} {H H' : Hp} {v : V} {a b n d : Int} (s : Same H H') (B : Nq C H v a b n d) : Nq C H' v a b n d := ⟨B.nu.same s, B.eq, B.pos, B.low, B.sm, B.se, B.d0, B.sc, B.sd⟩
theorem Bq.qu {C : Addr} {H : Hp} {p : Addr} {a b n d : Int} (B : Bq C H p a b n d) : Qu C H p a b := ⟨n, d, B.rt, B.eq, B.pos, B.low, sm_lg B.sn, sm_lg B.sd⟩
theorem nq_int {C : Addr} {H : Hp} {i : Int} (h : Sm i) : Nq C H (.int i) i 1 i 1 := ⟨.inl ⟨rfl, rfl⟩, rfl, by decide, by simp, h, sm1, by decide, h, sm1⟩
theorem Bq.d0 {C : Addr} {H : Hp} {p : Addr} {a b n d : Int} (B : Bq C H p a b n d) : d ≠ 0 := by have := B.pos; omega
theorem Nq.e0 {C : Addr} {H : Hp} {v : V} {c d m e : Int} (B : Nq C H v c d m e) : e ≠ 0 := by have := B.pos; omega
abbrev gA1 : Int → Int → Int → Int → Int := fun n d m e => n * e + m * d
abbrev gS1 : Int → Int → Int → Int → Int := fun n d m e => n * e - m * d
abbrev gM1 : Int → Int → Int → Int → Int := fun n _ m _ => n * m
abbrev gD2 : Int → Int → Int → Int → Int := fun _ d _ e => d * e
section
variable {K : PySem.W.Frag} {C : Addr} {H : Hp} {p : Addr} {v : V} {a b n1 d1 c d n2 d2 : Int}
theorem qu_lg {n d N D : Int} {H' : Hp} {p' : Addr} {N2 D2 : Int} (nm : Norm N D n d) (lN : Lg N) (lD : Lg D) (r : Rt C H' p' n d) (e : n * D2 = N2 * d) : Qu C H' p' N2 D2 :=
  ⟨n, d, r, e, nm.2.1, nm.2.2.1, Nat.lt_of_le_of_lt nm.2.2.2.1 lN, Nat.lt_of_le_of_lt nm.2.2.2.2 lD⟩
/-- what + - * hand on -/
theorem rn_add (B1 : Bq C H p a b n1 d1) (B2 : Nq C H v c d n2 d2) {Q : VK} (k : ∀ p' H', Same H H' → Qu C H' p' (a * d + c * b) (b * d) → Q (.ref p') H') : rNum C gA1 gD2 (.ref p) v H Q :=
  ⟨p, n1, d1, n2, d2, rfl, B1.rt, B2.nu, B1.sn, B1.sd, B2.sm, B2.se, Int.mul_ne_zero B1.d0 B2.e0, fun p' H' n' d' s r nm => k p' H' s (qu_lg nm (lg_add (lg_mul B1.sn B2.se) (lg_mul B2.sm B1.sd)) (lg_of (lg_mul B1.sd B2.se)) r (m_add B1.eq B2.eq nm.1 B1.d0 B2.e0))⟩
theorem rn_sub (B1 : Bq C H p a b n1 d1) (B2 : Nq C H v c d n2 d2) {Q : VK} (k : ∀ p' H', Same H H' → Qu C H' p' (a * d - c * b) (b * d) → Q (.ref p') H') : rNum C gS1 gD2 (.ref p) v H Q :=
  ⟨p, n1, d1, n2, d2, rfl, B1.rt, B2.nu, B1.sn, B1.sd, B2.sm, B2.se, Int.mul_ne_zero B1.d0 B2.e0, fun p' H' n' d' s r nm => k p' H' s (qu_lg nm (lg_sub (lg_mul B1.sn B2.se) (lg_mul B2.sm B1.sd)) (lg_of (lg_mul B1.sd B2.se)) r (m_sub B1.eq B2.eq nm.1 B1.d0 B2.e0))⟩
theorem rn_mul (B1 : Bq C H p a b n1 d1) (B2 : Nq C H v c d n2 d2) {Q : VK} (k : ∀ p' H', Same H H' → Qu C H' p' (a * c) (b * d) → Q (.ref p') H') : rNum C gM1 gD2 (.ref p) v H Q :=
  ⟨p, n1, d1, n2, d2, rfl, B1.rt, B2.nu, B1.sn, B1.sd, B2.sm, B2.se, Int.mul_ne_zero B1.d0 B2.e0, fun p' H' n' d' s r nm => k p' H' s (qu_lg nm (lg_of (lg_mul B1.sn B2.sm)) (lg_of (lg_mul B1.sd B2.se)) r (m_mul B1.eq B2.eq nm.1 B1.d0 B2.e0))⟩
/-- .. in place -/
theorem ri_of {g1 g2 : Int → Int → Int → Int → Int} {q : Addr} (h : rNum C g1 g2 (.ref p) (.ref q) H Q) : rIop C g1 g2 (.ref p) (.ref q) H Q := by
  obtain ⟨a', n, d', m, e, h0, ha, nu, sn, sd, sm, se, g0, go⟩ := h
  cases h0
  rcases nu with ⟨h1, _⟩ | ⟨b', h1, hb⟩
  · cases h1
  · cases h1
    exact ⟨_, n, d', _, m, e, rfl, ha, rfl, hb, sn, sd, sm, se, g0, go⟩
abbrev tIs (C : Addr) (te t1 t2 : TE) : TE := tCall (spIs C) [] E0 (tCons te (tCons t1 (tCons t2 tNil)))
/-- what a look asks -/
theorem rd_is {te t1 t2 : TE} {σ : L2.St} {N D : Int} {Q : VK} (hte : ∀ Qv : VK, (∀ p H', Same H H' → Qu C H' p N D → Qv (.ref p) H') → te σ H Qv)
    (h1 : ∀ (H' : Hp) (Qv : VK), Qv (.int N) H' → t1 σ H' Qv) (h2 : ∀ (H' : Hp) (Qv : VK), Qv (.int D) H' → t2 σ H' Qv) (lN : Lg N) (lD : Lg D) (go : ∀ H', Same H H' → Q (.bl true) H') : tIs C te t1 t2 σ H Q :=
  hte _ fun p H' s qu => h1 H' _ (h2 H' _ ⟨p, N, D, rfl, qu, lN, lD, go H' s⟩)
theorem rd_chk {te t1 t2 : TE} {σ : L2.St} {N D : Int} {Q : Bool → Hp → Prop} (hte : ∀ Qv : VK, (∀ p H', Same H H' → Qu C H' p N D → Qv (.ref p) H') → te σ H Qv)
    (h1 : ∀ (H' : Hp) (Qv : VK), Qv (.int N) H' → t1 σ H' Qv) (h2 : ∀ (H' : Hp) (Qv : VK), Qv (.int D) H' → t2 σ H' Qv) (lN : Lg N) (lD : Lg D) (go : ∀ H', Same H H' → Q false H') : tNot (tB (tIs C te t1 t2)) σ H Q :=
  rd_is hte h1 h2 lN lD fun H' s => ⟨true, rfl, go H' s⟩
/-- x * y, x * y + z * u, x * y - z * u, of names -/
theorem rd_m {σ : L2.St} {i j : Nat} {x y : Int} (hi : σ[i]? = some (some (.int x))) (hj : σ[j]? = some (some (.int y))) (sx : Sm x) (sy : Sm y) : ∀ (H' : Hp) (Qv : VK), Qv (.int (x * y)) H' → tOp (rI CMulW fun i j => .int (i * j)) (tVar i) (tVar j) σ H' Qv :=
  fun H' Qv q => ⟨_, hi, _, hj, _, _, rfl, rfl, cmul sx sy, q⟩
theorem rd_v {σ : L2.St} {i : Nat} {x : V} (hi : σ[i]? = some (some x)) : ∀ (H' : Hp) (Qv : VK), Qv x H' → tVar i σ H' Qv := fun H' Qv q => ⟨_, hi, q⟩
theorem rd_i0 {g : Int → Int → Int} {t1 t2 : TE} {σ : L2.St} {x y : Int} (h1 : ∀ (H' : Hp) (Qv : VK), Qv (.int x) H' → t1 σ H' Qv) (h2 : ∀ (H' : Hp) (Qv : VK), Qv (.int y) H' → t2 σ H' Qv) :
    ∀ (H' : Hp) (Qv : VK), Qv (.int (g x y)) H' → tOp (rI0 fun i j => .int (g i j)) t1 t2 σ H' Qv := fun H' Qv q => h1 H' _ (h2 H' _ ⟨_, _, rfl, rfl, q⟩)
end
end K02

set_option Elab.async false
set_option linter.all false
set_option maxRecDepth 100000
set_option maxHeartbeats 4000000
set_option exponentiation.threshold 3000
/-! The law over Ratios: two of them. -/
namespace K02
open PySem PySem.Spec PyProof.Rows L2 Vx Vr
/-- the law's look, as a def that is called -/
abbrev IsC (P : Program) (w : World) (K : PySem.W.Frag) (mg : Str → Option Value) (base : Heap) (C : Addr) : Prop := Cal P w K mg base "_law_is" 4 ["_law_ratio", "_law_top", "_law_under"] (spIs C)
def spTwo (C : Addr) : Sp := fun vs H Q _ => ∃ p q a b c d n1 d1 n2 d2, vs = [.ref p, .ref q, .int a, .int b, .int c, .int d] ∧ Bq C H p a b n1 d1 ∧ Bq C H q c d n2 d2 ∧ ∀ H', Same H H' → Q (.bl true) H'
section
variable {P : Program} {w : World} {K : PySem.W.Frag} {mg : Str → Option Value} {base : Heap} {C : Addr}
abbrev N2 : List Str := ["_law_one", "_law_other", "_law_a", "_law_b", "_law_c", "_law_d", "_law_side", "_law_joined", "_law_less", "_law_more"]
theorem scTwo : FnScope N2 ["_law_one", "_law_other", "_law_a", "_law_b", "_law_c", "_law_d"] (defScope (top 18)) := ⟨rfl, rfl, rfl, by decide +kernel, rfl, by decide +kernel, by decide +kernel⟩
theorem Qu.same {H H' : Hp} {p : Addr} {N D : Int} (s : Same H H') (h : Qu C H p N D) : Qu C H' p N D := by
  obtain ⟨n, d, r, x⟩ := h
  exact ⟨n, d, r.same s, x⟩
theorem rn_over {H : Hp} {p : Addr} {v : V} {a b n1 d1 c d n2 d2 : Int} (B1 : Bq C H p a b n1 d1) (B2 : Nq C H v c d n2 d2) (hc : c ≠ 0) {Q : VK} (k : ∀ p' H', Same H H' → Qu C H' p' (a * d) (b * c) → Q (.ref p') H') :
    spBin C (fun n _ _ e => n * e) (fun _ d m _ => d * m) [.ref p, v] H Q E0 := by
  have n0 : n2 ≠ 0 := fun z => by
    have e := B2.eq
    rw [z, Int.zero_mul] at e
    rcases Int.mul_eq_zero.mp e.symm with h | h
    · exact hc h
    · exact B2.e0 h
  exact ⟨p, n1, d1, v, n2, d2, rfl, B1.rt, B2.nu, B1.sn, B1.sd, B2.sm, B2.se, Int.mul_ne_zero B1.d0 n0, fun p' H' n' d' s r nm => k p' H' s (qu_lg nm (lg_of (lg_mul B1.sn B2.se)) (lg_of (lg_mul B1.sd B2.sm)) r (m_over B1.eq B2.eq nm.1 B1.d0 B2.e0 B2.d0 hc))⟩
theorem sgn_lg (t : Int) : ∃ sg : Int, sg = (if t > 0 then 1 else -1) ∧ Lg sg := by
  refine ⟨_, rfl, ?_⟩
  split
  · exact sm_lg sm1
  · show (1 : Nat) < 2 ^ 2100
    exact Nat.one_lt_two_pow (by decide)
theorem ok_two {f : Addr} {fd : FuncData} (F : L2.Fun K "_law_two_right" "_law_two_right" (top 18) f fd) (T : Al P w K mg base C) (I : IsC P w K mg base C) :
    FnOk P w K mg base CX0 6 f fd ["_law_one", "_law_other", "_law_a", "_law_b", "_law_c", "_law_d"] (spTwo C) := by
  refine F.ok scTwo (fun vs H Q E h => ?_) (fun cdv A outer s H vs Q E hr h => ?_)
  · obtain ⟨p, q, a, b, c, d, n1, d1, n2, d2, rfl, _⟩ := h
    rfl
  · obtain ⟨p, q, a, b, c, d, n1, d1, n2, d2, rfl, B1, B2, go⟩ := h
    have h4 := hr.mono (show 4 ≤ 5 by decide)
    have h3 := hr.mono (show 3 ≤ 5 by decide)
    obtain ⟨fo, fdo, Mo, Fo, bo⟩ := T.over
    obtain ⟨fb, fdb, Mb, Fb, bb⟩ := T.below
    have O := T.ops
    have cl := T.ops.us.rc.own.cls
    refine ⟨_, pss_cons (ps_if (PW.pt (pw_or (pt_not (pt_val (pe_cal I h4 (pa_cons (pe_op (op_addN O h3) (pv 0) (pv 1)) (pa_cons (pe_op op_add (pe_op op_mulW (pv 2) (pv 5)) (pe_op op_mulW (pv 4) (pv 3))) (pa_cons (pe_op op_mulW (pv 3) (pv 5)) pa_nil))))))
        (pw_or1 (pt_not (pt_val (pe_cal I h4 (pa_cons (pe_op (op_subN O h3) (pv 0) (pv 1)) (pa_cons (pe_op op_sub (pe_op op_mulW (pv 2) (pv 5)) (pe_op op_mulW (pv 4) (pv 3))) (pa_cons (pe_op op_mulW (pv 3) (pv 5)) pa_nil)))))))))
        (pss_one (ps_ret pe_bl)) pss_nil)
      (pss_cons (ps_if (PW.pt (pw_or (pt_not (pt_val (pe_cal I h4 (pa_cons (pe_op (op_mulN O h3) (pv 0) (pv 1)) (pa_cons (pe_op op_mulW (pv 2) (pv 4)) (pa_cons (pe_op op_mulW (pv 3) (pv 5)) pa_nil))))))
        (pw_or1 (pt_not (pt_val (pe_cal I h4 (pa_cons (pe_un (un_negN O h3) (pv 0)) (pa_cons (pe_op op_sub pe_int (pv 2)) (pa_cons (pv 3) pa_nil)))))))))
        (pss_one (ps_ret pe_bl)) pss_nil)
      (pss_cons (ps_if (PW.pt (pw_and (pt_cmpR op_ne (pv 4) pe_int (nomark _)) (pw_and1 (pt_not (pt_val (pe_cal I h4 (pa_cons (pe_meth (pv 0) cl Mo Fo h3 bo .nil pass0 (pa_cons (pv 1) pa_nil)) (pa_cons (pe_op op_mulW (pv 2) (pv 5)) (pa_cons (pe_op op_mulW (pv 3) (pv 4)) pa_nil)))))))))
        (pss_one (ps_ret pe_bl)) pss_nil)
      (pss_cons (ps_set (i := 6) scTwo.nd rfl (.inl rfl) (pe_op op_mulW (pe_op op_sub (pe_op op_mulW (pv 2) (pv 5)) (pe_op op_mulW (pv 4) (pv 3))) (pe_ifExp (pt_cmpR op_gt (pe_op op_mulW (pv 3) (pv 5)) pe_int (nomark _)) pe_int (pe_un un_neg pe_int))))
      (pss_cons (ps_if (pt_cmpR (op_neD hr.units) (pe_lst (pa_cons (pe_meth (pv 0) cl Mb Fb h3 bb .nil pass0 (pa_cons (pv 1) pa_nil)) (pa_cons (pe_cmpR (op_eqN T h3) (pv 0) (pv 1) (nomark _)) (pa_cons (pe_cmpR (op_neN T h4) (pv 0) (pv 1) (nomark _)) pa_nil))))
          (pe_lst (pa_cons (pe_cmpR op_lt (pv 6) pe_int (nomark _)) (pa_cons (pe_cmpR op_eq (pv 6) pe_int (nomark _)) (pa_cons (pe_cmpR op_ne (pv 6) pe_int (nomark _)) pa_nil)))) (nomark _))
        (pss_one (ps_ret pe_bl)) pss_nil)
      (pss_cons (ps_par3 (i := 7) (j := 8) (l := 9) (by rfl) scTwo.nd rfl rfl rfl (by decide) (by decide) (by decide) rfl rfl rfl (pa_cons (pv 0) (pa_cons (pv 0) (pa_cons (pv 0) pa_nil))) (by rfl))
      (pss_cons (ps_aug (i := 7) scTwo.nd rfl (.inl rfl) (pv 1) (iop_addN T h3))
      (pss_cons (ps_aug (i := 8) scTwo.nd rfl (.inl rfl) (pv 1) (iop_subN T h3))
      (pss_cons (ps_aug (i := 9) scTwo.nd rfl (.inl rfl) (pv 1) (iop_mulN T h3))
      (pss_cons (ps_if (PW.pt (pw_or (pt_not (pt_val (pe_cal I h4 (pa_cons (pv 7) (pa_cons (pe_op op_add (pe_op op_mulW (pv 2) (pv 5)) (pe_op op_mulW (pv 4) (pv 3))) (pa_cons (pe_op op_mulW (pv 3) (pv 5)) pa_nil))))))
        (pw_or1 (pt_not (pt_val (pe_cal I h4 (pa_cons (pv 8) (pa_cons (pe_op op_sub (pe_op op_mulW (pv 2) (pv 5)) (pe_op op_mulW (pv 4) (pv 3))) (pa_cons (pe_op op_mulW (pv 3) (pv 5)) pa_nil)))))))))
        (pss_one (ps_ret pe_bl)) pss_nil)
      (pss_one (ps_ret (pe_and (pe_cal I h4 (pa_cons (pv 0) (pa_cons (pv 2) (pa_cons (pv 3) pa_nil)))) (pe_and (pe_cal I h4 (pa_cons (pv 1) (pa_cons (pv 4) (pa_cons (pv 5) pa_nil))))
        (pe_one (pe_cal I h4 (pa_cons (pv 9) (pa_cons (pe_op op_mulW (pv 2) (pv 4)) (pa_cons (pe_op op_mulW (pv 3) (pv 5)) pa_nil)))))))))))))))))), ?_⟩
    have sa := B1.sa; have sb := B1.sb; have sc := B2.sa; have sd := B2.sb
    have lA := lg_add (lg_mul sa sd) (lg_mul sc sb)
    have lS := lg_sub (lg_mul sa sd) (lg_mul sc sb)
    have lP := lg_of (lg_mul sb sd)
    dsimp only [tSeq, tIfS, tOr, tAnd, tNext]
    refine rd_chk (fun Qv k => ⟨_, rfl, _, rfl, rn_add B1 B2.nq k⟩) (rd_i0 (g := fun i j => i + j) (rd_m rfl rfl sa sd) (rd_m rfl rfl sc sb)) (rd_m rfl rfl sb sd) lA lP fun H1 s1 => iteF ?_
    have B1 := B1.same s1
    have B2 := B2.same s1
    refine rd_chk (fun Qv k => ⟨_, rfl, _, rfl, rn_sub B1 B2.nq k⟩) (rd_i0 (g := fun i j => i - j) (rd_m rfl rfl sa sd) (rd_m rfl rfl sc sb)) (rd_m rfl rfl sb sd) lS lP fun H2 s2 => iteF ?_
    have B1 := B1.same s2
    have B2 := B2.same s2
    refine rd_chk (fun Qv k => ⟨_, rfl, _, rfl, rn_mul B1 B2.nq k⟩) (rd_m rfl rfl sa sc) (rd_m rfl rfl sb sd) (lg_of (lg_mul sa sc)) lP fun H3 s3 => iteF ?_
    have B1 := B1.same s3
    have B2 := B2.same s3
    refine rd_chk (N := 0 - a) (D := b) (fun Qv k => ⟨_, rfl, p, n1, d1, rfl, B1.rt, B1.d0, B1.sd, fun p' H' n' d' s r nm => k p' H' s (qu_lg nm (by show (-n1).natAbs < _; rw [Int.natAbs_neg]; exact sm_lg B1.sn) (sm_lg B1.sd) r (m_neg B1.eq nm.1 B1.d0))⟩)
      (rd_i0 (g := fun i j => i - j) (fun _ _ q => q) (rd_v rfl)) (rd_v rfl) (by show (0 - a).natAbs < _; rw [Int.zero_sub, Int.natAbs_neg]; exact sm_lg sa) (sm_lg sb) fun H4 s4 => iteF ?_
    have B1 := B1.same s4
    have B2 := B2.same s4
    have S4 := ((s1.trans s2).trans s3).trans s4
    refine ⟨_, rfl, (by trivial), _, rfl, ?_⟩

    by_cases hc : c = 0
    · have s5 : Same H4 H4 := Same.refl _
      have : (!decide (V.int c = V.int 0)) = false := by rw [hc]; rfl
      rw [this]
      refine iteF (iteF ?_)
      have B1 := B1.same s5
      have B2 := B2.same s5
      have S5 := S4.trans s5
      obtain ⟨dx, hp⟩ := B1.rt
      refine rd_i0 (g := fun i j => i - j) (rd_m rfl rfl sa sd) (rd_m rfl rfl sc sb) _ _ ?_
      refine ⟨_, rfl, _, rfl, _, _, rfl, rfl, cmul sb sd, _, _, rfl, rfl, _, rfl, ?_⟩
      obtain ⟨sg, hsg, lsg⟩ : ∃ sg : Int, sg = (if b * d > 0 then 1 else -1) ∧ Lg sg := sgn_lg _
      have e1 := m_lt B1.eq B2.eq B1.pos B2.pos B1.b0 B2.b0 hsg
      have e2 := m_eq B1.eq B2.eq B1.pos B2.pos B1.low B2.low B1.b0 B2.b0 hsg
      have e3 : decide (V.int ((a * d - c * b) * sg) = V.int 0) = decide ((a * d - c * b) * sg = 0) := by
        rw [Bool.eq_iff_iff, decide_eq_true_iff, decide_eq_true_iff]
        exact ⟨V.int.inj, fun z => by rw [z]⟩
      by_cases hbd : b * d > 0
      · rw [decide_eq_true hbd]
        rw [if_pos hbd] at hsg
        refine iteT ⟨_, _, rfl, rfl, cmulL lS (hsg ▸ lsg), ?_⟩
        rw [← hsg]
        refine ⟨_, rfl, p, dx, _, rfl, hp, rfl, _, rfl, p, n1, d1, .ref q, n2, d2, rfl, B1.rt, B2.nq.nu, B1.sn, B1.sd, B2.sn, B2.sd, fun H6 s6 => ?_⟩
        have B1 := B1.same s6
        have B2 := B2.same s6
        refine ⟨_, rfl, _, rfl, p, n1, d1, rfl, B1.rt, .inl ⟨n2, d2, B2.nq.nu, fun H7 s7 => ?_⟩⟩
        have B1 := B1.same s7
        have B2 := B2.same s7
        refine ⟨_, rfl, _, rfl, p, n1, d1, rfl, B1.rt, .inl ⟨n2, d2, B2.nq.nu, fun H8 s8 => ?_⟩⟩
        have B1 := B1.same s8
        have B2 := B2.same s8
        refine ⟨(by show 3 ≤ sizeLine; decide), fun l hl => ?_⟩
        refine ⟨_, rfl, _, _, rfl, rfl, _, rfl, (by trivial), _, rfl, (by trivial), (by show 3 ≤ sizeLine; decide), fun l2 hl2 => ?_⟩
        have ev : PyData.eqv (.list (List.map PyData.bool [decide (n1 * d2 < n2 * d1), (decide (n1 = n2) && decide (d1 = d2)), !(decide (n1 = n2) && decide (d1 = d2))]))
            (.list (List.map PyData.bool [decide ((a * d - c * b) * sg < 0), decide (V.int ((a * d - c * b) * sg) = V.int 0), !decide (V.int ((a * d - c * b) * sg) = V.int 0)])) = true := by
          rw [e1, e2, e3]
          exact eqv_boolsL _
        refine ⟨_, _, .lst (SqL.of (same_new hl2 _ _ upd_same)) (dp_bools [decide (n1 * d2 < n2 * d1), (decide (n1 = n2) && decide (d1 = d2)), !(decide (n1 = n2) && decide (d1 = d2))]),
          .lst (SqL.of upd_same) (dp_bools [decide ((a * d - c * b) * sg < 0), decide (V.int ((a * d - c * b) * sg) = V.int 0), !decide (V.int ((a * d - c * b) * sg) = V.int 0)]), shaped_bools _, shaped_bools _, _, rfl, ?_⟩
        rw [ev]
        have sl := (same_new (o := .lst ([decide (n1 * d2 < n2 * d1), (decide (n1 = n2) && decide (d1 = d2)), !(decide (n1 = n2) && decide (d1 = d2))].map V.bl)) hl).trans (same_new (o := .lst ([decide ((a * d - c * b) * sg < 0), decide (V.int ((a * d - c * b) * sg) = V.int 0), !decide (V.int ((a * d - c * b) * sg) = V.int 0)].map V.bl)) hl2)
        have B1 := B1.same sl
        have B2 := B2.same sl
        have S9 := (((S5.trans s6).trans s7).trans s8).trans sl
        refine iteF ?_
        refine ⟨_, rfl, _, rfl, _, rfl, _, _, _, rfl, ?_⟩
        refine ⟨_, rfl, _, rfl, ri_of (rn_add B1 B2.nq fun p7 H11 s11 q7 => ?_)⟩
        have B1 := B1.same s11
        have B2 := B2.same s11
        refine ⟨_, rfl, _, rfl, ri_of (rn_sub B1 B2.nq fun p8 H12 s12 q8 => ?_)⟩
        have B1 := B1.same s12
        have B2 := B2.same s12
        refine ⟨_, rfl, _, rfl, ri_of (rn_mul B1 B2.nq fun p9 H13 s13 q9 => ?_)⟩
        have B1 := B1.same s13
        have B2 := B2.same s13
        dsimp only [tSeq, tIfS, tOr, tAnd, tNext, tRet, tAndV]
        refine rd_chk (fun Qv k => ⟨_, rfl, k p7 _ (Same.refl _) ((q7.same s12).same s13)⟩) (rd_i0 (g := fun i j => i + j) (rd_m rfl rfl sa sd) (rd_m rfl rfl sc sb)) (rd_m rfl rfl sb sd) lA lP fun H14 s14 => iteF ?_
        refine rd_chk (fun Qv k => ⟨_, rfl, k p8 _ (Same.refl _) ((q8.same s13).same s14)⟩) (rd_i0 (g := fun i j => i - j) (rd_m rfl rfl sa sd) (rd_m rfl rfl sc sb)) (rd_m rfl rfl sb sd) lS lP fun H15 s15 => iteF ?_
        have B1 := (B1.same s14).same s15
        have B2 := (B2.same s14).same s15
        refine rd_is (fun Qv k => ⟨_, rfl, k p _ (Same.refl _) B1.qu⟩) (rd_v rfl) (rd_v rfl) (sm_lg sa) (sm_lg sb) fun H16 s16 => ⟨true, rfl, iteT ?_⟩
        refine rd_is (fun Qv k => ⟨_, rfl, k q _ (Same.refl _) (B2.same s16).qu⟩) (rd_v rfl) (rd_v rfl) (sm_lg sc) (sm_lg sd) fun H17 s17 => ⟨true, rfl, iteT ?_⟩
        refine rd_is (fun Qv k => ⟨_, rfl, k p9 _ (Same.refl _) ((((q9.same s14).same s15).same s16).same s17)⟩) (rd_m rfl rfl sa sc) (rd_m rfl rfl sb sd) (lg_of (lg_mul sa sc)) lP fun H18 s18 => ?_
        exact go _ ((((((((S9.trans s11).trans s12).trans s13).trans s14).trans s15).trans s16).trans s17).trans s18)
      · rw [decide_eq_false hbd]
        rw [if_neg hbd] at hsg
        refine iteF ⟨_, rfl, _, _, rfl, rfl, cmulL lS (hsg ▸ lsg), ?_⟩
        rw [← hsg]
        refine ⟨_, rfl, p, dx, _, rfl, hp, rfl, _, rfl, p, n1, d1, .ref q, n2, d2, rfl, B1.rt, B2.nq.nu, B1.sn, B1.sd, B2.sn, B2.sd, fun H6 s6 => ?_⟩
        have B1 := B1.same s6
        have B2 := B2.same s6
        refine ⟨_, rfl, _, rfl, p, n1, d1, rfl, B1.rt, .inl ⟨n2, d2, B2.nq.nu, fun H7 s7 => ?_⟩⟩
        have B1 := B1.same s7
        have B2 := B2.same s7
        refine ⟨_, rfl, _, rfl, p, n1, d1, rfl, B1.rt, .inl ⟨n2, d2, B2.nq.nu, fun H8 s8 => ?_⟩⟩
        have B1 := B1.same s8
        have B2 := B2.same s8
        refine ⟨(by show 3 ≤ sizeLine; decide), fun l hl => ?_⟩
        refine ⟨_, rfl, _, _, rfl, rfl, _, rfl, (by trivial), _, rfl, (by trivial), (by show 3 ≤ sizeLine; decide), fun l2 hl2 => ?_⟩
        have ev : PyData.eqv (.list (List.map PyData.bool [decide (n1 * d2 < n2 * d1), (decide (n1 = n2) && decide (d1 = d2)), !(decide (n1 = n2) && decide (d1 = d2))]))
            (.list (List.map PyData.bool [decide ((a * d - c * b) * sg < 0), decide (V.int ((a * d - c * b) * sg) = V.int 0), !decide (V.int ((a * d - c * b) * sg) = V.int 0)])) = true := by
          rw [e1, e2, e3]
          exact eqv_boolsL _
        refine ⟨_, _, .lst (SqL.of (same_new hl2 _ _ upd_same)) (dp_bools [decide (n1 * d2 < n2 * d1), (decide (n1 = n2) && decide (d1 = d2)), !(decide (n1 = n2) && decide (d1 = d2))]),
          .lst (SqL.of upd_same) (dp_bools [decide ((a * d - c * b) * sg < 0), decide (V.int ((a * d - c * b) * sg) = V.int 0), !decide (V.int ((a * d - c * b) * sg) = V.int 0)]), shaped_bools _, shaped_bools _, _, rfl, ?_⟩
        rw [ev]
        have sl := (same_new (o := .lst ([decide (n1 * d2 < n2 * d1), (decide (n1 = n2) && decide (d1 = d2)), !(decide (n1 = n2) && decide (d1 = d2))].map V.bl)) hl).trans (same_new (o := .lst ([decide ((a * d - c * b) * sg < 0), decide (V.int ((a * d - c * b) * sg) = V.int 0), !decide (V.int ((a * d - c * b) * sg) = V.int 0)].map V.bl)) hl2)
        have B1 := B1.same sl
        have B2 := B2.same sl
        have S9 := (((S5.trans s6).trans s7).trans s8).trans sl
        refine iteF ?_
        refine ⟨_, rfl, _, rfl, _, rfl, _, _, _, rfl, ?_⟩
        refine ⟨_, rfl, _, rfl, ri_of (rn_add B1 B2.nq fun p7 H11 s11 q7 => ?_)⟩
        have B1 := B1.same s11
        have B2 := B2.same s11
        refine ⟨_, rfl, _, rfl, ri_of (rn_sub B1 B2.nq fun p8 H12 s12 q8 => ?_)⟩
        have B1 := B1.same s12
        have B2 := B2.same s12
        refine ⟨_, rfl, _, rfl, ri_of (rn_mul B1 B2.nq fun p9 H13 s13 q9 => ?_)⟩
        have B1 := B1.same s13
        have B2 := B2.same s13
        dsimp only [tSeq, tIfS, tOr, tAnd, tNext, tRet, tAndV]
        refine rd_chk (fun Qv k => ⟨_, rfl, k p7 _ (Same.refl _) ((q7.same s12).same s13)⟩) (rd_i0 (g := fun i j => i + j) (rd_m rfl rfl sa sd) (rd_m rfl rfl sc sb)) (rd_m rfl rfl sb sd) lA lP fun H14 s14 => iteF ?_
        refine rd_chk (fun Qv k => ⟨_, rfl, k p8 _ (Same.refl _) ((q8.same s13).same s14)⟩) (rd_i0 (g := fun i j => i - j) (rd_m rfl rfl sa sd) (rd_m rfl rfl sc sb)) (rd_m rfl rfl sb sd) lS lP fun H15 s15 => iteF ?_
        have B1 := (B1.same s14).same s15
        have B2 := (B2.same s14).same s15
        refine rd_is (fun Qv k => ⟨_, rfl, k p _ (Same.refl _) B1.qu⟩) (rd_v rfl) (rd_v rfl) (sm_lg sa) (sm_lg sb) fun H16 s16 => ⟨true, rfl, iteT ?_⟩
        refine rd_is (fun Qv k => ⟨_, rfl, k q _ (Same.refl _) (B2.same s16).qu⟩) (rd_v rfl) (rd_v rfl) (sm_lg sc) (sm_lg sd) fun H17 s17 => ⟨true, rfl, iteT ?_⟩
        refine rd_is (fun Qv k => ⟨_, rfl, k p9 _ (Same.refl _) ((((q9.same s14).same s15).same s16).same s17)⟩) (rd_m rfl rfl sa sc) (rd_m rfl rfl sb sd) (lg_of (lg_mul sa sc)) lP fun H18 s18 => ?_
        exact go _ ((((((((S9.trans s11).trans s12).trans s13).trans s14).trans s15).trans s16).trans s17).trans s18)
    · have : (!decide (V.int c = V.int 0)) = true := by
        rw [Bool.not_eq_true', decide_eq_false_iff_not]
        exact fun z => hc (V.int.inj z)
      rw [this]
      refine iteT ?_
      obtain ⟨dx, hp⟩ := B1.rt
      refine rd_chk (fun Qv k => ⟨_, rfl, p, dx, _, rfl, hp, rfl, _, rfl, rn_over B1 B2.nq hc k⟩) (rd_m rfl rfl sa sd) (rd_m rfl rfl sb sc) (lg_of (lg_mul sa sd)) (lg_of (lg_mul sb sc)) fun H5 s5 => iteF ?_
      have B1 := B1.same s5
      have B2 := B2.same s5
      have S5 := S4.trans s5
      obtain ⟨dx, hp⟩ := B1.rt
      refine rd_i0 (g := fun i j => i - j) (rd_m rfl rfl sa sd) (rd_m rfl rfl sc sb) _ _ ?_
      refine ⟨_, rfl, _, rfl, _, _, rfl, rfl, cmul sb sd, _, _, rfl, rfl, _, rfl, ?_⟩
      obtain ⟨sg, hsg, lsg⟩ : ∃ sg : Int, sg = (if b * d > 0 then 1 else -1) ∧ Lg sg := sgn_lg _
      have e1 := m_lt B1.eq B2.eq B1.pos B2.pos B1.b0 B2.b0 hsg
      have e2 := m_eq B1.eq B2.eq B1.pos B2.pos B1.low B2.low B1.b0 B2.b0 hsg
      have e3 : decide (V.int ((a * d - c * b) * sg) = V.int 0) = decide ((a * d - c * b) * sg = 0) := by
        rw [Bool.eq_iff_iff, decide_eq_true_iff, decide_eq_true_iff]
        exact ⟨V.int.inj, fun z => by rw [z]⟩
      by_cases hbd : b * d > 0
      · rw [decide_eq_true hbd]
        rw [if_pos hbd] at hsg
        refine iteT ⟨_, _, rfl, rfl, cmulL lS (hsg ▸ lsg), ?_⟩
        rw [← hsg]
        refine ⟨_, rfl, p, dx, _, rfl, hp, rfl, _, rfl, p, n1, d1, .ref q, n2, d2, rfl, B1.rt, B2.nq.nu, B1.sn, B1.sd, B2.sn, B2.sd, fun H6 s6 => ?_⟩
        have B1 := B1.same s6
        have B2 := B2.same s6
        refine ⟨_, rfl, _, rfl, p, n1, d1, rfl, B1.rt, .inl ⟨n2, d2, B2.nq.nu, fun H7 s7 => ?_⟩⟩
        have B1 := B1.same s7
        have B2 := B2.same s7
        refine ⟨_, rfl, _, rfl, p, n1, d1, rfl, B1.rt, .inl ⟨n2, d2, B2.nq.nu, fun H8 s8 => ?_⟩⟩
        have B1 := B1.same s8
        have B2 := B2.same s8
        refine ⟨(by show 3 ≤ sizeLine; decide), fun l hl => ?_⟩
        refine ⟨_, rfl, _, _, rfl, rfl, _, rfl, (by trivial), _, rfl, (by trivial), (by show 3 ≤ sizeLine; decide), fun l2 hl2 => ?_⟩
        have ev : PyData.eqv (.list (List.map PyData.bool [decide (n1 * d2 < n2 * d1), (decide (n1 = n2) && decide (d1 = d2)), !(decide (n1 = n2) && decide (d1 = d2))]))
            (.list (List.map PyData.bool [decide ((a * d - c * b) * sg < 0), decide (V.int ((a * d - c * b) * sg) = V.int 0), !decide (V.int ((a * d - c * b) * sg) = V.int 0)])) = true := by
          rw [e1, e2, e3]
          exact eqv_boolsL _
        refine ⟨_, _, .lst (SqL.of (same_new hl2 _ _ upd_same)) (dp_bools [decide (n1 * d2 < n2 * d1), (decide (n1 = n2) && decide (d1 = d2)), !(decide (n1 = n2) && decide (d1 = d2))]),
          .lst (SqL.of upd_same) (dp_bools [decide ((a * d - c * b) * sg < 0), decide (V.int ((a * d - c * b) * sg) = V.int 0), !decide (V.int ((a * d - c * b) * sg) = V.int 0)]), shaped_bools _, shaped_bools _, _, rfl, ?_⟩
        rw [ev]
        have sl := (same_new (o := .lst ([decide (n1 * d2 < n2 * d1), (decide (n1 = n2) && decide (d1 = d2)), !(decide (n1 = n2) && decide (d1 = d2))].map V.bl)) hl).trans (same_new (o := .lst ([decide ((a * d - c * b) * sg < 0), decide (V.int ((a * d - c * b) * sg) = V.int 0), !decide (V.int ((a * d - c * b) * sg) = V.int 0)].map V.bl)) hl2)
        have B1 := B1.same sl
        have B2 := B2.same sl
        have S9 := (((S5.trans s6).trans s7).trans s8).trans sl
        refine iteF ?_
        refine ⟨_, rfl, _, rfl, _, rfl, _, _, _, rfl, ?_⟩
        refine ⟨_, rfl, _, rfl, ri_of (rn_add B1 B2.nq fun p7 H11 s11 q7 => ?_)⟩
        have B1 := B1.same s11
        have B2 := B2.same s11
        refine ⟨_, rfl, _, rfl, ri_of (rn_sub B1 B2.nq fun p8 H12 s12 q8 => ?_)⟩
        have B1 := B1.same s12
        have B2 := B2.same s12
        refine ⟨_, rfl, _, rfl, ri_of (rn_mul B1 B2.nq fun p9 H13 s13 q9 => ?_)⟩
        have B1 := B1.same s13
        have B2 := B2.same s13
        dsimp only [tSeq, tIfS, tOr, tAnd, tNext, tRet, tAndV]
        refine rd_chk (fun Qv k => ⟨_, rfl, k p7 _ (Same.refl _) ((q7.same s12).same s13)⟩) (rd_i0 (g := fun i j => i + j) (rd_m rfl rfl sa sd) (rd_m rfl rfl sc sb)) (rd_m rfl rfl sb sd) lA lP fun H14 s14 => iteF ?_
        refine rd_chk (fun Qv k => ⟨_, rfl, k p8 _ (Same.refl _) ((q8.same s13).same s14)⟩) (rd_i0 (g := fun i j => i - j) (rd_m rfl rfl sa sd) (rd_m rfl rfl sc sb)) (rd_m rfl rfl sb sd) lS lP fun H15 s15 => iteF ?_
        have B1 := (B1.same s14).same s15
        have B2 := (B2.same s14).same s15
        refine rd_is (fun Qv k => ⟨_, rfl, k p _ (Same.refl _) B1.qu⟩) (rd_v rfl) (rd_v rfl) (sm_lg sa) (sm_lg sb) fun H16 s16 => ⟨true, rfl, iteT ?_⟩
        refine rd_is (fun Qv k => ⟨_, rfl, k q _ (Same.refl _) (B2.same s16).qu⟩) (rd_v rfl) (rd_v rfl) (sm_lg sc) (sm_lg sd) fun H17 s17 => ⟨true, rfl, iteT ?_⟩
        refine rd_is (fun Qv k => ⟨_, rfl, k p9 _ (Same.refl _) ((((q9.same s14).same s15).same s16).same s17)⟩) (rd_m rfl rfl sa sc) (rd_m rfl rfl sb sd) (lg_of (lg_mul sa sc)) lP fun H18 s18 => ?_
        exact go _ ((((((((S9.trans s11).trans s12).trans s13).trans s14).trans s15).trans s16).trans s17).trans s18)
      · rw [decide_eq_false hbd]
        rw [if_neg hbd] at hsg
        refine iteF ⟨_, rfl, _, _, rfl, rfl, cmulL lS (hsg ▸ lsg), ?_⟩
        rw [← hsg]
        refine ⟨_, rfl, p, dx, _, rfl, hp, rfl, _, rfl, p, n1, d1, .ref q, n2, d2, rfl, B1.rt, B2.nq.nu, B1.sn, B1.sd, B2.sn, B2.sd, fun H6 s6 => ?_⟩
        have B1 := B1.same s6
        have B2 := B2.same s6
        refine ⟨_, rfl, _, rfl, p, n1, d1, rfl, B1.rt, .inl ⟨n2, d2, B2.nq.nu, fun H7 s7 => ?_⟩⟩
        have B1 := B1.same s7
        have B2 := B2.same s7
        refine ⟨_, rfl, _, rfl, p, n1, d1, rfl, B1.rt, .inl ⟨n2, d2, B2.nq.nu, fun H8 s8 => ?_⟩⟩
        have B1 := B1.same s8
        have B2 := B2.same s8
        refine ⟨(by show 3 ≤ sizeLine; decide), fun l hl => ?_⟩
        refine ⟨_, rfl, _, _, rfl, rfl, _, rfl, (by trivial), _, rfl, (by trivial), (by show 3 ≤ sizeLine; decide), fun l2 hl2 => ?_⟩
        have ev : PyData.eqv (.list (List.map PyData.bool [decide (n1 * d2 < n2 * d1), (decide (n1 = n2) && decide (d1 = d2)), !(decide (n1 = n2) && decide (d1 = d2))]))
            (.list (List.map PyData.bool [decide ((a * d - c * b) * sg < 0), decide (V.int ((a * d - c * b) * sg) = V.int 0), !decide (V.int ((a * d - c * b) * sg) = V.int 0)])) = true := by
          rw [e1, e2, e3]
          exact eqv_boolsL _
        refine ⟨_, _, .lst (SqL.of (same_new hl2 _ _ upd_same)) (dp_bools [decide (n1 * d2 < n2 * d1), (decide (n1 = n2) && decide (d1 = d2)), !(decide (n1 = n2) && decide (d1 = d2))]),
          .lst (SqL.of upd_same) (dp_bools [decide ((a * d - c * b) * sg < 0), decide (V.int ((a * d - c * b) * sg) = V.int 0), !decide (V.int ((a * d - c * b) * sg) = V.int 0)]), shaped_bools _, shaped_bools _, _, rfl, ?_⟩
        rw [ev]
        have sl := (same_new (o := .lst ([decide (n1 * d2 < n2 * d1), (decide (n1 = n2) && decide (d1 = d2)), !(decide (n1 = n2) && decide (d1 = d2))].map V.bl)) hl).trans (same_new (o := .lst ([decide ((a * d - c * b) * sg < 0), decide (V.int ((a * d - c * b) * sg) = V.int 0), !decide (V.int ((a * d - c * b) * sg) = V.int 0)].map V.bl)) hl2)
        have B1 := B1.same sl
        have B2 := B2.same sl
        have S9 := (((S5.trans s6).trans s7).trans s8).trans sl
        refine iteF ?_
        refine ⟨_, rfl, _, rfl, _, rfl, _, _, _, rfl, ?_⟩
        refine ⟨_, rfl, _, rfl, ri_of (rn_add B1 B2.nq fun p7 H11 s11 q7 => ?_)⟩
        have B1 := B1.same s11
        have B2 := B2.same s11
        refine ⟨_, rfl, _, rfl, ri_of (rn_sub B1 B2.nq fun p8 H12 s12 q8 => ?_)⟩
        have B1 := B1.same s12
        have B2 := B2.same s12
        refine ⟨_, rfl, _, rfl, ri_of (rn_mul B1 B2.nq fun p9 H13 s13 q9 => ?_)⟩
        have B1 := B1.same s13
        have B2 := B2.same s13
        dsimp only [tSeq, tIfS, tOr, tAnd, tNext, tRet, tAndV]
        refine rd_chk (fun Qv k => ⟨_, rfl, k p7 _ (Same.refl _) ((q7.same s12).same s13)⟩) (rd_i0 (g := fun i j => i + j) (rd_m rfl rfl sa sd) (rd_m rfl rfl sc sb)) (rd_m rfl rfl sb sd) lA lP fun H14 s14 => iteF ?_
        refine rd_chk (fun Qv k => ⟨_, rfl, k p8 _ (Same.refl _) ((q8.same s13).same s14)⟩) (rd_i0 (g := fun i j => i - j) (rd_m rfl rfl sa sd) (rd_m rfl rfl sc sb)) (rd_m rfl rfl sb sd) lS lP fun H15 s15 => iteF ?_
        have B1 := (B1.same s14).same s15
        have B2 := (B2.same s14).same s15
        refine rd_is (fun Qv k => ⟨_, rfl, k p _ (Same.refl _) B1.qu⟩) (rd_v rfl) (rd_v rfl) (sm_lg sa) (sm_lg sb) fun H16 s16 => ⟨true, rfl, iteT ?_⟩
        refine rd_is (fun Qv k => ⟨_, rfl, k q _ (Same.refl _) (B2.same s16).qu⟩) (rd_v rfl) (rd_v rfl) (sm_lg sc) (sm_lg sd) fun H17 s17 => ⟨true, rfl, iteT ?_⟩
        refine rd_is (fun Qv k => ⟨_, rfl, k p9 _ (Same.refl _) ((((q9.same s14).same s15).same s16).same s17)⟩) (rd_m rfl rfl sa sc) (rd_m rfl rfl sb sd) (lg_of (lg_mul sa sc)) lP fun H18 s18 => ?_
        exact go _ ((((((((S9.trans s11).trans s12).trans s13).trans s14).trans s15).trans s16).trans s17).trans s18)
end
end K02

set_option Elab.async false
set_option linter.all false
set_option maxRecDepth 100000
set_option maxHeartbeats 4000000
set_option exponentiation.threshold 3000
/-! The law over Ratios: one of them and an int. -/
namespace K02
open PySem PySem.Spec PyProof.Rows L2 Vx Vr
section
variable {C : Addr} {H : Hp} {p : Addr} {a b n1 d1 i : Int}
theorem rj_add (B1 : Bq C H p a b n1 d1) (si : Sm i) {Q : VK} (k : ∀ p' H', Same H H' → Qu C H' p' (a + i * b) b → Q (.ref p') H') : rNum C gA1 gD2 (.ref p) (.int i) H Q :=
  rn_add B1 (nq_int si) fun p' H' s q => k p' H' s (by rwa [Int.mul_one, Int.mul_one] at q)
theorem rj_sub (B1 : Bq C H p a b n1 d1) (si : Sm i) {Q : VK} (k : ∀ p' H', Same H H' → Qu C H' p' (a - i * b) b → Q (.ref p') H') : rNum C gS1 gD2 (.ref p) (.int i) H Q :=
  rn_sub B1 (nq_int si) fun p' H' s q => k p' H' s (by rwa [Int.mul_one, Int.mul_one] at q)
theorem rj_mul (B1 : Bq C H p a b n1 d1) (si : Sm i) {Q : VK} (k : ∀ p' H', Same H H' → Qu C H' p' (a * i) b → Q (.ref p') H') : rNum C gM1 gD2 (.ref p) (.int i) H Q :=
  rn_mul B1 (nq_int si) fun p' H' s q => k p' H' s (by rwa [Int.mul_one] at q)
theorem rk_add (B1 : Bq C H p a b n1 d1) (si : Sm i) {Q : VK} (k : ∀ p' H', Same H H' → Qu C H' p' (a + i * b) b → Q (.ref p') H') : rIntN C (fun n d m e => n * e + m * d) (fun _ d _ e => d * e) (.int i) (.ref p) H Q :=
  ⟨p, n1, d1, i, rfl, B1.rt, rfl, B1.sn, B1.sd, si, B1.d0, fun p' H' n' d' s r e1 e2 e3 l1 l2 => k p' H' s ⟨n', d', r, by
    have := m_add (n2 := i) (d2 := 1) (c := i) (d := 1) B1.eq rfl e1 B1.d0 (by decide)
    rwa [Int.mul_one, Int.mul_one] at this, e2, e3, l1, l2⟩⟩
theorem rk_mul (B1 : Bq C H p a b n1 d1) (si : Sm i) {Q : VK} (k : ∀ p' H', Same H H' → Qu C H' p' (a * i) b → Q (.ref p') H') : rIntN C (fun n _ m _ => n * m) (fun _ d _ e => d * e) (.int i) (.ref p) H Q :=
  ⟨p, n1, d1, i, rfl, B1.rt, rfl, B1.sn, B1.sd, si, B1.d0, fun p' H' n' d' s r e1 e2 e3 l1 l2 => k p' H' s ⟨n', d', r, by
    have := m_mul (n2 := i) (d2 := 1) (c := i) (d := 1) B1.eq rfl e1 B1.d0 (by decide)
    rwa [Int.mul_one] at this, e2, e3, l1, l2⟩⟩
theorem rk_sub (B1 : Bq C H p a b n1 d1) (si : Sm i) {Q : VK} (k : ∀ p' H', Same H H' → Qu C H' p' (i * b - a) b → Q (.ref p') H') : rIntN C (fun n d m e => m * d - n * e) (fun _ d _ e => d * e) (.int i) (.ref p) H Q :=
  ⟨p, n1, d1, i, rfl, B1.rt, rfl, B1.sn, B1.sd, si, B1.d0, fun p' H' n' d' s r e1 e2 e3 l1 l2 => k p' H' s ⟨n', d', r, m_rsub B1.eq e1 B1.d0, e2, e3, l1, l2⟩⟩
end
def spInts (C : Addr) : Sp := fun vs H Q _ => ∃ p a b i n1 d1, vs = [.ref p, .int a, .int b, .int i] ∧ Bq C H p a b n1 d1 ∧ Sm i ∧ ∀ H', Same H H' → Q (.bl true) H'
section
variable {P : Program} {w : World} {K : PySem.W.Frag} {mg : Str → Option Value} {base : Heap} {C : Addr}
abbrev NI : List Str := ["_law_one", "_law_a", "_law_b", "_law_number", "_law_side"]
theorem scInts : FnScope NI ["_law_one", "_law_a", "_law_b", "_law_number"] (defScope (top 19)) := ⟨rfl, rfl, rfl, by decide +kernel, rfl, by decide +kernel, by decide +kernel⟩
theorem rd_am {σ : L2.St} {g : Int → Int → Int} {i j k : Nat} {x y z : Int} (hk : σ[k]? = some (some (.int z))) (hi : σ[i]? = some (some (.int x))) (hj : σ[j]? = some (some (.int y))) (sx : Sm x) (sy : Sm y) :
    ∀ (H' : Hp) (Qv : VK), Qv (.int (g z (x * y))) H' → tOp (rI0 fun i j => .int (g i j)) (tVar k) (tOp (rI CMulW fun i j => .int (i * j)) (tVar i) (tVar j)) σ H' Qv := rd_i0 (g := g) (rd_v hk) (rd_m hi hj sx sy)
theorem lg_a {a b : Int} (ha : Sm a) (hb : b.natAbs < 2 ^ 2000) : Lg (a + b) := lg_add (Nat.lt_trans ha (Nat.pow_lt_pow_right (by decide) (by decide))) hb
theorem lg_s {a b : Int} (ha : Sm a) (hb : b.natAbs < 2 ^ 2000) : Lg (a - b) := lg_sub (Nat.lt_trans ha (Nat.pow_lt_pow_right (by decide) (by decide))) hb
theorem lg_s2 {a b : Int} (ha : a.natAbs < 2 ^ 2000) (hb : Sm b) : Lg (a - b) := lg_sub ha (Nat.lt_trans hb (Nat.pow_lt_pow_right (by decide) (by decide)))
theorem ok_ints {f : Addr} {fd : FuncData} (F : L2.Fun K "_law_integers_right" "_law_integers_right" (top 19) f fd) (T : Al P w K mg base C) (I : IsC P w K mg base C) :
    FnOk P w K mg base CX0 6 f fd ["_law_one", "_law_a", "_law_b", "_law_number"] (spInts C) := by
  refine F.ok scInts (fun vs H Q E h => ?_) (fun cdv A outer s H vs Q E hr h => ?_)
  · obtain ⟨p, a, b, i, n1, d1, rfl, _⟩ := h
    rfl
  · obtain ⟨p, a, b, i, n1, d1, rfl, B1, si, go⟩ := h
    have h4 := hr.mono (show 4 ≤ 5 by decide)
    have h3 := hr.mono (show 3 ≤ 5 by decide)
    obtain ⟨fo, fdo, Mo, Fo, bo⟩ := T.over
    obtain ⟨fb, fdb, Mb, Fb, bb⟩ := T.below
    have O := T.ops
    have cl := T.ops.us.rc.own.cls
    refine ⟨_, pss_cons (ps_if (PW.pt (pw_or (pt_not (pt_val (pe_cal I h4 (pa_cons (pe_op (op_addN O h3) (pv 0) (pv 3)) (pa_cons (pe_op op_add (pv 1) (pe_op op_mulW (pv 3) (pv 2))) (pa_cons (pv 2) pa_nil))))))
        (pw_or1 (pt_not (pt_val (pe_cal I h4 (pa_cons (pe_op (op_intAdd T h4) (pv 3) (pv 0)) (pa_cons (pe_op op_add (pv 1) (pe_op op_mulW (pv 3) (pv 2))) (pa_cons (pv 2) pa_nil)))))))))
        (pss_one (ps_ret pe_bl)) pss_nil)
      (pss_cons (ps_if (PW.pt (pw_or (pt_not (pt_val (pe_cal I h4 (pa_cons (pe_op (op_subN O h3) (pv 0) (pv 3)) (pa_cons (pe_op op_sub (pv 1) (pe_op op_mulW (pv 3) (pv 2))) (pa_cons (pv 2) pa_nil))))))
        (pw_or1 (pt_not (pt_val (pe_cal I h4 (pa_cons (pe_op (op_intSub T h4) (pv 3) (pv 0)) (pa_cons (pe_op op_sub (pe_op op_mulW (pv 3) (pv 2)) (pv 1)) (pa_cons (pv 2) pa_nil)))))))))
        (pss_one (ps_ret pe_bl)) pss_nil)
      (pss_cons (ps_if (PW.pt (pw_or (pt_not (pt_val (pe_cal I h4 (pa_cons (pe_op (op_mulN O h3) (pv 0) (pv 3)) (pa_cons (pe_op op_mulW (pv 1) (pv 3)) (pa_cons (pv 2) pa_nil))))))
        (pw_or1 (pt_not (pt_val (pe_cal I h4 (pa_cons (pe_op (op_intMul T h4) (pv 3) (pv 0)) (pa_cons (pe_op op_mulW (pv 1) (pv 3)) (pa_cons (pv 2) pa_nil)))))))))
        (pss_one (ps_ret pe_bl)) pss_nil)
      (pss_cons (ps_if (PW.pt (pw_and (pt_cmpR op_ne (pv 3) pe_int (nomark _)) (pw_and1 (pt_not (pt_val (pe_cal I h4 (pa_cons (pe_meth (pv 0) cl Mo Fo h3 bo .nil pass0 (pa_cons (pv 3) pa_nil)) (pa_cons (pv 1) (pa_cons (pe_op op_mulW (pv 2) (pv 3)) pa_nil)))))))))
        (pss_one (ps_ret pe_bl)) pss_nil)
      (pss_cons (ps_set (i := 4) scInts.nd rfl (.inl rfl) (pe_op op_mulW (pe_op op_sub (pv 1) (pe_op op_mulW (pv 3) (pv 2))) (pe_ifExp (pt_cmpR op_gt (pv 2) pe_int (nomark _)) pe_int (pe_un un_neg pe_int))))
      (pss_cons (ps_if (pt_cmpR (op_neD hr.units) (pe_lst (pa_cons (pe_meth (pv 0) cl Mb Fb h3 bb .nil pass0 (pa_cons (pv 3) pa_nil)) (pa_cons (pe_cmpR (op_eqN T h3) (pv 0) (pv 3) (nomark _)) (pa_cons (pe_cmpR (op_eqRN T h3) (pv 3) (pv 0) (nomark _)) pa_nil))))
          (pe_lst (pa_cons (pe_cmpR op_lt (pv 4) pe_int (nomark _)) (pa_cons (pe_cmpR op_eq (pv 4) pe_int (nomark _)) (pa_cons (pe_cmpR op_eq (pv 4) pe_int (nomark _)) pa_nil)))) (nomark _))
        (pss_one (ps_ret pe_bl)) pss_nil)
      (pss_one (ps_ret (pe_cal I h4 (pa_cons (pe_rat1 T.ops.us.mkr (hr.mono (by decide)) (pv 3)) (pa_cons (pv 3) (pa_cons pe_int pa_nil))))))))))), ?_⟩
    have sa := B1.sa; have sb := B1.sb
    have B2 : ∀ {H' : Hp}, Nq C H' (.int i) i 1 i 1 := nq_int si
    dsimp only [tSeq, tIfS, tOr, tAnd, tNext]
    refine rd_chk (fun Qv k => ⟨_, rfl, _, rfl, rj_add B1 si k⟩) (rd_am (g := fun i j => i + j) rfl rfl rfl si sb) (rd_v rfl) (lg_a sa (lg_mul si sb)) (sm_lg sb) fun H1 s1 => iteF ?_
    have B1 := B1.same s1
    refine rd_chk (fun Qv k => ⟨_, rfl, _, rfl, rk_add B1 si k⟩) (rd_am (g := fun i j => i + j) rfl rfl rfl si sb) (rd_v rfl) (lg_a sa (lg_mul si sb)) (sm_lg sb) fun H2 s2 => iteF ?_
    have B1 := B1.same s2
    refine rd_chk (fun Qv k => ⟨_, rfl, _, rfl, rj_sub B1 si k⟩) (rd_am (g := fun i j => i - j) rfl rfl rfl si sb) (rd_v rfl) (lg_s sa (lg_mul si sb)) (sm_lg sb) fun H3 s3 => iteF ?_
    have B1 := B1.same s3
    refine rd_chk (fun Qv k => ⟨_, rfl, _, rfl, rk_sub B1 si k⟩) (rd_i0 (g := fun i j => i - j) (rd_m rfl rfl si sb) (rd_v rfl)) (rd_v rfl) (lg_s2 (lg_mul si sb) sa) (sm_lg sb) fun H4 s4 => iteF ?_
    have B1 := B1.same s4
    refine rd_chk (fun Qv k => ⟨_, rfl, _, rfl, rj_mul B1 si k⟩) (rd_m rfl rfl sa si) (rd_v rfl) (lg_of (lg_mul sa si)) (sm_lg sb) fun H4a s4a => iteF ?_
    have B1 := B1.same s4a
    refine rd_chk (fun Qv k => ⟨_, rfl, _, rfl, rk_mul B1 si k⟩) (rd_m rfl rfl sa si) (rd_v rfl) (lg_of (lg_mul sa si)) (sm_lg sb) fun H4b s4b => iteF ?_
    have B1 := B1.same s4b
    have S4 := ((((s1.trans s2).trans s3).trans s4).trans s4a).trans s4b
    refine ⟨_, rfl, (by trivial), _, rfl, ?_⟩
    by_cases hc : i = 0
    · have s5 : Same H4b H4b := Same.refl _
      have : (!decide (V.int i = V.int 0)) = false := by rw [hc]; rfl
      rw [this]
      refine iteF (iteF ?_)
      have B1 := B1.same s5
      have S5 := S4.trans s5
      obtain ⟨dx, hp⟩ := B1.rt
      refine rd_am (g := fun i j => i - j) rfl rfl rfl si sb _ _ ?_
      refine ⟨_, rfl, _, _, rfl, rfl, _, rfl, ?_⟩
      have hsg0 := sgn_lg b
      obtain ⟨sg, hsg, lsg⟩ := hsg0
      have hsg1 : sg = (if b * 1 > 0 then 1 else -1) := by rw [Int.mul_one]; exact hsg
      have e1 := m_lt B1.eq (show i * 1 = i * 1 from rfl) B1.pos (show (0 : Int) < 1 by decide) B1.b0 (show (1 : Int) ≠ 0 by decide) hsg1
      have e2 := m_eq B1.eq (show i * 1 = i * 1 from rfl) B1.pos (show (0 : Int) < 1 by decide) B1.low (by simp) B1.b0 (show (1 : Int) ≠ 0 by decide) hsg1
      rw [Int.mul_one a] at e1 e2
      have e3 : decide (V.int ((a - i * b) * sg) = V.int 0) = decide ((a - i * b) * sg = 0) := by
        rw [Bool.eq_iff_iff, decide_eq_true_iff, decide_eq_true_iff]
        exact ⟨V.int.inj, fun z => by rw [z]⟩
      by_cases hbd : b > 0
      · rw [decide_eq_true hbd]
        rw [if_pos hbd] at hsg
        subst hsg
        refine iteT ⟨_, _, rfl, rfl, cmulL (lg_s sa (lg_mul si sb)) lsg, ?_⟩
        refine ⟨_, rfl, p, dx, _, rfl, hp, rfl, _, rfl, p, n1, d1, .int i, i, 1, rfl, B1.rt, B2.nu, B1.sn, B1.sd, si, sm1, fun H6 s6 => ?_⟩
        have B1 := B1.same s6
        refine ⟨_, rfl, _, rfl, p, n1, d1, rfl, B1.rt, .inl ⟨i, 1, B2.nu, fun H7 s7 => ?_⟩⟩
        have B1 := B1.same s7
        refine ⟨_, rfl, _, rfl, p, n1, d1, rfl, B1.rt, .inl ⟨i, rfl, fun H8 s8 => ?_⟩⟩
        have B1 := B1.same s8
        refine ⟨(by show 3 ≤ sizeLine; decide), fun l hl => ?_⟩
        refine ⟨_, rfl, _, _, rfl, rfl, _, rfl, (by trivial), _, rfl, (by trivial), (by show 3 ≤ sizeLine; decide), fun l2 hl2 => ?_⟩
        have ev : PyData.eqv (.list (List.map PyData.bool [decide (n1 * 1 < i * d1), (decide (n1 = i) && decide (d1 = 1)), (decide (n1 = i) && decide (d1 = 1))])) (.list (List.map PyData.bool [decide ((a - i * b) * 1 < 0), decide (V.int ((a - i * b) * 1) = V.int 0), decide (V.int ((a - i * b) * 1) = V.int 0)])) = true := by
          rw [e1, e2, e3]
          exact eqv_boolsL _
        refine ⟨_, _, .lst (SqL.of (same_new hl2 _ _ upd_same)) (dp_bools [decide (n1 * 1 < i * d1), (decide (n1 = i) && decide (d1 = 1)), (decide (n1 = i) && decide (d1 = 1))]), .lst (SqL.of upd_same) (dp_bools [decide ((a - i * b) * 1 < 0), decide (V.int ((a - i * b) * 1) = V.int 0), decide (V.int ((a - i * b) * 1) = V.int 0)]), shaped_bools _, shaped_bools _, _, rfl, ?_⟩
        rw [ev]
        have sl := (same_new (o := .lst ([decide (n1 * 1 < i * d1), (decide (n1 = i) && decide (d1 = 1)), (decide (n1 = i) && decide (d1 = 1))].map V.bl)) hl).trans (same_new (o := .lst ([decide ((a - i * b) * 1 < 0), decide (V.int ((a - i * b) * 1) = V.int 0), decide (V.int ((a - i * b) * 1) = V.int 0)].map V.bl)) hl2)
        have S9 := (((S5.trans s6).trans s7).trans s8).trans sl
        refine iteF ?_
        dsimp only [tNext, tRet]
        refine rd_is (N := i) (D := 1) (fun Qv k => ⟨_, rfl, rd_init rfl ⟨by decide, sm_lg sm1, fun p' H' n' d' s _ r nm => k p' H' s (qu_lg nm (sm_lg si) (sm_lg sm1) r nm.1)⟩⟩) (rd_v rfl) (fun _ _ q => q) (sm_lg si) (sm_lg sm1) fun H10 s10 => ?_
        exact go _ (S9.trans s10)
      · rw [decide_eq_false hbd]
        rw [if_neg hbd] at hsg
        refine iteF ⟨_, rfl, _, _, rfl, rfl, cmulL (lg_s sa (lg_mul si sb)) (hsg ▸ lsg), ?_⟩
        rw [← hsg]
        refine ⟨_, rfl, p, dx, _, rfl, hp, rfl, _, rfl, p, n1, d1, .int i, i, 1, rfl, B1.rt, B2.nu, B1.sn, B1.sd, si, sm1, fun H6 s6 => ?_⟩
        have B1 := B1.same s6
        refine ⟨_, rfl, _, rfl, p, n1, d1, rfl, B1.rt, .inl ⟨i, 1, B2.nu, fun H7 s7 => ?_⟩⟩
        have B1 := B1.same s7
        refine ⟨_, rfl, _, rfl, p, n1, d1, rfl, B1.rt, .inl ⟨i, rfl, fun H8 s8 => ?_⟩⟩
        have B1 := B1.same s8
        refine ⟨(by show 3 ≤ sizeLine; decide), fun l hl => ?_⟩
        refine ⟨_, rfl, _, _, rfl, rfl, _, rfl, (by trivial), _, rfl, (by trivial), (by show 3 ≤ sizeLine; decide), fun l2 hl2 => ?_⟩
        have ev : PyData.eqv (.list (List.map PyData.bool [decide (n1 * 1 < i * d1), (decide (n1 = i) && decide (d1 = 1)), (decide (n1 = i) && decide (d1 = 1))])) (.list (List.map PyData.bool [decide ((a - i * b) * sg < 0), decide (V.int ((a - i * b) * sg) = V.int 0), decide (V.int ((a - i * b) * sg) = V.int 0)])) = true := by
          rw [e1, e2, e3]
          exact eqv_boolsL _
        refine ⟨_, _, .lst (SqL.of (same_new hl2 _ _ upd_same)) (dp_bools [decide (n1 * 1 < i * d1), (decide (n1 = i) && decide (d1 = 1)), (decide (n1 = i) && decide (d1 = 1))]), .lst (SqL.of upd_same) (dp_bools [decide ((a - i * b) * sg < 0), decide (V.int ((a - i * b) * sg) = V.int 0), decide (V.int ((a - i * b) * sg) = V.int 0)]), shaped_bools _, shaped_bools _, _, rfl, ?_⟩
        rw [ev]
        have sl := (same_new (o := .lst ([decide (n1 * 1 < i * d1), (decide (n1 = i) && decide (d1 = 1)), (decide (n1 = i) && decide (d1 = 1))].map V.bl)) hl).trans (same_new (o := .lst ([decide ((a - i * b) * sg < 0), decide (V.int ((a - i * b) * sg) = V.int 0), decide (V.int ((a - i * b) * sg) = V.int 0)].map V.bl)) hl2)
        have S9 := (((S5.trans s6).trans s7).trans s8).trans sl
        refine iteF ?_
        dsimp only [tNext, tRet]
        refine rd_is (N := i) (D := 1) (fun Qv k => ⟨_, rfl, rd_init rfl ⟨by decide, sm_lg sm1, fun p' H' n' d' s _ r nm => k p' H' s (qu_lg nm (sm_lg si) (sm_lg sm1) r nm.1)⟩⟩) (rd_v rfl) (fun _ _ q => q) (sm_lg si) (sm_lg sm1) fun H10 s10 => ?_
        exact go _ (S9.trans s10)
    · have : (!decide (V.int i = V.int 0)) = true := by
        rw [Bool.not_eq_true', decide_eq_false_iff_not]
        exact fun z => hc (V.int.inj z)
      rw [this]
      refine iteT ?_
      obtain ⟨dx, hp⟩ := B1.rt
      refine rd_chk (N := a) (D := b * i) (fun Qv k => ⟨_, rfl, p, dx, _, rfl, hp, rfl, _, rfl, rn_over B1 B2 hc fun p' H' s q => k p' H' s (by rwa [Int.mul_one] at q)⟩) (rd_v rfl) (rd_m rfl rfl sb si) (sm_lg sa) (lg_of (lg_mul sb si)) fun H5 s5 => iteF ?_
      have B1 := B1.same s5
      have S5 := S4.trans s5
      obtain ⟨dx, hp⟩ := B1.rt
      refine rd_am (g := fun i j => i - j) rfl rfl rfl si sb _ _ ?_
      refine ⟨_, rfl, _, _, rfl, rfl, _, rfl, ?_⟩
      have hsg0 := sgn_lg b
      obtain ⟨sg, hsg, lsg⟩ := hsg0
      have hsg1 : sg = (if b * 1 > 0 then 1 else -1) := by rw [Int.mul_one]; exact hsg
      have e1 := m_lt B1.eq (show i * 1 = i * 1 from rfl) B1.pos (show (0 : Int) < 1 by decide) B1.b0 (show (1 : Int) ≠ 0 by decide) hsg1
      have e2 := m_eq B1.eq (show i * 1 = i * 1 from rfl) B1.pos (show (0 : Int) < 1 by decide) B1.low (by simp) B1.b0 (show (1 : Int) ≠ 0 by decide) hsg1
      rw [Int.mul_one a] at e1 e2
      have e3 : decide (V.int ((a - i * b) * sg) = V.int 0) = decide ((a - i * b) * sg = 0) := by
        rw [Bool.eq_iff_iff, decide_eq_true_iff, decide_eq_true_iff]
        exact ⟨V.int.inj, fun z => by rw [z]⟩
      by_cases hbd : b > 0
      · rw [decide_eq_true hbd]
        rw [if_pos hbd] at hsg
        subst hsg
        refine iteT ⟨_, _, rfl, rfl, cmulL (lg_s sa (lg_mul si sb)) lsg, ?_⟩
        refine ⟨_, rfl, p, dx, _, rfl, hp, rfl, _, rfl, p, n1, d1, .int i, i, 1, rfl, B1.rt, B2.nu, B1.sn, B1.sd, si, sm1, fun H6 s6 => ?_⟩
        have B1 := B1.same s6
        refine ⟨_, rfl, _, rfl, p, n1, d1, rfl, B1.rt, .inl ⟨i, 1, B2.nu, fun H7 s7 => ?_⟩⟩
        have B1 := B1.same s7
        refine ⟨_, rfl, _, rfl, p, n1, d1, rfl, B1.rt, .inl ⟨i, rfl, fun H8 s8 => ?_⟩⟩
        have B1 := B1.same s8
        refine ⟨(by show 3 ≤ sizeLine; decide), fun l hl => ?_⟩
        refine ⟨_, rfl, _, _, rfl, rfl, _, rfl, (by trivial), _, rfl, (by trivial), (by show 3 ≤ sizeLine; decide), fun l2 hl2 => ?_⟩
        have ev : PyData.eqv (.list (List.map PyData.bool [decide (n1 * 1 < i * d1), (decide (n1 = i) && decide (d1 = 1)), (decide (n1 = i) && decide (d1 = 1))])) (.list (List.map PyData.bool [decide ((a - i * b) * 1 < 0), decide (V.int ((a - i * b) * 1) = V.int 0), decide (V.int ((a - i * b) * 1) = V.int 0)])) = true := by
          rw [e1, e2, e3]
          exact eqv_boolsL _
        refine ⟨_, _, .lst (SqL.of (same_new hl2 _ _ upd_same)) (dp_bools [decide (n1 * 1 < i * d1), (decide (n1 = i) && decide (d1 = 1)), (decide (n1 = i) && decide (d1 = 1))]), .lst (SqL.of upd_same) (dp_bools [decide ((a - i * b) * 1 < 0), decide (V.int ((a - i * b) * 1) = V.int 0), decide (V.int ((a - i * b) * 1) = V.int 0)]), shaped_bools _, shaped_bools _, _, rfl, ?_⟩
        rw [ev]
        have sl := (same_new (o := .lst ([decide (n1 * 1 < i * d1), (decide (n1 = i) && decide (d1 = 1)), (decide (n1 = i) && decide (d1 = 1))].map V.bl)) hl).trans (same_new (o := .lst ([decide ((a - i * b) * 1 < 0), decide (V.int ((a - i * b) * 1) = V.int 0), decide (V.int ((a - i * b) * 1) = V.int 0)].map V.bl)) hl2)
        have S9 := (((S5.trans s6).trans s7).trans s8).trans sl
        refine iteF ?_
        dsimp only [tNext, tRet]
        refine rd_is (N := i) (D := 1) (fun Qv k => ⟨_, rfl, rd_init rfl ⟨by decide, sm_lg sm1, fun p' H' n' d' s _ r nm => k p' H' s (qu_lg nm (sm_lg si) (sm_lg sm1) r nm.1)⟩⟩) (rd_v rfl) (fun _ _ q => q) (sm_lg si) (sm_lg sm1) fun H10 s10 => ?_
        exact go _ (S9.trans s10)
      · rw [decide_eq_false hbd]
        rw [if_neg hbd] at hsg
        refine iteF ⟨_, rfl, _, _, rfl, rfl, cmulL (lg_s sa (lg_mul si sb)) (hsg ▸ lsg), ?_⟩
        rw [← hsg]
        refine ⟨_, rfl, p, dx, _, rfl, hp, rfl, _, rfl, p, n1, d1, .int i, i, 1, rfl, B1.rt, B2.nu, B1.sn, B1.sd, si, sm1, fun H6 s6 => ?_⟩
        have B1 := B1.same s6
        refine ⟨_, rfl, _, rfl, p, n1, d1, rfl, B1.rt, .inl ⟨i, 1, B2.nu, fun H7 s7 => ?_⟩⟩
        have B1 := B1.same s7
        refine ⟨_, rfl, _, rfl, p, n1, d1, rfl, B1.rt, .inl ⟨i, rfl, fun H8 s8 => ?_⟩⟩
        have B1 := B1.same s8
        refine ⟨(by show 3 ≤ sizeLine; decide), fun l hl => ?_⟩
        refine ⟨_, rfl, _, _, rfl, rfl, _, rfl, (by trivial), _, rfl, (by trivial), (by show 3 ≤ sizeLine; decide), fun l2 hl2 => ?_⟩
        have ev : PyData.eqv (.list (List.map PyData.bool [decide (n1 * 1 < i * d1), (decide (n1 = i) && decide (d1 = 1)), (decide (n1 = i) && decide (d1 = 1))])) (.list (List.map PyData.bool [decide ((a - i * b) * sg < 0), decide (V.int ((a - i * b) * sg) = V.int 0), decide (V.int ((a - i * b) * sg) = V.int 0)])) = true := by
          rw [e1, e2, e3]
          exact eqv_boolsL _
        refine ⟨_, _, .lst (SqL.of (same_new hl2 _ _ upd_same)) (dp_bools [decide (n1 * 1 < i * d1), (decide (n1 = i) && decide (d1 = 1)), (decide (n1 = i) && decide (d1 = 1))]), .lst (SqL.of upd_same) (dp_bools [decide ((a - i * b) * sg < 0), decide (V.int ((a - i * b) * sg) = V.int 0), decide (V.int ((a - i * b) * sg) = V.int 0)]), shaped_bools _, shaped_bools _, _, rfl, ?_⟩
        rw [ev]
        have sl := (same_new (o := .lst ([decide (n1 * 1 < i * d1), (decide (n1 = i) && decide (d1 = 1)), (decide (n1 = i) && decide (d1 = 1))].map V.bl)) hl).trans (same_new (o := .lst ([decide ((a - i * b) * sg < 0), decide (V.int ((a - i * b) * sg) = V.int 0), decide (V.int ((a - i * b) * sg) = V.int 0)].map V.bl)) hl2)
        have S9 := (((S5.trans s6).trans s7).trans s8).trans sl
        refine iteF ?_
        dsimp only [tNext, tRet]
        refine rd_is (N := i) (D := 1) (fun Qv k => ⟨_, rfl, rd_init rfl ⟨by decide, sm_lg sm1, fun p' H' n' d' s _ r nm => k p' H' s (qu_lg nm (sm_lg si) (sm_lg sm1) r nm.1)⟩⟩) (rd_v rfl) (fun _ _ q => q) (sm_lg si) (sm_lg sm1) fun H10 s10 => ?_
        exact go _ (S9.trans s10)
end
end K02

set_option Elab.async false
set_option linter.all false
set_option maxRecDepth 100000
set_option maxHeartbeats 4000000
set_option exponentiation.threshold 3000
/-! The law over Ratios: no quotient by zero. -/
namespace K02
open PySem PySem.Spec PyProof.Rows L2 Vx Vr
/-- what is known of ByZero, the class at B, and of DrawError, the class at D -/
structure Ez (K : PySem.W.Frag) (mg : Str → Option Value) (B D : Addr) : Prop where
  gB : mg "ByZero" = some (.ref B)
  gD : mg "DrawError" = some (.ref D)
  xB : PySem.W.excIn K B [.type "ValueError", .type "Exception", .type "BaseException", .type "object"] "ValueError.__new__" = true
  kB : PySem.W.keepIn K (.ref B) = true
  bB : PySem.W.subIn K (.ref B) (.type "BaseException") = some true
  tB : PySem.W.typeIn K (.ref B) = some (.type "type")
  eB : PySem.W.exmOne K (.ref B) (.ref B) = some true
  is : ExcC K B
  one : PySem.W.kitOne K (.ref B) (.ref D) = some true
def spInitX (C B : Addr) : Sp := fun vs H _ E => ∃ a dx N, vs = [.ref a, .int N, .int 0] ∧ H a = some (.ins C dx []) ∧ E (.ref B) none H
section
variable {P : Program} {w : World} {K : PySem.W.Frag} {mg : Str → Option Value} {base : Heap} {C B D : Addr}
theorem ok_initX {f : Addr} {fd : FuncData} (F : FunD K "__init__" "Ratio.__init__" (defArgs (mth 0)) (defBody (mth 0)) (defScope (mth 0)) [.int 1] [] f fd) (T : Bt mg) (Z : Ez K mg B D) :
    FnOk P w K mg base (L2.CX P w) 1 f fd ["self", "top", "bottom"] (spInitX C B) := by
  refine F.ok scInit (fun vs H Q E h => ?_) (fun cdv A outer s H vs Q E hr h => ?_)
  · obtain ⟨a, dx, N, rfl, _⟩ := h
    rfl
  · obtain ⟨a, dx, N, rfl, e, go⟩ := h
    refine ⟨_, pss_cons (ps_if (pt_cmpR op_eq (pv 2) pe_int (nomark _)) (pss_one (ps_raise rfl (takes_of rfl rfl rfl rfl) (pmk_own0 PySem.F.excBase_ValueError Z.xB Z.gB Z.kB (raises_own Z.bB Z.tB) rfl))) pss_nil)
      (PSs.nox (pss_cons (ps_set (i := 3) scInit.nd rfl (.inl rfl) (pe_callBfun cr_gcd (by rfl) T.gcd (pa_cons (pv 1) (pa_cons (pv 2) pa_nil))))
      (pss_cons (ps_if (pt_cmpR op_lt (pv 2) pe_int (nomark _)) (pss_one (ps_set (i := 3) scInit.nd rfl (.inl rfl) (pe_un un_neg (pv 3)))) pss_nil)
      (pss_cons (ps_fld (pv 0) (pe_op op_fdivZ (pv 1) (pv 3)) rfl)
      (pss_one (ps_fld (pv 0) (pe_op op_fdivZ (pv 2) (pv 3)) rfl)))))), ?_⟩
    refine ⟨_, rfl, (by trivial), _, rfl, ?_⟩
    have : decide (V.int 0 = V.int 0) = true := rfl
    rw [this]
    exact iteT go
/-- over, by nought -/
def spOverX (C B : Addr) : Sp := fun vs H _ E => ∃ a n d y e, vs = [.ref a, y] ∧ Rt C H a n d ∧ Nu C H y 0 e ∧ Sm n ∧ Sm d ∧ Sm e ∧ ∀ H', Same H H' → E (.ref B) none H'
theorem ok_overX {f fI : Addr} {fd fdI : FuncData} (F : L2.Fun K "over" "Ratio.over" (mth 12) f fd) (U : Us P w K mg base C) (mk : Mk K C fI) (G : FnOk P w K mg base (L2.CX P w) 1 fI fdI ["self", "top", "bottom"] (spInitX C B))
    (bI : Binds K fdI ["self", "top", "bottom"] []) (gC : mg "Ratio" = some (.ref C)) : FnOk P w K mg base (L2.CX P w) 3 f fd ["self", "number"] (spOverX C B) := by
  refine F.okX scOver (fun vs H Q E h => ?_) (fun cdv A outer s H vs Q E hr h => ?_)
  · obtain ⟨a, n, d, y, e, rfl, _⟩ := h
    rfl
  · obtain ⟨a, n, d, y, e, rfl, ⟨dx, ha⟩, nu, sn, sd, se, go⟩ := h
    refine ⟨_, pss_cons (ps_asg (pe_cal U.parts (hr.mono (by decide)) (pa_cons (pv 1) pa_nil)) (pg_tup (by rfl) (pgs_cons (pg_name (i := 2) scOver.nd rfl (.inl rfl)) (pgs_cons (pg_name (i := 3) scOver.nd rfl (.inl rfl)) pgs_nil))))
      (pss_one (ps_ret (pe_make mk G (hr.mono (by decide)) (by rfl) gC bI .nil (passes_call (takes_of rfl rfl rfl rfl) (fun _ _ _ _ h => h)) (pa_cons (pe_op op_mulW (pe_fld (pv 0) rfl) (pv 3)) (pa_cons (pe_op op_mulW (pe_fld (pv 0) rfl) (pv 2)) pa_nil))))), ?_⟩
    refine ⟨y, rfl, y, 0, e, rfl, nu, fun t ht => ⟨t, _, rfl, SqT.of upd_same, rfl, _, _, rfl, _, _, rfl, rfl, ?_⟩⟩
    have s1 := same_new (o := .tup [.int 0, .int e]) ht
    have ha1 := s1 _ _ ha
    generalize upd H t (.tup [.int 0, .int e]) = H1 at s1 ha1 ⊢
    have s0 : Sm 0 := by
      show (0 : Nat) < 2 ^ 1000
      exact Nat.two_pow_pos _
    refine ⟨_, rfl, a, C, dx, _, _, rfl, ha1, U.rc.own.cls, U.rc.noT, lkT n d, _, rfl, _, _, rfl, rfl, cmul sn se, ?_⟩
    refine ⟨_, rfl, a, C, dx, _, _, rfl, ha1, U.rc.own.cls, U.rc.noB, lkB n d, _, rfl, _, _, rfl, rfl, cmul sd s0, ?_⟩
    intro x dx' hx hdx ne
    refine ⟨x, dx', n * e, (by show [V.ref x, V.int (n * e), V.int (d * 0)] = _; rw [Int.mul_zero]), upd_same, go _ (s1.trans fun b o h => ?_)⟩
    rw [upd_ne (ne_of_none h hx), upd_ne (ne_of_none h hdx)]
    exact h
/-- isinstance(e, c) in the suite, e an error of the class at B -/
def rIsW (K : PySem.W.Frag) (B : Addr) (cls : Value) (dd : Option Addr) (a : Addr) : List V → Hp → VK → Prop := fun xs H Q => cls = .ref B ∧ dd = none ∧ rIsE K B a xs H Q
theorem call_isW {X : Cx} {a B : Addr} {cls : Value} {dd : Option Addr} {oe : Obj} {pn : List (Addr × Obj)} (c : ExcC X.K B) (hz : Zc cls dd oe) (hf : ∃ vs, oe.data = .fields vs) : CallR (X.suite a ((a, oe) :: pn)) (.builtin "isinstance") (rIsW X.K B cls dd a) := by
  intro pins s σ H xs us Q I r h
  obtain ⟨rfl, rfl, h⟩ := h
  exact call_isE c hz hf pins s σ H xs us Q I r h
/-- what the law's try suites use -/
structure Nz (P : Program) (w : World) (K : PySem.W.Frag) (mg : Str → Option Value) (base : Heap) (C B D : Addr) : Prop where
  al : Al P w K mg base C
  ez : Ez K mg B D
  init : ∃ fI fdI, Mk K C fI ∧ FnOk P w K mg base (L2.CX P w) 1 fI fdI ["self", "top", "bottom"] (spInitX C B) ∧ Binds K fdI ["self", "top", "bottom"] []
  over : ∃ f fd, Meth K C "over" f ∧ FnOk P w K mg base (L2.CX P w) 3 f fd ["self", "number"] (spOverX C B) ∧ Binds K fd ["self", "number"] []
def spNo (C : Addr) : Sp := fun vs H Q _ => ∃ p t n d, vs = [.int t, .ref p] ∧ Rt C H p n d ∧ Sm n ∧ Sm d ∧ ∀ H', Same H H' → Q (.bl true) H'
abbrev NN : List Str := ["_law_top", "_law_ratio", "_law_told", "e"]
theorem scNo : FnScope NN ["_law_top", "_law_ratio"] (defScope (top 17)) := ⟨rfl, rfl, rfl, by decide +kernel, rfl, by decide +kernel, by decide +kernel⟩
theorem ok_no {f : Addr} {fd : FuncData} (F : L2.Fun K "_law_no_quotient" "_law_no_quotient" (top 17) f fd) (N : Nz P w K mg base C B D) : FnOk P w K mg base CX0 5 f fd ["_law_top", "_law_ratio"] (spNo C) := by
  refine F.ok scNo (fun vs H Q E h => ?_) (fun cdv A outer s H vs Q E hr h => ?_)
  · obtain ⟨p, t, n, d, rfl, _⟩ := h
    rfl
  · obtain ⟨p, t, n, d, rfl, ⟨dx, hp⟩, sn, sd, go⟩ := h
    obtain ⟨fI, fdI, mk, FI, bI⟩ := N.init
    obtain ⟨fo, fdo, Mo, Fo, bo⟩ := N.over
    have Bt' := N.al.ops.us.bt
    have gC : mg "Ratio" = some (.ref C) := by
      obtain ⟨_, _, _, _, g, _⟩ := N.al.ops.us.mkr.ex
      exact g
    have cl := N.al.ops.us.rc.own.cls
    have nm : ∀ X : Cx, X.mg = mg → Gl X "ByZero" → Names X "ByZero" (.ref B) := fun X e g => ⟨g, by decide, .inl (e ▸ N.ez.gB)⟩
    refine ⟨_, pss_cons (ps_set (i := 2) scNo.nd rfl (.inl rfl) pe_int)
      (pss_cons (ps_try_as (i := 3) rfl rfl scNo.nd rfl rfl ⟨rfl, by decide, .inl N.ez.gB⟩ takes0
          (fun W pn xe tk _ => pss_one (ps_expr (pe_makeS mk FI (hr.mono (by decide)) (by rfl) gC bI (fun σ => passAt tk σ) (pa_cons (pv 0) (pa_cons pe_int pa_nil)))))
          (fun a oe cls dd pn hz hf => pss_one (ps_set (i := 2) scNo.nd rfl (.inl rfl) (pe_op op_add (pv 2) (pe_callTy call_int1 (by rfl) Bt'.int (by decide +kernel) (pa_cons (pe_callB (call_isW N.ez.is hz hf) (by rfl) Bt'.isi (by decide +kernel) (pa_cons (pv 3) (pa_cons (pe_glob (v := .ref D) (by rfl) N.ez.gD rfl) pa_nil))) pa_nil))))))
      (pss_cons (ps_try_only rfl rfl ⟨rfl, by decide, .inl N.ez.gB⟩ takes0
          (fun W pn xe tk _ => pss_one (ps_expr (pe_methS (pv 1) cl Mo Fo (hr.mono (by decide)) bo (fun σ => passAt tk σ) (pa_cons (pe_rat N.al.ops.us.mkr (hr.mono (by decide)) pe_int pe_int) pa_nil))))
          (fun a oe cls dd pn hz hf => pss_one (ps_set (i := 2) scNo.nd rfl (.inl rfl) (pe_op op_add (pv 2) pe_int))))
      (pss_cons (ps_try_only rfl rfl ⟨rfl, by decide, .inl N.ez.gB⟩ takes0
          (fun W pn xe tk _ => pss_one (ps_expr (pe_methS (pv 1) cl Mo Fo (hr.mono (by decide)) bo (fun σ => passAt tk σ) (pa_cons pe_int pa_nil))))
          (fun a oe cls dd pn hz hf => pss_one (ps_set (i := 2) scNo.nd rfl (.inl rfl) (pe_op op_add (pv 2) pe_int))))
      (pss_one (ps_ret (pe_cmpR op_eq (pv 2) pe_int (nomark _))))))), ?_⟩
    have s0 : Sm 0 := by
      show (0 : Nat) < 2 ^ 1000
      exact Nat.two_pow_pos _
    refine ⟨_, rfl, fun x dy hx hdy ne => ⟨x, dy, t, rfl, upd_same, true, N.ez.eB, fun _ a1 ha1 => ?_, fun q => nomatch q⟩⟩
    have s1 : Same H (upd (upd H dy (.own x)) x (.ins C dy [])) := fun b o h => by
      rw [upd_ne (ne_of_none h hx), upd_ne (ne_of_none h hdy)]
      exact h
    have hp1 := s1 _ _ hp
    generalize upd (upd H dy (.own x)) x (.ins C dy []) = H1 at s1 hp1 ha1 ⊢
    refine ⟨_, rfl, _, rfl, rfl, rfl, .ref D, .ref D, true, rfl, fun u r => r, N.ez.one, .inr ⟨true, rfl, _, _, rfl, rfl, ?_⟩⟩
    have lg7 : Lg 7 := Nat.lt_of_lt_of_le (show 7 < 2 ^ 3 by decide) (Nat.pow_le_pow_right (by decide) (by decide))
    have sm7 : Sm 7 := Nat.lt_of_lt_of_le (show 7 < 2 ^ 3 by decide) (Nat.pow_le_pow_right (by decide) (by decide))
    refine ⟨_, rfl, p, dx, _, rfl, hp1, rfl, ?_⟩
    dsimp only [tCons, tMake, tC, tNil]
    intro p2 dx2 hx2 hdx2 ne2
    refine ⟨p2, dx2, 0, 7, rfl, upd_same, by decide, lg7, fun n2 d2 nm2 => ⟨rfl, ?_⟩⟩
    have s2 : Same H1 (upd (upd (upd (upd H1 dx2 (.own p2)) p2 (.ins C dx2 [])) p2 (.ins C dx2 [("_top", .int n2)])) p2 (.ins C dx2 (fs2 n2 d2))) := fun b o h => by
      rw [upd_ne (ne_of_none h hx2), upd_ne (ne_of_none h hx2), upd_ne (ne_of_none h hx2), upd_ne (ne_of_none h hdx2)]
      exact h
    have r2 : Rt C (upd (upd (upd (upd H1 dx2 (.own p2)) p2 (.ins C dx2 [])) p2 (.ins C dx2 [("_top", .int n2)])) p2 (.ins C dx2 (fs2 n2 d2))) p2 n2 d2 := ⟨dx2, upd_same⟩
    generalize upd (upd (upd (upd H1 dx2 (.own p2)) p2 (.ins C dx2 [])) p2 (.ins C dx2 [("_top", .int n2)])) p2 (.ins C dx2 (fs2 n2 d2)) = H2 at s2 r2 ⊢
    obtain ⟨e2, _, _, _, l2⟩ := nm2
    have z2 : n2 = 0 := by omega
    subst z2
    have hp2 := s2 _ _ hp1
    refine ⟨p, n, d, .ref p2, d2, rfl, ⟨dx, hp2⟩, .inr ⟨p2, rfl, r2⟩, sn, sd, Nat.lt_of_le_of_lt l2 sm7, fun H3 s3 => ⟨true, N.ez.eB, fun _ a2 ha2 => ?_, fun q => nomatch q⟩⟩
    have hp3 := s3 _ _ hp2
    refine ⟨_, rfl, _, _, rfl, rfl, ?_⟩
    refine ⟨_, rfl, p, dx, _, rfl, hp3, rfl, ?_⟩
    refine ⟨p, n, d, .int 0, 1, rfl, ⟨dx, hp3⟩, .inl ⟨rfl, rfl⟩, sn, sd, sm1, fun H4 s4 => ⟨true, N.ez.eB, fun _ a3 ha3 => ?_, fun q => nomatch q⟩⟩
    refine ⟨_, rfl, _, _, rfl, rfl, ?_⟩
    refine ⟨_, rfl, (by trivial), ?_⟩
    exact go _ (((s1.trans s2).trans s3).trans s4)
end
end K02

set_option Elab.async false
set_option linter.all false
set_option maxRecDepth 100000
set_option maxHeartbeats 8000000
set_option exponentiation.threshold 3000
/-! The law over Ratios: the law itself. -/
namespace K02
open PySem PySem.Spec PyProof.Rows L2 Vx Vr
/-- what the law calls -/
structure Lw (P : Program) (w : World) (K : PySem.W.Frag) (mg : Str → Option Value) (base : Heap) (C : Addr) : Prop where
  al : Al P w K mg base C
  ce : Cal P w K mg base "_law_cell" 1 ["_law_script", "_law_k"] (spCell K)
  bx : Cal P w K mg base "_law_box" 1 ["_law_cell_here"] spBox
  tk : Cal P w K mg base "_law_take" 1 ["_law_box_here", "_law_many"] spTake
  it : Cal P w K mg base "_law_integer" 2 ["_law_box_here"] spInt
  is : IsC P w K mg base C
  tw : Cal P w K mg base "_law_two_right" 6 ["_law_one", "_law_other", "_law_a", "_law_b", "_law_c", "_law_d"] (spTwo C)
  ir : Cal P w K mg base "_law_integers_right" 6 ["_law_one", "_law_a", "_law_b", "_law_number"] (spInts C)
  nq : Cal P w K mg base "_law_no_quotient" 5 ["_law_top", "_law_ratio"] (spNo C)
  kw : ∃ f fd, Mk K C f ∧ FnOk P w K mg base CX0 1 f fd ["self", "top", "bottom"] (spInit C) ∧ ∃ g : List Value → List Value → List Value, KBn K fd ["self", "top", "bottom"] 2 ["bottom"] g (fun vs zs => vs ++ zs)
abbrev NL : List Str := ["_law_script", "_law_k", "_law_box_here", "_law_by", "_law_a", "_law_c", "_law_b", "_law_d", "_law_one", "_law_other", "_law_number", "_law_strange", "_law_plain"]
theorem scLaw : FnScope NL ["_law_script"] (defScope (top 20)) := ⟨rfl, rfl, rfl, by decide +kernel, rfl, by decide +kernel, by decide +kernel⟩
def spLaw (K : PySem.W.Frag) : Sp := fun vs H Q _ => ∃ (a : Addr) (ns : List Int), vs = [.ref a] ∧ SqL K H a (ns.map V.int) ∧ ns.length ≤ 63 ∧ ∀ H', Q (.bl true) H'
section
variable {P : Program} {w : World} {K : PySem.W.Frag} {mg : Str → Option Value} {base : Heap} {C : Addr}
theorem sm_of {i : Int} (h : i.natAbs < 2 ^ 110) : Sm i := Nat.lt_trans h (Nat.pow_lt_pow_right (by decide) (by decide))
theorem sm_29 {i : Int} (h : i.natAbs < 10 ^ 29) : Sm i := sm_of (Nat.lt_trans h (by decide))
theorem sm_by {i y : Int} (h : i.natAbs < 10 ^ 29) (y0 : 0 ≤ y) (y1 : y ≤ 9) : (i * y).natAbs < 10 ^ 30 := by
  rw [Int.natAbs_mul]
  have : y.natAbs ≤ 9 := by omega
  have := Nat.mul_le_mul_left i.natAbs this
  omega
/-- b + int(b == 0) * y -/
theorem no_nought {b y : Int} (h : b.natAbs < 10 ^ 30) (y0 : 1 ≤ y) (y1 : y ≤ 9) : b + (if decide (V.int b = V.int 0) = true then 1 else 0) * y ≠ 0 ∧ Sm (b + (if decide (V.int b = V.int 0) = true then 1 else 0) * y) := by
  by_cases hb : b = 0
  · subst hb
    rw [if_pos (by rfl)]
    refine ⟨by omega, sm_of ?_⟩
    have : (2 : Nat) ^ 110 > 10 := by decide
    omega
  · rw [if_neg (by rw [decide_eq_true_iff]; exact fun z => hb (V.int.inj z))]
    refine ⟨by omega, sm_of ?_⟩
    have : (2 : Nat) ^ 110 > 10 ^ 30 := by decide
    omega
theorem no_nought1 {b : Int} (h : b.natAbs < 10 ^ 29) : b + (if decide (V.int b = V.int 0) = true then 1 else 0) ≠ 0 ∧ Sm (b + (if decide (V.int b = V.int 0) = true then 1 else 0)) := by
  have := no_nought (b := b) (y := 1) (by omega) (by decide) (by decide)
  rwa [Int.mul_one] at this
theorem bq_of {C : Addr} {H : Hp} {p : Addr} {a b n d : Int} (r : Rt C H p n d) (nm : Norm a b n d) (hb : b ≠ 0) (sa : Sm a) (sb : Sm b) : Bq C H p a b n d :=
  ⟨r, nm.1, nm.2.1, nm.2.2.1, Nat.lt_of_le_of_lt nm.2.2.2.1 sa, Nat.lt_of_le_of_lt nm.2.2.2.2 sb, hb, sa, sb⟩
theorem Chg.away {b : Addr} {H G G' : Hp} (c : Chg b G G') (s : Same H G) (n : H b = none) : Same H G' := fun q o e => c q o (fun z => by rw [z, n] at e; cases e) (s q o e)
theorem same_upd {H G : Hp} {b : Addr} {o : HO} (s : Same H G) (n : H b = none) : Same H (upd G b o) := (Chg.at_).away s n
theorem rd_at {C : Addr} {N D : Int} {H : Hp} {R : VK} {vs : List V} {x dx : Addr} (hx : H x = none) (hdx : H dx = none) (_ne : dx ≠ x) (e : vs = [.int N, .int D]) (hD : D ≠ 0) (lD : Lg D)
    (k : ∀ H3 n d, Same H H3 → Rt C H3 x n d → Norm N D n d → R .non H3) : spInit C (.ref x :: vs) (upd (upd H dx (.own x)) x (.ins C dx [])) R E0 := by
  subst e
  refine ⟨x, dx, N, D, rfl, upd_same, hD, lD, fun n d nm => k _ n d (fun b o e => ?_) ⟨dx, upd_same⟩ nm⟩
  rw [upd_ne (ne_of_none e hx), upd_ne (ne_of_none e hx), upd_ne (ne_of_none e hx), upd_ne (ne_of_none e hdx)]
  exact e
theorem seq_go {X R : TS} {D : Ends} {σ : L2.St} {H : Hp} (h : X { D with nx := R D } σ H) : tSeq X R D σ H := h
theorem if_chk2 {te t1 t2 : TE} {Y : TT} {A : TS} {D : Ends} {σ : L2.St} {H : Hp} {N M : Int} (hte : ∀ Qv : VK, (∀ p H', Same H H' → Qu C H' p N M → Qv (.ref p) H') → te σ H Qv)
    (h1 : ∀ (H' : Hp) (Qv : VK), Qv (.int N) H' → t1 σ H' Qv) (h2 : ∀ (H' : Hp) (Qv : VK), Qv (.int M) H' → t2 σ H' Qv) (lN : Lg N) (lD : Lg M)
    (go : ∀ H', Same H H' → Y σ H' fun b H2 => if b = true then A D σ H2 else tNext D σ H2) : tIfS (tOr (tNot (tB (tIs C te t1 t2))) Y) A tNext D σ H := by
  unfold tIfS tOr
  exact rd_chk hte h1 h2 lN lD fun H1 s1 => iteF (go H1 s1)
theorem ok_law {f : Addr} {fd : FuncData} (F : L2.Fun K "law" "law" (top 20) f fd) (L : Lw P w K mg base C) : FnOk P w K mg base CX0 7 f fd ["_law_script"] (spLaw K) := by
  refine F.ok scLaw (fun vs H Q E h => ?_) (fun cdv A outer s H vs Q E hr h => ?_)
  · obtain ⟨a, ns, rfl, _⟩ := h
    rfl
  · obtain ⟨sc, ns, rfl, hS, hlen, go⟩ := h
    have T := L.al.ops.us.bt
    have h1 := hr.mono (show 1 ≤ 6 by decide)
    have h2 := hr.mono (show 2 ≤ 6 by decide)
    have h3 := hr.mono (show 3 ≤ 6 by decide)
    have h4 := hr.mono (show 4 ≤ 6 by decide)
    have h5 := hr.mono (show 5 ≤ 6 by decide)
    have mk := L.al.ops.us.mkr
    obtain ⟨fk, fdk, Mk', Fk, gk, Bk⟩ := L.kw
    have gC : mg "Ratio" = some (.ref C) := by
      obtain ⟨_, _, _, _, g, _⟩ := mk.ex
      exact g
    refine ⟨_, pss_cons (ps_for PassesOwn.never rfl (pi_range1 rfl T.range (pa_cons (pe_callB (call_max2 rfl) (by rfl) T.max (by decide +kernel) (pa_cons pe_int (pa_cons (pe_callB (call_min2 rfl) (by rfl) T.min (by decide +kernel) (pa_cons pe_int (pa_cons (pe_callB call_len_seq (by rfl) T.len PySem.boot_len (pa_cons (pv 0) pa_nil)) pa_nil))) pa_nil))) pa_nil)) (pg_name (i := 1) scLaw.nd rfl (.inl rfl))
        (pss_cons (ps_set (i := 2) scLaw.nd rfl (.inl rfl) (pe_cal L.bx h1 (pa_cons (pe_cal L.ce h1 (pa_cons (pv 0) (pa_cons (pv 1) pa_nil))) pa_nil)))
        (pss_cons (ps_set (i := 3) scLaw.nd rfl (.inl rfl) (pe_op op_add pe_int (pe_cal L.tk h1 (pa_cons (pv 2) (pa_cons pe_int pa_nil)))))
        (pss_cons (ps_par (i := 4) (j := 5) (by rfl) scLaw.nd rfl rfl (by decide) rfl rfl (pa_cons (pe_op op_mulW (pe_cal L.it h2 (pa_cons (pv 2) pa_nil)) (pv 3)) (pa_cons (pe_cal L.it h2 (pa_cons (pv 2) pa_nil)) pa_nil)) (by rfl))
        (pss_cons (ps_par (i := 6) (j := 7) (by rfl) scLaw.nd rfl rfl (by decide) rfl rfl (pa_cons (pe_op op_mulW (pe_cal L.it h2 (pa_cons (pv 2) pa_nil)) (pv 3)) (pa_cons (pe_cal L.it h2 (pa_cons (pv 2) pa_nil)) pa_nil)) (by rfl))
        (pss_cons (ps_par (i := 6) (j := 7) (by rfl) scLaw.nd rfl rfl (by decide) rfl rfl (pa_cons (pe_op op_add (pv 6) (pe_op op_mulW (pe_callTy call_int1 (by rfl) T.int (by decide +kernel) (pa_cons (pe_cmpR op_eq (pv 6) pe_int (nomark _)) pa_nil)) (pv 3)))
          (pa_cons (pe_op op_add (pv 7) (pe_callTy call_int1 (by rfl) T.int (by decide +kernel) (pa_cons (pe_cmpR op_eq (pv 7) pe_int (nomark _)) pa_nil))) pa_nil)) (by rfl))
        (pss_cons (ps_par (i := 8) (j := 9) (by rfl) scLaw.nd rfl rfl (by decide) rfl rfl (pa_cons (pe_rat mk h2 (pv 4) (pv 6)) (pa_cons (pe_makeN Mk' Fk h2 (by rfl) gC Bk pass0 (pa_cons (pv 5) pa_nil) (pk_cons (pv 7) pk_nil)) pa_nil)) (by rfl))
        (pss_cons (ps_if (PW.pt (pw_or (pt_not (pt_val (pe_cal L.is h4 (pa_cons (pv 8) (pa_cons (pv 4) (pa_cons (pv 6) pa_nil))))))
            (pw_or1 (pt_not (pt_val (pe_cal L.tw hr (pa_cons (pv 8) (pa_cons (pv 9) (pa_cons (pv 4) (pa_cons (pv 6) (pa_cons (pv 5) (pa_cons (pv 7) pa_nil))))))))))))
          (pss_one (ps_ret pe_bl)) pss_nil)
        (pss_cons (ps_if (PW.pt (pw_or (pt_not (pt_val (pe_cal L.tw hr (pa_cons (pv 8) (pa_cons (pe_rat mk h2 (pv 4) (pv 6)) (pa_cons (pv 4) (pa_cons (pv 6) (pa_cons (pv 4) (pa_cons (pv 6) pa_nil)))))))))
            (pw_or1 (pt_not (pt_val (pe_cal L.tw hr (pa_cons (pv 9) (pa_cons (pv 8) (pa_cons (pv 5) (pa_cons (pv 7) (pa_cons (pv 4) (pa_cons (pv 6) pa_nil))))))))))))
          (pss_one (ps_ret pe_bl)) pss_nil)
        (pss_cons (ps_for PassesOwn.never rfl (pi_list (pe_lst (pa_cons pe_int (pa_cons pe_int (pa_cons (pe_un un_neg pe_int) (pa_cons (pv 5) (pa_cons (pv 4) pa_nil))))))) (pg_name (i := 10) scLaw.nd rfl (.inl rfl))
          (pss_one (ps_if (pt_not (pt_val (pe_cal L.ir hr (pa_cons (pv 8) (pa_cons (pv 4) (pa_cons (pv 6) (pa_cons (pv 10) pa_nil))))))) (pss_one (ps_ret pe_bl)) pss_nil)))
        (pss_cons (ps_for PassesOwn.never rfl (pi_list (pe_lst (pa_cons pe_non (pa_cons pe_str (pa_cons (pe_tup (pa_cons (pv 4) (pa_cons (pv 6) pa_nil))) (pa_cons (pe_lst (pa_cons (pv 8) pa_nil)) (pa_cons pe_dnewK
            (pa_cons (pe_callTy (call_strOwn L.al.str h5) (by rfl) T.str (by decide +kernel) (pa_cons (pv 8) pa_nil)) (pa_cons pe_bl (pa_cons pe_bl pa_nil)))))))))) (pg_name (i := 11) scLaw.nd rfl (.inl rfl))
          (pss_one (ps_if (PW.pt (pw_or (pt_cmpR (op_eqN L.al h3) (pv 8) (pv 11) (nomark _)) (pw_or (pt_cmpR (op_eqRN L.al h3) (pv 11) (pv 8) (nomark _)) (pw_or1 (pt_not (pt_cmpR (op_neN L.al h4) (pv 8) (pv 11) (nomark _)))))))
            (pss_one (ps_ret pe_bl)) pss_nil)))
        (pss_cons (ps_for PassesOwn.never rfl (pi_list (pe_lst (pa_cons (pe_rat1 mk h2 pe_int) (pa_cons (pe_rat1 mk h2 pe_int) pa_nil)))) (pg_name (i := 12) scLaw.nd rfl (.inr rfl))
          (pss_one (ps_if (pt_cmpR (op_neD hr.units) (pe_lc (own := [("_law_strange", 11)]) (g := gName 11) (tt := tOr (tTest (tOp (rEqN K C) (tVar 12) (tVar 11))) (tTest (tOp (rEqR K C) (tVar 11) (tVar 12)))) rfl scLaw.nd
              (pi_list (pe_lst (pa_cons pe_bl (pa_cons pe_bl pa_nil)))) (blkOk_by (N := NL) (sc := defScope (top 20)) (by decide +kernel))
              (fun _ _ _ _ _ => pg_name (i := 11) scLaw.nd rfl (Or.inl rfl)) (fun _ _ _ _ _ => pts_one (PW.pt (pw_or (pt_cmpR (op_eqN L.al h3) (pv 12) (pv 11) (nomark _)) (pw_or1 (pt_cmpR (op_eqRN L.al h3) (pv 11) (pv 12) (nomark _)))))) (fun _ _ _ _ _ => pv 11)) (pe_lst pa_nil) (nomark _))
            (pss_one (ps_ret pe_bl)) pss_nil)))
        (pss_one (ps_if (pt_not (pt_val (pe_cal L.nq h5 (pa_cons (pv 4) (pa_cons (pv 8) pa_nil))))) (pss_one (ps_ret pe_bl)) pss_nil))))))))))))))
      (pss_one (ps_ret pe_bl)), ?_⟩
    refine ⟨_, rfl, sc, _, rfl, .inl hS, _, _, rfl, _, _, rfl, ?_⟩
    have nb : ∀ k : Int, 0 ≤ k → ∀ m : Int, m = (if (if k < 12 then k else 12) > 2 then (if k < 12 then k else 12) else 2) → 2 ≤ m ∧ m ≤ 12 := fun k k0 m e => by
      rw [e]
      split <;> split <;> omega
    obtain ⟨n0, n1⟩ := nb ((ns.map V.int).length : Int) (by omega) _ rfl
    refine ⟨_, rfl, by omega, by omega, for_range (fun i σ H1 => (∃ v1 v2 v3 v4 v5 v6 v7 v8 v9 v10 v11 v12, σ = [some (.ref sc), v1, v2, v3, v4, v5, v6, v7, v8, v9, v10, v11, v12]) ∧ Same H H1) ⟨⟨_, _, _, _, _, _, _, _, _, _, _, _, rfl⟩, Same.refl _⟩ ?_ ?_⟩
    · rintro i σ H1 hi ⟨⟨v1, v2, v3, v4, v5, v6, v7, v8, v9, v10, v11, v12, rfl⟩, s1⟩
      have ez : (0 : Int) + (i : Int) = (i : Int) := by omega
      rw [ez]
      refine ⟨_, rfl, _, rfl, sc, ns, i, rfl, s1.seq hS, hlen, by omega, fun z H2 s2 => ⟨z, rfl, fun b x y hb x0 y0 y1 => ?_⟩⟩
      have b0 : H b = none := (s1.trans s2).free hb
      have at0 := upd_same (H := H2) (a := b) (o := .lst [.int x, .int y, .int 0])
      have S0 := same_upd (o := .lst [.int x, .int y, .int 0]) (s1.trans s2) b0
      generalize upd H2 b (.lst [.int x, .int y, .int 0]) = G0 at at0 S0 ⊢
      clear s1 s2 hb
      refine ⟨_, rfl, b, 9, x, y, 0, rfl, at0, by decide, by decide, y0, y1, by decide, by decide, fun r x1 z1 ra rb za zb => ⟨_, _, rfl, rfl, ?_⟩⟩
      have at1 := upd_same (H := G0) (a := b) (o := .lst [.int x1, .int y, .int z1])
      have S1 := same_upd (o := .lst [.int x1, .int y, .int z1]) S0 b0
      dsimp only
      generalize upd G0 b (.lst [.int x1, .int y, .int z1]) = G1 at at1 S1 ⊢
      generalize hy : 1 + r = by_
      have y2 : 1 ≤ by_ := by omega
      have y3 : by_ ≤ 9 := by omega
      have sby : Sm by_ := sm_29 (by omega)
      refine ⟨_, rfl, b, x1, y, z1, rfl, at1, y0, y1, by omega, by omega, fun i1 x2 z2 G2 l1 zc zd ch2 at2 => ?_⟩
      have S2 := ch2.away S1 b0
      refine ⟨_, rfl, _, _, rfl, rfl, cmul (sm_29 l1) sby, ?_⟩
      refine ⟨_, rfl, b, x2, y, z2, rfl, at2, y0, y1, by omega, by omega, fun c x3 z3 G3 l2 ze zf ch3 at3 => ⟨_, _, rfl, ?_⟩⟩
      have S3 := ch3.away S2 b0
      refine ⟨_, rfl, b, x3, y, z3, rfl, at3, y0, y1, by omega, by omega, fun i3 x4 z4 G4 l3 zg zh ch4 at4 => ?_⟩
      have S4 := ch4.away S3 b0
      refine ⟨_, rfl, _, _, rfl, rfl, cmul (sm_29 l3) sby, ?_⟩
      refine ⟨_, rfl, b, x4, y, z4, rfl, at4, y0, y1, by omega, by omega, fun i4 x5 z5 G5 l4 zi zj ch5 at5 => ⟨_, _, rfl, ?_⟩⟩
      have S5 := ch5.away S4 b0
      dsimp only
      have la := sm_by l1 (by omega) y3
      have lb := sm_by l3 (by omega) y3
      have sa : Sm (i1 * by_) := sm_of (Nat.lt_trans la (by decide))
      have sb0 : Sm (i3 * by_) := sm_of (Nat.lt_trans lb (by decide))
      have sc' : Sm c := sm_29 l2
      generalize i1 * by_ = a at la sa ⊢
      generalize i3 * by_ = bb at lb sb0 ⊢
      obtain ⟨hB, sB⟩ := no_nought lb y2 y3
      obtain ⟨hD, sD⟩ := no_nought1 l4
      have sone : ∀ k : Bool, Sm (if k = true then 1 else 0) := fun k => sm_29 (by split <;> decide)
      refine ⟨_, rfl, _, rfl, (by trivial), .inr ⟨_, rfl, _, rfl, _, _, rfl, rfl, cmul (sone _) sby, _, _, rfl, rfl, _, rfl, _, rfl, (by trivial), .inr ⟨_, rfl, _, _, rfl, rfl, _, _, rfl, ?_⟩⟩⟩
      dsimp only
      generalize bb + (if decide (V.int bb = V.int 0) = true then 1 else 0) * by_ = B at hB sB ⊢
      generalize i4 + (if decide (V.int i4 = V.int 0) = true then 1 else 0) = D at hD sD ⊢
      refine ⟨_, rfl, _, rfl, ?_⟩
      intro p1 dx1 hx1 hdx1 ne1
      refine rd_at hx1 hdx1 ne1 rfl hB (sm_lg sB) fun G6 n1' d1 s6 r1 nm1 => ⟨rfl, ?_⟩
      have B1 := bq_of r1 nm1 hB sa sB
      have S6 := S5.trans s6
      refine ⟨_, rfl, _, rfl, rfl, rfl, ?_⟩
      intro p2 dx2 hx2 hdx2 ne2
      refine rd_at hx2 hdx2 ne2 rfl hD (sm_lg sD) fun G7 n2' d2 s7 r2 nm2 => ⟨rfl, _, _, rfl, ?_⟩
      have B1 := B1.same s7
      have B2 := bq_of r2 nm2 hD sc' sD
      have S7 := S6.trans s7
      clear hx1 hdx1 hx2 hdx2
      refine seq_go ?_
      refine if_chk2 (te := tVar 8) (t1 := tVar 4) (t2 := tVar 6) (N := a) (M := B) ?c1 ?c2 ?c3 (sm_lg sa) (sm_lg sB) fun G8 s8 => ?c4
      case c1 => exact fun Qv k => ⟨_, rfl, k p1 _ (Same.refl _) B1.qu⟩
      case c2 => exact rd_v rfl
      case c3 => exact rd_v rfl
      have B1 := B1.same s8
      have B2 := B2.same s8
      have S8 := S7.trans s8
      refine ⟨_, rfl, _, rfl, _, rfl, _, rfl, _, rfl, _, rfl, p1, p2, a, B, c, D, n1', d1, n2', d2, rfl, B1, B2, fun G9 s9 => ⟨true, rfl, iteF ?_⟩⟩
      have B1 := B1.same s9
      have B2 := B2.same s9
      have S9 := S8.trans s9
      refine ⟨_, rfl, _, rfl, _, rfl, ?_⟩
      intro p3 dx3 hx3 hdx3 ne3
      refine rd_at hx3 hdx3 ne3 rfl hB (sm_lg sB) fun G10 n3 d3 s10 r3 nm3 => ⟨rfl, ?_⟩
      have B1 := B1.same s10
      have B2 := B2.same s10
      have B3 := bq_of r3 nm3 hB sa sB
      have S10 := S9.trans s10
      clear hx3 hdx3
      refine ⟨_, rfl, _, rfl, _, rfl, _, rfl, p1, p3, a, B, a, B, n1', d1, n3, d3, rfl, B1, B3, fun G11 s11 => ⟨true, rfl, iteF ?_⟩⟩
      have B1 := B1.same s11
      have B2 := B2.same s11
      have S11 := S10.trans s11
      refine ⟨_, rfl, _, rfl, _, rfl, _, rfl, _, rfl, _, rfl, p2, p1, c, D, a, B, n2', d2, n1', d1, rfl, B2, B1, fun G12 s12 => ⟨true, rfl, iteF ?_⟩⟩
      have B1 := B1.same s12
      have B2 := B2.same s12
      have S12 := S11.trans s12
      clear S0 S1 S2 S3 S4 S5 S6 S7 S8 S9 S10 S11 at0 at1 at2 at3 at4 at5
      -- the numbers
      refine ⟨_, rfl, _, rfl, _, rfl, by show 5 ≤ sizeLine; decide, fun l hl => ⟨l, rfl, ⟨_, SqL.of upd_same⟩, ?_⟩⟩
      refine for_list (K := K) (a := l) (xs := [.int 0, .int 1, .int (-1), .int c, .int a]) (fun _ σ H9 => (∃ v10 v11 v12, σ = [some (.ref sc), some (.int (i : Int)), some (.ref b), some (.int by_), some (.int a), some (.int c), some (.int B), some (.int D), some (.ref p1), some (.ref p2), v10, v11, v12]) ∧ Same G12 H9 ∧ H9 l = some (.lst [.int 0, .int 1, .int (-1), .int c, .int a])) ⟨⟨_, _, _, rfl⟩, same_new hl, upd_same⟩ (fun _ _ H9 _ h => SqL.of h.2.2) ?_ ?_
      · rintro k t σ H9 hk ⟨⟨v10, v11, v12, rfl⟩, s9, cl⟩
        obtain ⟨j, rfl, sj⟩ : ∃ j, t = .int j ∧ Sm j := by
          have := List.mem_of_getElem? hk
          simp only [List.mem_cons, List.not_mem_nil, or_false] at this
          rcases this with e | e | e | e | e <;> subst e
          · exact ⟨_, rfl, sm_29 (by decide)⟩
          · exact ⟨_, rfl, sm1⟩
          · exact ⟨_, rfl, sm_29 (by decide)⟩
          · exact ⟨_, rfl, sc'⟩
          · exact ⟨_, rfl, sa⟩
        refine ⟨_, rfl, _, rfl, _, rfl, _, rfl, p1, a, B, j, n1', d1, rfl, B1.same s9, sj, fun H10 s10 => ⟨true, rfl, iteF ?_⟩⟩
        exact ⟨⟨_, _, _, rfl⟩, s9.trans s10, s10 _ _ cl⟩
      rintro σ H9 ⟨⟨v10', v11', v12', rfl⟩, s9, _⟩
      have B1 := B1.same s9
      have S14 := S12.trans s9
      clear S12 s9 B2
      -- the strange things
      refine ⟨_, rfl, _, rfl, by show 2 ≤ sizeLine; decide, fun t ht => ?_⟩
      have w1 := same_new (o := .tup [.int a, .int B]) ht
      have c1 := upd_same (H := H9) (a := t) (o := .tup [.int a, .int B])
      generalize upd H9 t (.tup [.int a, .int B]) = J1 at w1 c1 ⊢
      refine ⟨_, rfl, by show 1 ≤ sizeLine; decide, fun l1 hl1 => ?_⟩
      have w2 := same_new (o := .lst [.ref p1]) hl1
      have c2 := upd_same (H := J1) (a := l1) (o := .lst [.ref p1])
      generalize upd J1 l1 (.lst [.ref p1]) = J2 at w2 c2 ⊢
      refine fun dd hdd => ?_
      have w3 := same_new (o := .dK []) hdd
      have c3 := upd_same (H := J2) (a := dd) (o := .dK [])
      generalize upd J2 dd (.dK []) = J3 at w3 c3 ⊢
      have B1 := B1.same (w1.trans (w2.trans w3))
      have S15 := S14.trans (w1.trans (w2.trans w3))
      have C1 := w3 _ _ (w2 _ _ c1)
      have C2 := w3 _ _ c2
      clear ht hl1 hdd w1 w2 w3 c1 c2 S14
      obtain ⟨dxp, hp⟩ := B1.rt
      refine ⟨_, rfl, p1, dxp, _, rfl, hp, p1, n1', d1, rfl, ⟨dxp, hp⟩, B1.sn, B1.sd, fun zz => ⟨zz, rfl, by show 8 ≤ sizeLine; decide, fun l3 hl3 => ⟨l3, rfl, ⟨_, SqL.of upd_same⟩, ?_⟩⟩⟩
      have w4 := same_new (o := .lst [.non, .str "1/2", .ref t, .ref l1, .ref dd, .str zz, .bl false, .bl true]) hl3
      have c4 := upd_same (H := J3) (a := l3) (o := .lst [.non, .str "1/2", .ref t, .ref l1, .ref dd, .str zz, .bl false, .bl true])
      generalize upd J3 l3 (.lst [.non, .str "1/2", .ref t, .ref l1, .ref dd, .str zz, .bl false, .bl true]) = J4 at w4 c4 ⊢
      have B1 := B1.same w4
      have S16 := S15.trans w4
      have C1 := w4 _ _ C1
      have C2 := w4 _ _ C2
      have C3 := w4 _ _ c3
      clear hl3 w4 c3 S15
      refine for_list (K := K) (a := l3) (xs := [.non, .str "1/2", .ref t, .ref l1, .ref dd, .str zz, .bl false, .bl true]) (fun _ σ H9 => (∃ v10 v11 v12, σ = [some (.ref sc), some (.int (i : Int)), some (.ref b), some (.int by_), some (.int a), some (.int c), some (.int B), some (.int D), some (.ref p1), some (.ref p2), v10, v11, v12]) ∧ Same J4 H9) ⟨⟨_, _, _, rfl⟩, Same.refl _⟩ (fun _ _ H9 _ h => SqL.of (h.2 _ _ c4)) ?_ ?_
      · rintro k u σ H9 hk ⟨⟨v10, v11, v12, rfl⟩, s9⟩
        obtain ⟨U, o, ne⟩ : ∃ U, Oth K H9 u U ∧ U ≠ "int" := by
          have := List.mem_of_getElem? hk
          simp only [List.mem_cons, List.not_mem_nil, or_false] at this
          rcases this with e | e | e | e | e | e | e | e <;> subst e
          · exact ⟨_, .non, by decide⟩
          · exact ⟨_, .str _, by decide⟩
          · exact ⟨_, .tup (s9 _ _ C1), by decide⟩
          · exact ⟨_, .lst (s9 _ _ C2), by decide⟩
          · exact ⟨_, .dK (s9 _ _ C3), by decide⟩
          · exact ⟨_, .str _, by decide⟩
          · exact ⟨_, .bl _, by decide⟩
          · exact ⟨_, .bl _, by decide⟩
        refine ⟨_, rfl, _, rfl, p1, n1', d1, rfl, B1.rt.same s9, .inr ⟨U, o, ne, _, rfl, iteF ?_⟩⟩
        refine ⟨_, rfl, _, rfl, p1, n1', d1, rfl, B1.rt.same s9, .inr ⟨U, o, ne, _, rfl, iteF ?_⟩⟩
        refine ⟨_, rfl, _, rfl, p1, n1', d1, rfl, B1.rt.same s9, .inr ⟨U, o, ne, _, rfl, iteF ?_⟩⟩
        exact ⟨⟨_, _, _, rfl⟩, s9⟩
      rintro σ H10 ⟨⟨v10'', v11'', v12'', rfl⟩, s10⟩
      have B1 := B1.same s10
      have S17 := S16.trans s10
      clear S16 s10 c4 C1 C2 C3
      -- 1 and 0 as Ratios
      intro q1 e1 hq1 he1 nq1
      refine rd_at hq1 he1 nq1 rfl (by decide) (sm_lg sm1) fun L1 m1 k1 t1 r1 _ => ⟨rfl, ?_⟩
      intro q2 e2 hq2 he2 nq2
      refine rd_at hq2 he2 nq2 rfl (by decide) (sm_lg sm1) fun L2' m2 k2 t2 r2 _ => ⟨rfl, by show 2 ≤ sizeLine; decide, fun l4 hl4 => ⟨l4, rfl, ⟨_, SqL.of upd_same⟩, ?_⟩⟩
      have B1 := B1.same (t1.trans t2)
      have S18 := S17.trans (t1.trans t2)
      have r1 := r1.same t2
      clear hq1 he1 hq2 he2 t1 t2 S17
      refine for_list (K := K) (a := l4) (xs := [.ref q1, .ref q2]) (fun _ σ H9 => (∃ v10 v11 v12, σ = [some (.ref sc), some (.int (i : Int)), some (.ref b), some (.int by_), some (.int a), some (.int c), some (.int B), some (.int D), some (.ref p1), some (.ref p2), v10, v11, v12]) ∧ Same L2' H9 ∧ H9 l4 = some (.lst [.ref q1, .ref q2])) ⟨⟨_, _, _, rfl⟩, same_new hl4, upd_same⟩ (fun _ _ H9 _ h => SqL.of h.2.2) ?_ ?_
      · rintro k u σ H9 hk ⟨⟨v10, v11, v12, rfl⟩, s9, cl⟩
        obtain ⟨q, n, d, rfl, rq⟩ : ∃ q n d, u = .ref q ∧ Rt C H9 q n d := by
          have := List.mem_of_getElem? hk
          simp only [List.mem_cons, List.not_mem_nil, or_false] at this
          rcases this with e | e <;> subst e
          · exact ⟨_, _, _, rfl, r1.same s9⟩
          · exact ⟨_, _, _, rfl, r2.same s9⟩
        refine ⟨by show 2 ≤ sizeLine; decide, fun l5 hl5 => ?_⟩
        have w5 := same_new (o := .lst [.bl true, .bl false]) hl5
        have c5 := upd_same (H := H9) (a := l5) (o := .lst [.bl true, .bl false])
        refine ⟨l5, rfl, ⟨_, SqL.of c5⟩, fun DD hDD => lc_list (K := K) (a := l5) (xs := [.bl true, .bl false]) (fun _ H8 => H8 DD = some (.lst []) ∧ Same (upd H9 l5 (.lst [.bl true, .bl false])) H8) ⟨upd_same, same_new hDD⟩ (fun i H8 _ h => SqL.of (h.2 _ _ c5)) ?_ ?_⟩
        · rintro k2 x2 H8 hx ⟨hD8, s8⟩
          obtain ⟨bb, rfl⟩ : ∃ bb, x2 = .bl bb := by
            have := List.mem_of_getElem? hx
            simp only [List.mem_cons, List.not_mem_nil, or_false] at this
            rcases this with e | e <;> subst e <;> exact ⟨_, rfl⟩
          refine ⟨rfl, ?_⟩
          refine ⟨_, rfl, _, rfl, q, n, d, rfl, (rq.same w5).same s8, .inr ⟨"bool", .bl bb, by decide, _, rfl, iteF ?_⟩⟩
          refine ⟨_, rfl, _, rfl, q, n, d, rfl, (rq.same w5).same s8, .inr ⟨"bool", .bl bb, by decide, _, rfl, iteF ?_⟩⟩
          exact ⟨hD8, s8⟩
        · rintro H8 ⟨hD8, s8⟩
          refine ⟨Nat.zero_le _, fun q5 hq5 => ?_⟩
          have sq := same_new (o := .lst []) hq5
          refine ⟨_, _, .lst (SqL.of (sq _ _ hD8)) .nil, .lst (SqL.of upd_same) .nil, shaped_bools [], shaped_bools [], _, rfl, ?_⟩
          show if (!PyData.eqv (.list []) (.list [])) = true then _ else _
          rw [show PyData.eqv (.list []) (.list []) = true from eqv_boolsL []]
          have s9' := s9.trans ((w5.trans s8).trans sq)
          exact iteF ⟨⟨_, _, _, rfl⟩, s9', (w5.trans (s8.trans sq)) _ _ cl⟩
      rintro σ H11 ⟨⟨w10, w11, w12, rfl⟩, s11, _⟩
      have B1 := B1.same s11
      refine ⟨_, rfl, _, rfl, p1, a, n1', d1, rfl, B1.rt, B1.sn, B1.sd, fun H12 s12 => ⟨true, rfl, iteF ?_⟩⟩
      exact ⟨⟨_, _, _, _, _, _, _, _, _, _, _, _, rfl⟩, (S18.trans s11).trans s12⟩
    · rintro σ H1 ⟨⟨v1, v2, v3, v4, v5, v6, v7, v8, v9, v10, v11, v12, rfl⟩, s1⟩
      exact go _
end
end K02

set_option Elab.async false
set_option linter.all false
set_option maxRecDepth 100000
set_option maxHeartbeats 4000000
/-! The law over Ratios: what the top has written. -/
namespace K02
open PySem PySem.Spec PyProof.Rows L2 Vx Vr
/-- a def stands at f -/
def FnB (K : PySem.W.Frag) (x qual : Str) (st : Stmt) (f : Addr) (ps : List Str) : Prop := ∃ fd, L2.Fun K x qual st f fd ∧ Binds K fd ps []
theorem fb_t2 {K : PySem.W.Frag} {f : Addr} {oc kV doc pm cdv ct : Value} {od an : Option Addr} {osl : Array (Option Value)}
    (l : K.lookup f = some ⟨oc, od, .func (PySem.W.fnOf "is_whole" "is_whole" (defArgs (top 2)) (defBody (top 2)) (defScope (top 2)) .none kV doc pm an cdv ct), osl⟩) (c : PySem.W.codeIn K cdv "is_whole" = true) (k : PySem.W.keepIn K (.ref f) = true) : FnB K "is_whole" "is_whole" (top 2) f ["value"] :=
  ⟨_, fun_mk l c k, (fun_mk l c k).binds fun _ _ _ _ _ _ us hl => match us, hl with | [_], _ => rfl⟩
theorem fb_t8 {K : PySem.W.Frag} {f : Addr} {oc kV doc pm cdv ct : Value} {od an : Option Addr} {osl : Array (Option Value)}
    (l : K.lookup f = some ⟨oc, od, .func (PySem.W.fnOf "is_number" "is_number" (defArgs (top 8)) (defBody (top 8)) (defScope (top 8)) .none kV doc pm an cdv ct), osl⟩) (c : PySem.W.codeIn K cdv "is_number" = true) (k : PySem.W.keepIn K (.ref f) = true) : FnB K "is_number" "is_number" (top 8) f ["value"] :=
  ⟨_, fun_mk l c k, (fun_mk l c k).binds fun _ _ _ _ _ _ us hl => match us, hl with | [_], _ => rfl⟩
theorem fb_t9 {K : PySem.W.Frag} {f : Addr} {oc kV doc pm cdv ct : Value} {od an : Option Addr} {osl : Array (Option Value)}
    (l : K.lookup f = some ⟨oc, od, .func (PySem.W.fnOf "_parts" "_parts" (defArgs (top 9)) (defBody (top 9)) (defScope (top 9)) .none kV doc pm an cdv ct), osl⟩) (c : PySem.W.codeIn K cdv "_parts" = true) (k : PySem.W.keepIn K (.ref f) = true) : FnB K "_parts" "_parts" (top 9) f ["number"] :=
  ⟨_, fun_mk l c k, (fun_mk l c k).binds fun _ _ _ _ _ _ us hl => match us, hl with | [_], _ => rfl⟩
theorem fb_t11 {K : PySem.W.Frag} {f : Addr} {oc kV doc pm cdv ct : Value} {od an : Option Addr} {osl : Array (Option Value)}
    (l : K.lookup f = some ⟨oc, od, .func (PySem.W.fnOf "_law_cell" "_law_cell" (defArgs (top 11)) (defBody (top 11)) (defScope (top 11)) .none kV doc pm an cdv ct), osl⟩) (c : PySem.W.codeIn K cdv "_law_cell" = true) (k : PySem.W.keepIn K (.ref f) = true) : FnB K "_law_cell" "_law_cell" (top 11) f ["_law_script", "_law_k"] :=
  ⟨_, fun_mk l c k, (fun_mk l c k).binds fun _ _ _ _ _ _ us hl => match us, hl with | [_, _], _ => rfl⟩
theorem fb_t12 {K : PySem.W.Frag} {f : Addr} {oc kV doc pm cdv ct : Value} {od an : Option Addr} {osl : Array (Option Value)}
    (l : K.lookup f = some ⟨oc, od, .func (PySem.W.fnOf "_law_box" "_law_box" (defArgs (top 12)) (defBody (top 12)) (defScope (top 12)) .none kV doc pm an cdv ct), osl⟩) (c : PySem.W.codeIn K cdv "_law_box" = true) (k : PySem.W.keepIn K (.ref f) = true) : FnB K "_law_box" "_law_box" (top 12) f ["_law_cell_here"] :=
  ⟨_, fun_mk l c k, (fun_mk l c k).binds fun _ _ _ _ _ _ us hl => match us, hl with | [_], _ => rfl⟩
theorem fb_t13 {K : PySem.W.Frag} {f : Addr} {oc kV doc pm cdv ct : Value} {od an : Option Addr} {osl : Array (Option Value)}
    (l : K.lookup f = some ⟨oc, od, .func (PySem.W.fnOf "_law_take" "_law_take" (defArgs (top 13)) (defBody (top 13)) (defScope (top 13)) .none kV doc pm an cdv ct), osl⟩) (c : PySem.W.codeIn K cdv "_law_take" = true) (k : PySem.W.keepIn K (.ref f) = true) : FnB K "_law_take" "_law_take" (top 13) f ["_law_box_here", "_law_many"] :=
  ⟨_, fun_mk l c k, (fun_mk l c k).binds fun _ _ _ _ _ _ us hl => match us, hl with | [_, _], _ => rfl⟩
theorem fb_t14 {K : PySem.W.Frag} {f : Addr} {oc kV doc pm cdv ct : Value} {od an : Option Addr} {osl : Array (Option Value)}
    (l : K.lookup f = some ⟨oc, od, .func (PySem.W.fnOf "_law_integer" "_law_integer" (defArgs (top 14)) (defBody (top 14)) (defScope (top 14)) .none kV doc pm an cdv ct), osl⟩) (c : PySem.W.codeIn K cdv "_law_integer" = true) (k : PySem.W.keepIn K (.ref f) = true) : FnB K "_law_integer" "_law_integer" (top 14) f ["_law_box_here"] :=
  ⟨_, fun_mk l c k, (fun_mk l c k).binds fun _ _ _ _ _ _ us hl => match us, hl with | [_], _ => rfl⟩
theorem fb_t15 {K : PySem.W.Frag} {f : Addr} {oc kV doc pm cdv ct : Value} {od an : Option Addr} {osl : Array (Option Value)}
    (l : K.lookup f = some ⟨oc, od, .func (PySem.W.fnOf "_law_common" "_law_common" (defArgs (top 15)) (defBody (top 15)) (defScope (top 15)) .none kV doc pm an cdv ct), osl⟩) (c : PySem.W.codeIn K cdv "_law_common" = true) (k : PySem.W.keepIn K (.ref f) = true) : FnB K "_law_common" "_law_common" (top 15) f ["_law_one", "_law_other"] :=
  ⟨_, fun_mk l c k, (fun_mk l c k).binds fun _ _ _ _ _ _ us hl => match us, hl with | [_, _], _ => rfl⟩
theorem fb_t16 {K : PySem.W.Frag} {f : Addr} {oc kV doc pm cdv ct : Value} {od an : Option Addr} {osl : Array (Option Value)}
    (l : K.lookup f = some ⟨oc, od, .func (PySem.W.fnOf "_law_is" "_law_is" (defArgs (top 16)) (defBody (top 16)) (defScope (top 16)) .none kV doc pm an cdv ct), osl⟩) (c : PySem.W.codeIn K cdv "_law_is" = true) (k : PySem.W.keepIn K (.ref f) = true) : FnB K "_law_is" "_law_is" (top 16) f ["_law_ratio", "_law_top", "_law_under"] :=
  ⟨_, fun_mk l c k, (fun_mk l c k).binds fun _ _ _ _ _ _ us hl => match us, hl with | [_, _, _], _ => rfl⟩
theorem fb_t17 {K : PySem.W.Frag} {f : Addr} {oc kV doc pm cdv ct : Value} {od an : Option Addr} {osl : Array (Option Value)}
    (l : K.lookup f = some ⟨oc, od, .func (PySem.W.fnOf "_law_no_quotient" "_law_no_quotient" (defArgs (top 17)) (defBody (top 17)) (defScope (top 17)) .none kV doc pm an cdv ct), osl⟩) (c : PySem.W.codeIn K cdv "_law_no_quotient" = true) (k : PySem.W.keepIn K (.ref f) = true) : FnB K "_law_no_quotient" "_law_no_quotient" (top 17) f ["_law_top", "_law_ratio"] :=
  ⟨_, fun_mk l c k, (fun_mk l c k).binds fun _ _ _ _ _ _ us hl => match us, hl with | [_, _], _ => rfl⟩
theorem fb_t18 {K : PySem.W.Frag} {f : Addr} {oc kV doc pm cdv ct : Value} {od an : Option Addr} {osl : Array (Option Value)}
    (l : K.lookup f = some ⟨oc, od, .func (PySem.W.fnOf "_law_two_right" "_law_two_right" (defArgs (top 18)) (defBody (top 18)) (defScope (top 18)) .none kV doc pm an cdv ct), osl⟩) (c : PySem.W.codeIn K cdv "_law_two_right" = true) (k : PySem.W.keepIn K (.ref f) = true) : FnB K "_law_two_right" "_law_two_right" (top 18) f ["_law_one", "_law_other", "_law_a", "_law_b", "_law_c", "_law_d"] :=
  ⟨_, fun_mk l c k, (fun_mk l c k).binds fun _ _ _ _ _ _ us hl => match us, hl with | [_, _, _, _, _, _], _ => rfl⟩
theorem fb_t19 {K : PySem.W.Frag} {f : Addr} {oc kV doc pm cdv ct : Value} {od an : Option Addr} {osl : Array (Option Value)}
    (l : K.lookup f = some ⟨oc, od, .func (PySem.W.fnOf "_law_integers_right" "_law_integers_right" (defArgs (top 19)) (defBody (top 19)) (defScope (top 19)) .none kV doc pm an cdv ct), osl⟩) (c : PySem.W.codeIn K cdv "_law_integers_right" = true) (k : PySem.W.keepIn K (.ref f) = true) : FnB K "_law_integers_right" "_law_integers_right" (top 19) f ["_law_one", "_law_a", "_law_b", "_law_number"] :=
  ⟨_, fun_mk l c k, (fun_mk l c k).binds fun _ _ _ _ _ _ us hl => match us, hl with | [_, _, _, _], _ => rfl⟩
theorem fb_t20 {K : PySem.W.Frag} {f : Addr} {oc kV doc pm cdv ct : Value} {od an : Option Addr} {osl : Array (Option Value)}
    (l : K.lookup f = some ⟨oc, od, .func (PySem.W.fnOf "law" "law" (defArgs (top 20)) (defBody (top 20)) (defScope (top 20)) .none kV doc pm an cdv ct), osl⟩) (c : PySem.W.codeIn K cdv "law" = true) (k : PySem.W.keepIn K (.ref f) = true) : FnB K "law" "law" (top 20) f ["_law_script"] :=
  ⟨_, fun_mk l c k, (fun_mk l c k).binds fun _ _ _ _ _ _ us hl => match us, hl with | [_], _ => rfl⟩
theorem fb_m3 {K : PySem.W.Frag} {f : Addr} {oc kV doc pm cdv ct : Value} {od an : Option Addr} {osl : Array (Option Value)}
    (l : K.lookup f = some ⟨oc, od, .func (PySem.W.fnOf "__add__" "Ratio.__add__" (defArgs (mth 3)) (defBody (mth 3)) (defScope (mth 3)) .none kV doc pm an cdv ct), osl⟩) (c : PySem.W.codeIn K cdv "Ratio.__add__" = true) (k : PySem.W.keepIn K (.ref f) = true) : FnB K "__add__" "Ratio.__add__" (mth 3) f ["self", "other"] :=
  ⟨_, fun_mk l c k, (fun_mk l c k).binds fun _ _ _ _ _ _ us hl => match us, hl with | [_, _], _ => rfl⟩
theorem fb_m4 {K : PySem.W.Frag} {f : Addr} {oc kV doc pm cdv ct : Value} {od an : Option Addr} {osl : Array (Option Value)}
    (l : K.lookup f = some ⟨oc, od, .func (PySem.W.fnOf "__radd__" "Ratio.__radd__" (defArgs (mth 4)) (defBody (mth 4)) (defScope (mth 4)) .none kV doc pm an cdv ct), osl⟩) (c : PySem.W.codeIn K cdv "Ratio.__radd__" = true) (k : PySem.W.keepIn K (.ref f) = true) : FnB K "__radd__" "Ratio.__radd__" (mth 4) f ["self", "other"] :=
  ⟨_, fun_mk l c k, (fun_mk l c k).binds fun _ _ _ _ _ _ us hl => match us, hl with | [_, _], _ => rfl⟩
theorem fb_m5 {K : PySem.W.Frag} {f : Addr} {oc kV doc pm cdv ct : Value} {od an : Option Addr} {osl : Array (Option Value)}
    (l : K.lookup f = some ⟨oc, od, .func (PySem.W.fnOf "__sub__" "Ratio.__sub__" (defArgs (mth 5)) (defBody (mth 5)) (defScope (mth 5)) .none kV doc pm an cdv ct), osl⟩) (c : PySem.W.codeIn K cdv "Ratio.__sub__" = true) (k : PySem.W.keepIn K (.ref f) = true) : FnB K "__sub__" "Ratio.__sub__" (mth 5) f ["self", "other"] :=
  ⟨_, fun_mk l c k, (fun_mk l c k).binds fun _ _ _ _ _ _ us hl => match us, hl with | [_, _], _ => rfl⟩
theorem fb_m6 {K : PySem.W.Frag} {f : Addr} {oc kV doc pm cdv ct : Value} {od an : Option Addr} {osl : Array (Option Value)}
    (l : K.lookup f = some ⟨oc, od, .func (PySem.W.fnOf "__rsub__" "Ratio.__rsub__" (defArgs (mth 6)) (defBody (mth 6)) (defScope (mth 6)) .none kV doc pm an cdv ct), osl⟩) (c : PySem.W.codeIn K cdv "Ratio.__rsub__" = true) (k : PySem.W.keepIn K (.ref f) = true) : FnB K "__rsub__" "Ratio.__rsub__" (mth 6) f ["self", "other"] :=
  ⟨_, fun_mk l c k, (fun_mk l c k).binds fun _ _ _ _ _ _ us hl => match us, hl with | [_, _], _ => rfl⟩
theorem fb_m7 {K : PySem.W.Frag} {f : Addr} {oc kV doc pm cdv ct : Value} {od an : Option Addr} {osl : Array (Option Value)}
    (l : K.lookup f = some ⟨oc, od, .func (PySem.W.fnOf "__mul__" "Ratio.__mul__" (defArgs (mth 7)) (defBody (mth 7)) (defScope (mth 7)) .none kV doc pm an cdv ct), osl⟩) (c : PySem.W.codeIn K cdv "Ratio.__mul__" = true) (k : PySem.W.keepIn K (.ref f) = true) : FnB K "__mul__" "Ratio.__mul__" (mth 7) f ["self", "other"] :=
  ⟨_, fun_mk l c k, (fun_mk l c k).binds fun _ _ _ _ _ _ us hl => match us, hl with | [_, _], _ => rfl⟩
theorem fb_m8 {K : PySem.W.Frag} {f : Addr} {oc kV doc pm cdv ct : Value} {od an : Option Addr} {osl : Array (Option Value)}
    (l : K.lookup f = some ⟨oc, od, .func (PySem.W.fnOf "__rmul__" "Ratio.__rmul__" (defArgs (mth 8)) (defBody (mth 8)) (defScope (mth 8)) .none kV doc pm an cdv ct), osl⟩) (c : PySem.W.codeIn K cdv "Ratio.__rmul__" = true) (k : PySem.W.keepIn K (.ref f) = true) : FnB K "__rmul__" "Ratio.__rmul__" (mth 8) f ["self", "other"] :=
  ⟨_, fun_mk l c k, (fun_mk l c k).binds fun _ _ _ _ _ _ us hl => match us, hl with | [_, _], _ => rfl⟩
theorem fb_m9 {K : PySem.W.Frag} {f : Addr} {oc kV doc pm cdv ct : Value} {od an : Option Addr} {osl : Array (Option Value)}
    (l : K.lookup f = some ⟨oc, od, .func (PySem.W.fnOf "__neg__" "Ratio.__neg__" (defArgs (mth 9)) (defBody (mth 9)) (defScope (mth 9)) .none kV doc pm an cdv ct), osl⟩) (c : PySem.W.codeIn K cdv "Ratio.__neg__" = true) (k : PySem.W.keepIn K (.ref f) = true) : FnB K "__neg__" "Ratio.__neg__" (mth 9) f ["self"] :=
  ⟨_, fun_mk l c k, (fun_mk l c k).binds fun _ _ _ _ _ _ us hl => match us, hl with | [_], _ => rfl⟩
theorem fb_m10 {K : PySem.W.Frag} {f : Addr} {oc kV doc pm cdv ct : Value} {od an : Option Addr} {osl : Array (Option Value)}
    (l : K.lookup f = some ⟨oc, od, .func (PySem.W.fnOf "__eq__" "Ratio.__eq__" (defArgs (mth 10)) (defBody (mth 10)) (defScope (mth 10)) .none kV doc pm an cdv ct), osl⟩) (c : PySem.W.codeIn K cdv "Ratio.__eq__" = true) (k : PySem.W.keepIn K (.ref f) = true) : FnB K "__eq__" "Ratio.__eq__" (mth 10) f ["self", "other"] :=
  ⟨_, fun_mk l c k, (fun_mk l c k).binds fun _ _ _ _ _ _ us hl => match us, hl with | [_, _], _ => rfl⟩
theorem fb_m11 {K : PySem.W.Frag} {f : Addr} {oc kV doc pm cdv ct : Value} {od an : Option Addr} {osl : Array (Option Value)}
    (l : K.lookup f = some ⟨oc, od, .func (PySem.W.fnOf "__str__" "Ratio.__str__" (defArgs (mth 11)) (defBody (mth 11)) (defScope (mth 11)) .none kV doc pm an cdv ct), osl⟩) (c : PySem.W.codeIn K cdv "Ratio.__str__" = true) (k : PySem.W.keepIn K (.ref f) = true) : FnB K "__str__" "Ratio.__str__" (mth 11) f ["self"] :=
  ⟨_, fun_mk l c k, (fun_mk l c k).binds fun _ _ _ _ _ _ us hl => match us, hl with | [_], _ => rfl⟩
theorem fb_m12 {K : PySem.W.Frag} {f : Addr} {oc kV doc pm cdv ct : Value} {od an : Option Addr} {osl : Array (Option Value)}
    (l : K.lookup f = some ⟨oc, od, .func (PySem.W.fnOf "over" "Ratio.over" (defArgs (mth 12)) (defBody (mth 12)) (defScope (mth 12)) .none kV doc pm an cdv ct), osl⟩) (c : PySem.W.codeIn K cdv "Ratio.over" = true) (k : PySem.W.keepIn K (.ref f) = true) : FnB K "over" "Ratio.over" (mth 12) f ["self", "number"] :=
  ⟨_, fun_mk l c k, (fun_mk l c k).binds fun _ _ _ _ _ _ us hl => match us, hl with | [_, _], _ => rfl⟩
theorem fb_m13 {K : PySem.W.Frag} {f : Addr} {oc kV doc pm cdv ct : Value} {od an : Option Addr} {osl : Array (Option Value)}
    (l : K.lookup f = some ⟨oc, od, .func (PySem.W.fnOf "below" "Ratio.below" (defArgs (mth 13)) (defBody (mth 13)) (defScope (mth 13)) .none kV doc pm an cdv ct), osl⟩) (c : PySem.W.codeIn K cdv "Ratio.below" = true) (k : PySem.W.keepIn K (.ref f) = true) : FnB K "below" "Ratio.below" (mth 13) f ["self", "number"] :=
  ⟨_, fun_mk l c k, (fun_mk l c k).binds fun _ _ _ _ _ _ us hl => match us, hl with | [_, _], _ => rfl⟩
theorem fb_m14 {K : PySem.W.Frag} {f : Addr} {oc kV doc pm cdv ct : Value} {od an : Option Addr} {osl : Array (Option Value)}
    (l : K.lookup f = some ⟨oc, od, .func (PySem.W.fnOf "text" "Ratio.text" (defArgs (mth 14)) (defBody (mth 14)) (defScope (mth 14)) .none kV doc pm an cdv ct), osl⟩) (c : PySem.W.codeIn K cdv "Ratio.text" = true) (k : PySem.W.keepIn K (.ref f) = true) : FnB K "text" "Ratio.text" (mth 14) f ["self"] :=
  ⟨_, fun_mk l c k, (fun_mk l c k).binds fun _ _ _ _ _ _ us hl => match us, hl with | [_], _ => rfl⟩
theorem fb_m1 {K : PySem.W.Frag} {f : Addr} {oc kV doc pm cdv ct : Value} {od an : Option Addr} {osl : Array (Option Value)}
    (l : K.lookup f = some ⟨oc, od, .func (PySem.W.fnOf "top" "Ratio.top" (defArgs (mth 1)) (defBody (mth 1)) (defScope (mth 1)) .none kV doc pm an cdv ct), osl⟩) (c : PySem.W.codeIn K cdv "Ratio.top" = true) (k : PySem.W.keepIn K (.ref f) = true) : FnB K "top" "Ratio.top" (mth 1) f ["self"] :=
  ⟨_, fun_mk l c k, (fun_mk l c k).binds fun _ _ _ _ _ _ us hl => match us, hl with | [_], _ => rfl⟩
theorem fb_m2 {K : PySem.W.Frag} {f : Addr} {oc kV doc pm cdv ct : Value} {od an : Option Addr} {osl : Array (Option Value)}
    (l : K.lookup f = some ⟨oc, od, .func (PySem.W.fnOf "bottom" "Ratio.bottom" (defArgs (mth 2)) (defBody (mth 2)) (defScope (mth 2)) .none kV doc pm an cdv ct), osl⟩) (c : PySem.W.codeIn K cdv "Ratio.bottom" = true) (k : PySem.W.keepIn K (.ref f) = true) : FnB K "bottom" "Ratio.bottom" (mth 2) f ["self"] :=
  ⟨_, fun_mk l c k, (fun_mk l c k).binds fun _ _ _ _ _ _ us hl => match us, hl with | [_], _ => rfl⟩
/-- __init__ with its default -/
def FnI (K : PySem.W.Frag) (f : Addr) : Prop := ∃ fd, FunD K "__init__" "Ratio.__init__" (defArgs (mth 0)) (defBody (mth 0)) (defScope (mth 0)) [.int 1] [] f fd
theorem fi_mk {K : PySem.W.Frag} {f T : Addr} {oc kV doc pm cdv ct : Value} {od an : Option Addr} {osl : Array (Option Value)} {o : Obj} {t : Tok} {n : Nat}
    (l : K.lookup f = some ⟨oc, od, .func (PySem.W.fnOf "__init__" "Ratio.__init__" (defArgs (mth 0)) (defBody (mth 0)) (defScope (mth 0)) (.ref T) kV doc pm an cdv ct), osl⟩) (c : PySem.W.codeIn K cdv "Ratio.__init__" = true) (k : PySem.W.keepIn K (.ref f) = true)
    (lT : K.lookup T = some o) (oT : o.data = .seq #[.int 1 t] n) : FnI K f :=
  ⟨_, ⟨⟨oc, od, .ref T, kV, doc, pm, an, cdv, ct, osl, rfl, l, c, .inr ⟨by simp, T, o, [.int 1 t], n, rfl, lT, oT, .cons ⟨t, rfl⟩ .nil⟩, .inl rfl⟩, k⟩⟩
theorem init_binds {K : PySem.W.Frag} {f : Addr} {fd : FuncData} (F : FunD K "__init__" "Ratio.__init__" (defArgs (mth 0)) (defBody (mth 0)) (defScope (mth 0)) [.int 1] [] f fd) : Binds K fd ["self", "top", "bottom"] [] := by
  obtain ⟨ds, r, b⟩ := F.binds1 (ps := ["self", "top", "bottom"]) 3 1 (by simp) rfl fun T kV doc pm an cdv ct us its hu hi => match us, its, hu, hi with | [_, _, _], [_], _, _ => ⟨_, rfl, rfl⟩
  cases r
  exact b
theorem init_binds1 {K : PySem.W.Frag} {f : Addr} {fd : FuncData} (F : FunD K "__init__" "Ratio.__init__" (defArgs (mth 0)) (defBody (mth 0)) (defScope (mth 0)) [.int 1] [] f fd) : ∃ u, RelV (.int 1) u ∧ Binds K fd ["self", "top", "bottom"] [u] := by
  obtain ⟨ds, r, b⟩ := F.binds1 (ps := ["self", "top", "bottom"]) 2 0 (by simp) rfl fun T kV doc pm an cdv ct us its hu hi => match us, its, hu, hi with | [_, _], [_], _, _ => ⟨_, rfl, rfl⟩
  cases r with
  | cons r1 r2 =>
    cases r2
    exact ⟨_, r1, b⟩
theorem init_kb {K : PySem.W.Frag} {f : Addr} {fd : FuncData} (F : FunD K "__init__" "Ratio.__init__" (defArgs (mth 0)) (defBody (mth 0)) (defScope (mth 0)) [.int 1] [] f fd) :
    ∃ g : List Value → List Value → List Value, KBn K fd ["self", "top", "bottom"] 2 ["bottom"] g (fun vs zs => vs ++ zs) := by
  obtain ⟨its, b⟩ := F.kbindsD (ps := ["self", "top", "bottom"]) 2 ["bottom"] (fun us _ zs => us ++ zs) (by simp) (fun r1 _ r3 => r1.append r3)
    fun T kV doc pm an cdv ct us its ws hu hi hw => match us, its, ws, hu, hi, hw with | [_, _], [_], [_], _, _, _ => ⟨_, rfl, rfl⟩
  exact ⟨_, b⟩
theorem all_mk {l : PySem.W.OpenLaw} {w : World} {K : PySem.W.Frag} {h : Heap} {mg : Str → Option Value} {fa C B D p1 p2 : Addr} {cd : ClassData} {rest1 rest2 : List Value} (X : K.In h) (G : h.Ns mainGlobals mg) (hfa : mg "law" = some (.ref fa))
    {t2 t8 t9 t11 t12 t13 t14 t15 t16 t17 t18 t19 t20 m0 m1 m2 m3 m4 m5 m6 m7 m8 m9 m10 m11 m12 m13 m14 : Addr} {w0 w1 w2 w3 w4 w5 : Option Value}
    (aC : PySem.W.nsIn K mainGlobals "Ratio" = some (some (.ref C)))
    (aB : PySem.W.nsIn K mainGlobals "ByZero" = some (some (.ref B)))
    (aD : PySem.W.nsIn K mainGlobals "DrawError" = some (some (.ref D)))
    (at2 : PySem.W.nsIn K mainGlobals "is_whole" = some (some (.ref t2)))
    (kt2 : PySem.W.keepIn K (.ref t2) = true)
    (ft2 : FnB K "is_whole" "is_whole" (top 2) t2 ["value"])
    (at8 : PySem.W.nsIn K mainGlobals "is_number" = some (some (.ref t8)))
    (kt8 : PySem.W.keepIn K (.ref t8) = true)
    (ft8 : FnB K "is_number" "is_number" (top 8) t8 ["value"])
    (at9 : PySem.W.nsIn K mainGlobals "_parts" = some (some (.ref t9)))
    (kt9 : PySem.W.keepIn K (.ref t9) = true)
    (ft9 : FnB K "_parts" "_parts" (top 9) t9 ["number"])
    (at11 : PySem.W.nsIn K mainGlobals "_law_cell" = some (some (.ref t11)))
    (kt11 : PySem.W.keepIn K (.ref t11) = true)
    (ft11 : FnB K "_law_cell" "_law_cell" (top 11) t11 ["_law_script", "_law_k"])
    (at12 : PySem.W.nsIn K mainGlobals "_law_box" = some (some (.ref t12)))
    (kt12 : PySem.W.keepIn K (.ref t12) = true)
    (ft12 : FnB K "_law_box" "_law_box" (top 12) t12 ["_law_cell_here"])
    (at13 : PySem.W.nsIn K mainGlobals "_law_take" = some (some (.ref t13)))
    (kt13 : PySem.W.keepIn K (.ref t13) = true)
    (ft13 : FnB K "_law_take" "_law_take" (top 13) t13 ["_law_box_here", "_law_many"])
    (at14 : PySem.W.nsIn K mainGlobals "_law_integer" = some (some (.ref t14)))
    (kt14 : PySem.W.keepIn K (.ref t14) = true)
    (ft14 : FnB K "_law_integer" "_law_integer" (top 14) t14 ["_law_box_here"])
    (at15 : PySem.W.nsIn K mainGlobals "_law_common" = some (some (.ref t15)))
    (kt15 : PySem.W.keepIn K (.ref t15) = true)
    (ft15 : FnB K "_law_common" "_law_common" (top 15) t15 ["_law_one", "_law_other"])
    (at16 : PySem.W.nsIn K mainGlobals "_law_is" = some (some (.ref t16)))
    (kt16 : PySem.W.keepIn K (.ref t16) = true)
    (ft16 : FnB K "_law_is" "_law_is" (top 16) t16 ["_law_ratio", "_law_top", "_law_under"])
    (at17 : PySem.W.nsIn K mainGlobals "_law_no_quotient" = some (some (.ref t17)))
    (kt17 : PySem.W.keepIn K (.ref t17) = true)
    (ft17 : FnB K "_law_no_quotient" "_law_no_quotient" (top 17) t17 ["_law_top", "_law_ratio"])
    (at18 : PySem.W.nsIn K mainGlobals "_law_two_right" = some (some (.ref t18)))
    (kt18 : PySem.W.keepIn K (.ref t18) = true)
    (ft18 : FnB K "_law_two_right" "_law_two_right" (top 18) t18 ["_law_one", "_law_other", "_law_a", "_law_b", "_law_c", "_law_d"])
    (at19 : PySem.W.nsIn K mainGlobals "_law_integers_right" = some (some (.ref t19)))
    (kt19 : PySem.W.keepIn K (.ref t19) = true)
    (ft19 : FnB K "_law_integers_right" "_law_integers_right" (top 19) t19 ["_law_one", "_law_a", "_law_b", "_law_number"])
    (at20 : PySem.W.nsIn K mainGlobals "law" = some (some (.ref t20)))
    (kt20 : PySem.W.keepIn K (.ref t20) = true)
    (ft20 : FnB K "law" "law" (top 20) t20 ["_law_script"])
    (am3 : PySem.W.findIn K (.ref C) "__add__" = some (some (.ref m3)))
    (im3 : PySem.W.isFn K (.ref m3) = true)
    (km3 : PySem.W.keepIn K (.ref m3) = true)
    (fm3 : FnB K "__add__" "Ratio.__add__" (mth 3) m3 ["self", "other"])
    (am4 : PySem.W.findIn K (.ref C) "__radd__" = some (some (.ref m4)))
    (im4 : PySem.W.isFn K (.ref m4) = true)
    (km4 : PySem.W.keepIn K (.ref m4) = true)
    (fm4 : FnB K "__radd__" "Ratio.__radd__" (mth 4) m4 ["self", "other"])
    (am5 : PySem.W.findIn K (.ref C) "__sub__" = some (some (.ref m5)))
    (im5 : PySem.W.isFn K (.ref m5) = true)
    (km5 : PySem.W.keepIn K (.ref m5) = true)
    (fm5 : FnB K "__sub__" "Ratio.__sub__" (mth 5) m5 ["self", "other"])
    (am6 : PySem.W.findIn K (.ref C) "__rsub__" = some (some (.ref m6)))
    (im6 : PySem.W.isFn K (.ref m6) = true)
    (km6 : PySem.W.keepIn K (.ref m6) = true)
    (fm6 : FnB K "__rsub__" "Ratio.__rsub__" (mth 6) m6 ["self", "other"])
    (am7 : PySem.W.findIn K (.ref C) "__mul__" = some (some (.ref m7)))
    (im7 : PySem.W.isFn K (.ref m7) = true)
    (km7 : PySem.W.keepIn K (.ref m7) = true)
    (fm7 : FnB K "__mul__" "Ratio.__mul__" (mth 7) m7 ["self", "other"])
    (am8 : PySem.W.findIn K (.ref C) "__rmul__" = some (some (.ref m8)))
    (im8 : PySem.W.isFn K (.ref m8) = true)
    (km8 : PySem.W.keepIn K (.ref m8) = true)
    (fm8 : FnB K "__rmul__" "Ratio.__rmul__" (mth 8) m8 ["self", "other"])
    (am9 : PySem.W.findIn K (.ref C) "__neg__" = some (some (.ref m9)))
    (im9 : PySem.W.isFn K (.ref m9) = true)
    (km9 : PySem.W.keepIn K (.ref m9) = true)
    (fm9 : FnB K "__neg__" "Ratio.__neg__" (mth 9) m9 ["self"])
    (am10 : PySem.W.findIn K (.ref C) "__eq__" = some (some (.ref m10)))
    (im10 : PySem.W.isFn K (.ref m10) = true)
    (km10 : PySem.W.keepIn K (.ref m10) = true)
    (fm10 : FnB K "__eq__" "Ratio.__eq__" (mth 10) m10 ["self", "other"])
    (am11 : PySem.W.findIn K (.ref C) "__str__" = some (some (.ref m11)))
    (im11 : PySem.W.isFn K (.ref m11) = true)
    (km11 : PySem.W.keepIn K (.ref m11) = true)
    (fm11 : FnB K "__str__" "Ratio.__str__" (mth 11) m11 ["self"])
    (am12 : PySem.W.findIn K (.ref C) "over" = some (some (.ref m12)))
    (im12 : PySem.W.isFn K (.ref m12) = true)
    (km12 : PySem.W.keepIn K (.ref m12) = true)
    (fm12 : FnB K "over" "Ratio.over" (mth 12) m12 ["self", "number"])
    (am13 : PySem.W.findIn K (.ref C) "below" = some (some (.ref m13)))
    (im13 : PySem.W.isFn K (.ref m13) = true)
    (km13 : PySem.W.keepIn K (.ref m13) = true)
    (fm13 : FnB K "below" "Ratio.below" (mth 13) m13 ["self", "number"])
    (am14 : PySem.W.findIn K (.ref C) "text" = some (some (.ref m14)))
    (im14 : PySem.W.isFn K (.ref m14) = true)
    (km14 : PySem.W.keepIn K (.ref m14) = true)
    (fm14 : FnB K "text" "Ratio.text" (mth 14) m14 ["self"])
    (pa1 : PySem.W.findIn K (.ref C) "top" = some (some (.ref p1)))
    (pg1 : PySem.W.specialIn K (.ref p1) "__get__" = some (some (.builtin "property.__get__")))
    (pt1 : PySem.W.takesIn K (.ref p1) = some true)
    (pr1 : PySem.W.recIn K p1 "property" = some (.ref m1 :: rest1))
    (fm1 : FnB K "top" "Ratio.top" (mth 1) m1 ["self"])
    (pa2 : PySem.W.findIn K (.ref C) "bottom" = some (some (.ref p2)))
    (pg2 : PySem.W.specialIn K (.ref p2) "__get__" = some (some (.builtin "property.__get__")))
    (pt2 : PySem.W.takesIn K (.ref p2) = some true)
    (pr2 : PySem.W.recIn K p2 "property" = some (.ref m2 :: rest2))
    (fm2 : FnB K "bottom" "Ratio.bottom" (mth 2) m2 ["self"])
    (ai : PySem.W.findIn K (.ref C) "__init__" = some (some (.ref m0)))
    (ii : PySem.W.isFn K (.ref m0) = true)
    (fi : FnI K m0)
    (mks : PySem.W.makesIn K C = true)
    (kC : PySem.W.keepIn K (.ref C) = true)
    (cpg : PySem.W.plainGet K C Str.empty = true)
    (chd : PySem.W.hasDictIn K C = true)
    (cpo : PySem.W.plainOver K C = true)
    (csa : PySem.W.findIn K (.ref C) "__setattr__" = some (some (.builtin "object.__setattr__")))
    (csf : PySem.W.selfFirst K C = true)
    (cob : PySem.W.mroIn K C (.type "object") = some true)
    (noT : PySem.W.findIn K (.ref C) "_top" = some none)
    (noB : PySem.W.findIn K (.ref C) "_bottom" = some none)
    (ha : PySem.W.findIn K (.ref C) "__class__" = some (some (.builtin "object.__class__")))
    (hn : PySem.W.specialIn K (.builtin "object.__class__") "__get__" = some (some (.builtin "getset_descriptor.__get__")))
    (htk : PySem.W.takesIn K (.builtin "object.__class__") = some true)
    (one : PySem.W.kitOne K (.ref C) (.ref C) = some true)
    (ne : PySem.W.findIn K (.ref C) "__ne__" = some (some (.builtin "object.__ne__")))
    (cdl : PySem.W.clsIn K C = some cd)
    (cdm : cd.mro = [.ref C, .type "object"])
    (ia : PySem.W.findIn K (.ref C) "__iadd__" = some none)
    (is_ : PySem.W.findIn K (.ref C) "__isub__" = some none)
    (im_ : PySem.W.findIn K (.ref C) "__imul__" = some none)
    (isb : PySem.W.subIn K (.type "int") (.ref C) = some false)
    (xB : PySem.W.excIn K B [.type "ValueError", .type "Exception", .type "BaseException", .type "object"] "ValueError.__new__" = true)
    (kB : PySem.W.keepIn K (.ref B) = true)
    (bB : PySem.W.subIn K (.ref B) (.type "BaseException") = some true)
    (tB : PySem.W.typeIn K (.ref B) = some (.type "type"))
    (eB : PySem.W.exmOne K (.ref B) (.ref B) = some true)
    (eg : PySem.W.findIn K (.ref B) "__getattribute__" = some (some (.builtin "BaseException.__getattribute__")))
    (ek : PySem.W.findIn K (.ref B) "__getattr__" = some none)
    (ed : PySem.W.hasDictIn K B = true)
    (ea : PySem.W.findIn K (.ref B) "__class__" = some (some (.builtin "object.__class__")))
    (em : PySem.W.mroIn K B (.type "object") = some true)
    (eo : PySem.W.kitOne K (.ref B) (.ref D) = some true)
    (fo0 : PySem.W.mroIn K C (.type "NoneType") = some false)
    (fn0 : PySem.W.notFirst K C (.type "NoneType") = true)
    (fk0 : PySem.W.kitOne K (.type "NoneType") (.ref C) = some false)
    (fo1 : PySem.W.mroIn K C (.type "bool") = some false)
    (fn1 : PySem.W.notFirst K C (.type "bool") = true)
    (fk1 : PySem.W.kitOne K (.type "bool") (.ref C) = some false)
    (fo2 : PySem.W.mroIn K C (.type "int") = some false)
    (fn2 : PySem.W.notFirst K C (.type "int") = true)
    (fk2 : PySem.W.kitOne K (.type "int") (.ref C) = some false)
    (fo3 : PySem.W.mroIn K C (.type "str") = some false)
    (fn3 : PySem.W.notFirst K C (.type "str") = true)
    (fk3 : PySem.W.kitOne K (.type "str") (.ref C) = some false)
    (fo4 : PySem.W.mroIn K C (.type "list") = some false)
    (fn4 : PySem.W.notFirst K C (.type "list") = true)
    (fk4 : PySem.W.kitOne K (.type "list") (.ref C) = some false)
    (fo5 : PySem.W.mroIn K C (.type "tuple") = some false)
    (fn5 : PySem.W.notFirst K C (.type "tuple") = true)
    (fk5 : PySem.W.kitOne K (.type "tuple") (.ref C) = some false)
    (fo6 : PySem.W.mroIn K C (.type "dict") = some false)
    (fn6 : PySem.W.notFirst K C (.type "dict") = true)
    (fk6 : PySem.W.kitOne K (.type "dict") (.ref C) = some false)
    (z0 : PySem.W.findIn K (.type "int") "__add__" = some w0)
    (z1 : PySem.W.findIn K (.type "int") "__radd__" = some w1)
    (z2 : PySem.W.findIn K (.type "int") "__sub__" = some w2)
    (z3 : PySem.W.findIn K (.type "int") "__rsub__" = some w3)
    (z4 : PySem.W.findIn K (.type "int") "__mul__" = some w4)
    (z5 : PySem.W.findIn K (.type "int") "__rmul__" = some w5)
    (b_len : PySem.W.nsIn K mainGlobals "len" = some none)
    (b_sum : PySem.W.nsIn K mainGlobals "sum" = some none)
    (b_abs : PySem.W.nsIn K mainGlobals "abs" = some none)
    (b_int : PySem.W.nsIn K mainGlobals "int" = some none)
    (b_isinstance : PySem.W.nsIn K mainGlobals "isinstance" = some none)
    (b_bool : PySem.W.nsIn K mainGlobals "bool" = some none)
    (b_range : PySem.W.nsIn K mainGlobals "range" = some none)
    (b_str : PySem.W.nsIn K mainGlobals "str" = some none)
    (b_max : PySem.W.nsIn K mainGlobals "max" = some none)
    (b_min : PySem.W.nsIn K mainGlobals "min" = some none)
    (b_gcd : PySem.W.nsIn K mainGlobals "gcd" = some (some (.builtin "math.gcd")))
    : ∃ fd : FuncData, (∀ (s : Shared) (u : Value), BindsTo s fd ⟨[u], []⟩ [("_law_script", u)]) ∧
        ∀ base : Heap, K.In base → base.Ns mainGlobals mg → Kp l.prog w K mg base CX0 7 fa fd ["_law_script"] (spLaw K) := by
  have e := hfa.symm.trans (PySem.W.mg_of X G at20)
  cases e
  have T : Bt mg := ⟨PySem.W.mg_none_of X G b_len, PySem.W.mg_none_of X G b_sum, PySem.W.mg_none_of X G b_abs, PySem.W.mg_none_of X G b_int, PySem.W.mg_none_of X G b_isinstance, PySem.W.mg_none_of X G b_bool, PySem.W.mg_none_of X G b_range, PySem.W.mg_none_of X G b_str, PySem.W.mg_none_of X G b_max, PySem.W.mg_none_of X G b_min, PySem.W.mg_of X G b_gcd⟩
  have gC := PySem.W.mg_of X G aC
  have far : Far K C := by
    refine ⟨fun T h => ?_, fun T h => ?_⟩ <;>
      (simp only [List.mem_cons, List.not_mem_nil, or_false] at h
       rcases h with h | h | h | h | h | h | h <;> subst h <;> assumption)
  have oth : ∀ T ∈ ["NoneType", "bool", "int", "str", "list", "tuple", "dict"], PySem.W.kitOne K (.type T) (.ref C) = some false := by
    intro T h
    simp only [List.mem_cons, List.not_mem_nil, or_false] at h
    rcases h with h | h | h | h | h | h | h <;> subst h <;> assumption
  have R : Rc K C := ⟨⟨⟨cpg, chd, cpo, csa⟩, csf, cob, fo2⟩, far, noT, noB, ha, hn, htk, one, oth⟩
  obtain ⟨fdI, FI⟩ := fi
  have mkC : Mk K C m0 := ⟨mks, ai, ii, kC⟩
  have ez : Ez K mg B D := ⟨PySem.W.mg_of X G aB, PySem.W.mg_of X G aD, xB, kB, bB, tB, eB, ⟨eg, ek, bB, ed, ea, hn, htk, em⟩, eo⟩
  obtain ⟨d2, F2, b2⟩ := ft2
  obtain ⟨d8, F8, b8⟩ := ft8
  obtain ⟨d9, F9, b9⟩ := ft9
  obtain ⟨d11, F11, b11⟩ := ft11
  obtain ⟨d12, F12, b12⟩ := ft12
  obtain ⟨d13, F13, b13⟩ := ft13
  obtain ⟨d14, F14, b14⟩ := ft14
  obtain ⟨d15, F15, b15⟩ := ft15
  obtain ⟨d16, F16, b16⟩ := ft16
  obtain ⟨d17, F17, b17⟩ := ft17
  obtain ⟨d18, F18, b18⟩ := ft18
  obtain ⟨d19, F19, b19⟩ := ft19
  obtain ⟨d20, F20, b20⟩ := ft20
  obtain ⟨e1, M1, c1⟩ := fm1
  obtain ⟨e2, M2, c2⟩ := fm2
  obtain ⟨e3, M3, c3⟩ := fm3
  obtain ⟨e4, M4, c4⟩ := fm4
  obtain ⟨e5, M5, c5⟩ := fm5
  obtain ⟨e6, M6, c6⟩ := fm6
  obtain ⟨e7, M7, c7⟩ := fm7
  obtain ⟨e8, M8, c8⟩ := fm8
  obtain ⟨e9, M9, c9⟩ := fm9
  obtain ⟨e10, M10, c10⟩ := fm10
  obtain ⟨e11, M11, c11⟩ := fm11
  obtain ⟨e12, M12, c12⟩ := fm12
  obtain ⟨e13, M13, c13⟩ := fm13
  obtain ⟨e14, M14, c14⟩ := fm14
  refine ⟨d20, fun s v => by
    obtain ⟨oc, od, kV, doc, pm, an, cdv, ct, osl, rfl, lk, hcd⟩ := F20.ex
    exact .of_eq rfl, fun base _ _ => ?_⟩
  have W : Cal l.prog w K mg base "is_whole" 1 ["value"] (spWhole K) := ⟨_, _, ok_whole F2 T, PySem.W.mg_of X G at2, kt2, b2⟩
  have us : Us l.prog w K mg base C := ⟨T, R, ⟨_, _, ok_number F8 T R gC W, PySem.W.mg_of X G at8, kt8, b8⟩, ⟨_, _, ok_parts F9 T R gC, PySem.W.mg_of X G at9, kt9, b9⟩,
    ⟨_, _, mkC, ok_init FI T R, gC, init_binds FI, init_binds1 FI⟩⟩
  have ops : Ops l.prog w K mg base C := ⟨us, ⟨_, _, am3, im3, ok_add M3 us, c3⟩, ⟨_, _, am5, im5, ok_sub M5 us, c5⟩, ⟨_, _, am7, im7, ok_mul M7 us, c7⟩, ⟨_, _, am9, im9, ok_neg M9 us, c9⟩, ⟨_, am4⟩, ⟨_, am6⟩, ⟨_, am8⟩, isb,
    ⟨_, _, z0, z1⟩, ⟨_, _, z2, z3⟩, ⟨_, _, z4, z5⟩⟩
  have al : Al l.prog w K mg base C := ⟨ops, ⟨_, _, am4, im4, ok_radd M4 ops, c4⟩, ⟨_, _, am6, im6, ok_rsub M6 ops, c6⟩, ⟨_, _, am8, im8, ok_rmul M8 ops, c8⟩, ⟨_, _, am10, im10, ok_eq M10 us, c10⟩, ne,
    ⟨_, _, am11, im11, ok_str M11 us ⟨am14, im14, km14⟩ (ok_text M14 us) c14, c11⟩, ⟨_, _, ⟨am12, im12, km12⟩, ok_over M12 us, c12⟩, ⟨_, _, ⟨am13, im13, km13⟩, ok_below M13 us, c13⟩,
    ⟨_, _, _, ⟨pa1, pg1, pt1, ⟨_, pr1⟩⟩, ok_top M1 R, c1⟩, ⟨_, _, _, ⟨pa2, pg2, pt2, ⟨_, pr2⟩⟩, ok_bot M2 R, c2⟩, ⟨_, cdl, cdm⟩, ia, is_, im_⟩
  have CO : Cal l.prog w K mg base "_law_common" 1 ["_law_one", "_law_other"] spCom := ⟨_, _, ok_com F15 T, PySem.W.mg_of X G at15, kt15, b15⟩
  have IS : IsC l.prog w K mg base C := ⟨_, _, ok_is F16 al gC CO, PySem.W.mg_of X G at16, kt16, b16⟩
  have TK : Cal l.prog w K mg base "_law_take" 1 ["_law_box_here", "_law_many"] spTake := ⟨_, _, ok_take F13 T, PySem.W.mg_of X G at13, kt13, b13⟩
  have IX := ok_initX (C := C) (P := l.prog) (w := w) (base := base) FI T ez
  have nz : Nz l.prog w K mg base C B D := ⟨al, ez, ⟨_, _, mkC, IX, init_binds FI⟩, ⟨_, _, ⟨am12, im12, km12⟩, ok_overX M12 us mkC IX (init_binds FI) gC, c12⟩⟩
  have L : Lw l.prog w K mg base C := ⟨al, ⟨_, _, ok_cell F11 T, PySem.W.mg_of X G at11, kt11, b11⟩, ⟨_, _, ok_box F12 T, PySem.W.mg_of X G at12, kt12, b12⟩, TK, ⟨_, _, ok_int F14 T TK, PySem.W.mg_of X G at14, kt14, b14⟩, IS,
    ⟨_, _, ok_two F18 al IS, PySem.W.mg_of X G at18, kt18, b18⟩, ⟨_, _, ok_ints F19 al IS, PySem.W.mg_of X G at19, kt19, b19⟩, ⟨_, _, ok_no F17 nz, PySem.W.mg_of X G at17, kt17, b17⟩, ⟨_, _, mkC, ok_init FI T R, init_kb FI⟩⟩
  have Z := ok_law F20 L
  exact ⟨Z.len, fun A out s H args us' vs Q E hr _ he hb hv hs => Z.run A out s H args us' vs Q E hr he hb hv hs⟩
theorem walk02 {l : PySem.W.OpenLaw} {q : Program} {loose : List Str} {XP : (Str → Option Value) → Heap → Prop} {YP : World → Heap → Prop} {d : DefRec} {K : Params → PySem.W.Frag}
    (hn : l.most = some 63) (hdf : d.params.defaults = []) (hY : ∀ (w : World) (h : Heap), YP w h → (K w.params).In h)
    (law : ∀ (w : World) (mg : Str → Option Value) (fa : Addr) (h : Heap), (K w.params).In h → h.Ns mainGlobals mg → mg d.name = some (.ref fa) →
      ∃ fd : FuncData, (∀ (s : Shared) (u : Value), BindsTo s fd ⟨[u], []⟩ [("_law_script", u)]) ∧
        ∀ base : Heap, (K w.params).In base → base.Ns mainGlobals mg → Kp l.prog w (K w.params) mg base CX0 7 fa fd ["_law_script"] (spLaw (K w.params))) :
    PySem.W.WalkO q loose XP YP l.row.toRowW d [] (fun f vs => PySem.call f vs) :=
  walk_kp (k := 7) (CX := fun _ => CX0) (sp := fun w => spLaw (K w.params)) hn (by decide) hdf ⟨rfl, by decide, by decide⟩ hY law
    (fun _ _ a ns h1 _ h2 => ⟨a, ns, rfl, h2, h1, fun _ => rfl⟩) fun _ _ _ _ _ z => z
end K02

open PySem PySem.W PyProof.Rows L2 Vx
set_option Elab.async false
set_option maxRecDepth 100000
set_option maxHeartbeats 0
theorem PySem.Challenge.cw_jointdraws_k02_ratios_reckoned_holds : PySem.Challenge.rw_jointdraws_k02_ratios_reckoned.Holds := by
  w_on; o_law; k_headL; (case hw => w_witness2)
  k_fill
  refine K02.walk02 (l := PySem.Challenge.rw_jointdraws_k02_ratios_reckoned) rfl rfl (fun w h Y => PySem.W.kIn_of Y) ?F
  case F =>
    intro w mg fa h KX G hmg
    refine' K02.all_mk KX G hmg ?aC ?aB ?aD ?at2 ?kt2 ?ft2 ?at8 ?kt8 ?ft8 ?at9 ?kt9 ?ft9 ?at11 ?kt11 ?ft11 ?at12 ?kt12 ?ft12 ?at13 ?kt13 ?ft13 ?at14 ?kt14 ?ft14 ?at15 ?kt15 ?ft15 ?at16 ?kt16 ?ft16 ?at17 ?kt17 ?ft17 ?at18 ?kt18 ?ft18 ?at19 ?kt19 ?ft19 ?at20 ?kt20 ?ft20 ?am3 ?im3 ?km3 ?fm3 ?am4 ?im4 ?km4 ?fm4 ?am5 ?im5 ?km5 ?fm5 ?am6 ?im6 ?km6 ?fm6 ?am7 ?im7 ?km7 ?fm7 ?am8 ?im8 ?km8 ?fm8 ?am9 ?im9 ?km9 ?fm9 ?am10 ?im10 ?km10 ?fm10 ?am11 ?im11 ?km11 ?fm11 ?am12 ?im12 ?km12 ?fm12 ?am13 ?im13 ?km13 ?fm13 ?am14 ?im14 ?km14 ?fm14 ?pa1 ?pg1 ?pt1 ?pr1 ?fm1 ?pa2 ?pg2 ?pt2 ?pr2 ?fm2 ?ai ?ii ?fi ?mks ?kC ?cpg ?chd ?cpo ?csa ?csf ?cob ?noT ?noB ?ha ?hn ?htk ?one ?ne ?cdl ?cdm ?ia ?is_ ?im_ ?isb ?xB ?kB ?bB ?tB ?eB ?eg ?ek ?ed ?ea ?em ?eo ?fo0 ?fn0 ?fk0 ?fo1 ?fn1 ?fk1 ?fo2 ?fn2 ?fk2 ?fo3 ?fn3 ?fk3 ?fo4 ?fn4 ?fk4 ?fo5 ?fn5 ?fk5 ?fo6 ?fn6 ?fk6 ?z0 ?z1 ?z2 ?z3 ?z4 ?z5 ?b_len ?b_sum ?b_abs ?b_int ?b_isinstance ?b_bool ?b_range ?b_str ?b_max ?b_min ?b_gcd
    (case aC => k_is)
    (case aB => k_is)
    (case aD => k_is)
    (case at2 => k_is)
    (case kt2 => k_is)
    (case ft2 => (refine' K02.fb_t2 ?u1 ?u2 ?u3; (case u1 => k_is); (case u2 => k_is); (case u3 => k_is)))
    (case at8 => k_is)
    (case kt8 => k_is)
    (case ft8 => (refine' K02.fb_t8 ?u1 ?u2 ?u3; (case u1 => k_is); (case u2 => k_is); (case u3 => k_is)))
    (case at9 => k_is)
    (case kt9 => k_is)
    (case ft9 => (refine' K02.fb_t9 ?u1 ?u2 ?u3; (case u1 => k_is); (case u2 => k_is); (case u3 => k_is)))
    (case at11 => k_is)
    (case kt11 => k_is)
    (case ft11 => (refine' K02.fb_t11 ?u1 ?u2 ?u3; (case u1 => k_is); (case u2 => k_is); (case u3 => k_is)))
    (case at12 => k_is)
    (case kt12 => k_is)
    (case ft12 => (refine' K02.fb_t12 ?u1 ?u2 ?u3; (case u1 => k_is); (case u2 => k_is); (case u3 => k_is)))
    (case at13 => k_is)
    (case kt13 => k_is)
    (case ft13 => (refine' K02.fb_t13 ?u1 ?u2 ?u3; (case u1 => k_is); (case u2 => k_is); (case u3 => k_is)))
    (case at14 => k_is)
    (case kt14 => k_is)
    (case ft14 => (refine' K02.fb_t14 ?u1 ?u2 ?u3; (case u1 => k_is); (case u2 => k_is); (case u3 => k_is)))
    (case at15 => k_is)
    (case kt15 => k_is)
    (case ft15 => (refine' K02.fb_t15 ?u1 ?u2 ?u3; (case u1 => k_is); (case u2 => k_is); (case u3 => k_is)))
    (case at16 => k_is)
    (case kt16 => k_is)
    (case ft16 => (refine' K02.fb_t16 ?u1 ?u2 ?u3; (case u1 => k_is); (case u2 => k_is); (case u3 => k_is)))
    (case at17 => k_is)
    (case kt17 => k_is)
    (case ft17 => (refine' K02.fb_t17 ?u1 ?u2 ?u3; (case u1 => k_is); (case u2 => k_is); (case u3 => k_is)))
    (case at18 => k_is)
    (case kt18 => k_is)
    (case ft18 => (refine' K02.fb_t18 ?u1 ?u2 ?u3; (case u1 => k_is); (case u2 => k_is); (case u3 => k_is)))
    (case at19 => k_is)
    (case kt19 => k_is)
    (case ft19 => (refine' K02.fb_t19 ?u1 ?u2 ?u3; (case u1 => k_is); (case u2 => k_is); (case u3 => k_is)))
    (case at20 => k_is)
    (case kt20 => k_is)
    (case ft20 => (refine' K02.fb_t20 ?u1 ?u2 ?u3; (case u1 => k_is); (case u2 => k_is); (case u3 => k_is)))
    (case am3 => k_is)
    (case im3 => k_is)
    (case km3 => k_is)
    (case fm3 => (refine' K02.fb_m3 ?u1 ?u2 ?u3; (case u1 => k_is); (case u2 => k_is); (case u3 => k_is)))
    (case am4 => k_is)
    (case im4 => k_is)
    (case km4 => k_is)
    (case fm4 => (refine' K02.fb_m4 ?u1 ?u2 ?u3; (case u1 => k_is); (case u2 => k_is); (case u3 => k_is)))
    (case am5 => k_is)
    (case im5 => k_is)
    (case km5 => k_is)
    (case fm5 => (refine' K02.fb_m5 ?u1 ?u2 ?u3; (case u1 => k_is); (case u2 => k_is); (case u3 => k_is)))
    (case am6 => k_is)
    (case im6 => k_is)
    (case km6 => k_is)
    (case fm6 => (refine' K02.fb_m6 ?u1 ?u2 ?u3; (case u1 => k_is); (case u2 => k_is); (case u3 => k_is)))
    (case am7 => k_is)
    (case im7 => k_is)
    (case km7 => k_is)
    (case fm7 => (refine' K02.fb_m7 ?u1 ?u2 ?u3; (case u1 => k_is); (case u2 => k_is); (case u3 => k_is)))
    (case am8 => k_is)
    (case im8 => k_is)
    (case km8 => k_is)
    (case fm8 => (refine' K02.fb_m8 ?u1 ?u2 ?u3; (case u1 => k_is); (case u2 => k_is); (case u3 => k_is)))
    (case am9 => k_is)
    (case im9 => k_is)
    (case km9 => k_is)
    (case fm9 => (refine' K02.fb_m9 ?u1 ?u2 ?u3; (case u1 => k_is); (case u2 => k_is); (case u3 => k_is)))
    (case am10 => k_is)
    (case im10 => k_is)
    (case km10 => k_is)
    (case fm10 => (refine' K02.fb_m10 ?u1 ?u2 ?u3; (case u1 => k_is); (case u2 => k_is); (case u3 => k_is)))
    (case am11 => k_is)
    (case im11 => k_is)
    (case km11 => k_is)
    (case fm11 => (refine' K02.fb_m11 ?u1 ?u2 ?u3; (case u1 => k_is); (case u2 => k_is); (case u3 => k_is)))
    (case am12 => k_is)
    (case im12 => k_is)
    (case km12 => k_is)
    (case fm12 => (refine' K02.fb_m12 ?u1 ?u2 ?u3; (case u1 => k_is); (case u2 => k_is); (case u3 => k_is)))
    (case am13 => k_is)
    (case im13 => k_is)
    (case km13 => k_is)
    (case fm13 => (refine' K02.fb_m13 ?u1 ?u2 ?u3; (case u1 => k_is); (case u2 => k_is); (case u3 => k_is)))
    (case am14 => k_is)
    (case im14 => k_is)
    (case km14 => k_is)
    (case fm14 => (refine' K02.fb_m14 ?u1 ?u2 ?u3; (case u1 => k_is); (case u2 => k_is); (case u3 => k_is)))
    (case pa1 => k_is)
    (case pg1 => k_is)
    (case pt1 => k_is)
    (case pr1 => k_is)
    (case fm1 => (refine' K02.fb_m1 ?u1 ?u2 ?u3; (case u1 => k_is); (case u2 => k_is); (case u3 => k_is)))
    (case pa2 => k_is)
    (case pg2 => k_is)
    (case pt2 => k_is)
    (case pr2 => k_is)
    (case fm2 => (refine' K02.fb_m2 ?u1 ?u2 ?u3; (case u1 => k_is); (case u2 => k_is); (case u3 => k_is)))
    (case ai => k_is)
    (case ii => k_is)
    (case fi => (refine' K02.fi_mk ?u1 ?u2 ?u3 ?u4 ?u5; (case u1 => k_is); (case u2 => k_is); (case u3 => k_is); (case u4 => k_is); (case u5 => rfl)))
    (case mks => k_is)
    (case kC => k_is)
    (case cpg => k_is)
    (case chd => k_is)
    (case cpo => k_is)
    (case csa => k_is)
    (case csf => k_is)
    (case cob => k_is)
    (case noT => k_is)
    (case noB => k_is)
    (case ha => k_is)
    (case hn => k_is)
    (case htk => k_is)
    (case one => kernel_rfl)
    (case ne => k_is)
    (case cdl => k_is)
    (case cdm => rfl)
    (case ia => k_is)
    (case is_ => k_is)
    (case im_ => k_is)
    (case isb => k_is)
    (case xB => kernel_rfl)
    (case kB => k_is)
    (case bB => k_is)
    (case tB => k_is)
    (case eB => kernel_rfl)
    (case eg => k_is)
    (case ek => k_is)
    (case ed => k_is)
    (case ea => k_is)
    (case em => k_is)
    (case eo => kernel_rfl)
    (case fo0 => k_is)
    (case fn0 => k_is)
    (case fk0 => kernel_rfl)
    (case fo1 => k_is)
    (case fn1 => k_is)
    (case fk1 => kernel_rfl)
    (case fo2 => k_is)
    (case fn2 => k_is)
    (case fk2 => kernel_rfl)
    (case fo3 => k_is)
    (case fn3 => k_is)
    (case fk3 => kernel_rfl)
    (case fo4 => k_is)
    (case fn4 => k_is)
    (case fk4 => kernel_rfl)
    (case fo5 => k_is)
    (case fn5 => k_is)
    (case fk5 => kernel_rfl)
    (case fo6 => k_is)
    (case fn6 => k_is)
    (case fk6 => kernel_rfl)
    (case z0 => k_is)
    (case z1 => k_is)
    (case z2 => k_is)
    (case z3 => k_is)
    (case z4 => k_is)
    (case z5 => k_is)
    (case b_len => k_is)
    (case b_sum => k_is)
    (case b_abs => k_is)
    (case b_int => k_is)
    (case b_isinstance => k_is)
    (case b_bool => k_is)
    (case b_range => k_is)
    (case b_str => k_is)
    (case b_max => k_is)
    (case b_min => k_is)
    (case b_gcd => k_is)
#print axioms PySem.Challenge.cw_jointdraws_k02_ratios_reckoned_holds
