import PyProof.Rows.All
import Wide.All
import OpenK.AllK
import Wide.FinOn
import KE.OsRunLaw
import PyProof.EqAt
import PyProof.EqKinds
import PyProof.TupleCall
import KE.KFromBytes
import KE.KExcIs
import PyProof.ReprReads
import HandS.ForMost
import HandS.ForExc
import HandS.ExcInit
import HandS.ExcField
import HandS.ExcValue
import HandS.IsInst
import KE.KCallOwn
import HandS.Wide
import HandS.Gcd
import HandS.Property
import HandS.Defaults
import HandS.RaiseMore
import HandS.FStr
import HandS.MakeKw
import PySem.Challenge.RW_jointdraws_k03_ratios_written
import HandS.OwnEq
import HandS.Text
import HandS.Codes
import KE.IntTextText
import PyProof.StrLawsAffix
import HandS.StrMore
import HandS.Walk
import HandS.ExcIs
import HandS.Style
set_option Elab.async false
set_option linter.all false
set_option maxRecDepth 100000
set_option maxHeartbeats 2000000
/-! Own layer, part A: promises of defs that hold where no nested thing is being written (Kp), and the end of a law over them. -/
namespace Vx
open PySem PySem.Spec PyProof.Rows L2

/-- as FnOk, but only where no repr of a container is under way -/
structure Kp (P : Program) (w : World) (K : PySem.W.Frag) (mg : Str → Option Value) (base : Heap) (CX : CXT)
    (k : Nat) (f : Addr) (fd : FuncData) (ps : List Str) (sp : Sp) : Prop where
  many : ∀ vs H Q E, sp vs H Q E → vs.length = ps.length
  does : ∀ (A : Around) (out : List Env) (s : Shared) (H : Hp) (args : Args) (us : List Value) (vs : List V) (Q : VK) (E : XK),
    Room k A → A.guards = some [] → Env0 P w K mg base A out s H → BindsTo s fd args (ps.zip us) → Vals vs us → sp vs H Q E →
    codeAny (model P w) A (.call (.ref f) args) (CR CX out P w H s Q E) s

section
variable {P : Program} {w : World} {K : PySem.W.Frag} {mg : Str → Option Value} {base : Heap} {CX : CXT}
  {k : Nat} {f : Addr} {fd : FuncData} {ps : List Str} {sp : Sp}
theorem Kp.of (F : FnOk P w K mg base CX k f fd ps sp) : Kp P w K mg base CX k f fd ps sp :=
  ⟨F.len, fun A out s H args us vs Q E hr _ => F.run A out s H args us vs Q E hr⟩
theorem Kp.up {j : Nat} (F : Kp P w K mg base CX j f fd ps sp) (h : j ≤ k) : Kp P w K mg base CX k f fd ps sp :=
  ⟨F.many, fun A out s H args us vs Q E hr => F.does A out s H args us vs Q E (hr.mono h)⟩

/-- a def of the text keeps its promise, by its body -/
theorem kp_fun {x qual : Str} {st : Stmt} {N : List Str} (F : Fun K x qual st f fd) (S : FnScope N ps (defScope st))
    (len : ∀ vs H Q E, sp vs H Q E → vs.length = ps.length)
    (body : ∀ (cdv : Value) (A : Around) (out : List Env) (s : Shared) (H : Hp) (vs : List V) (Q : VK) (E : XK),
      Room k (A.deeper (envOfC qual (defScope st) s.heap.objs.size f cdv)) →
      (A.deeper (envOfC qual (defScope st) s.heap.objs.size f cdv)).guards = some [] → sp vs H Q E →
      ∃ t, PSs (cxOf CX P w K mg base N qual (defScope st) f cdv A out s H E) (defBody st) t ∧
        t { nx := fun _ H' => Q .non H', rt := Q } (start N vs) H) : Kp P w K mg base CX (k + 1) f fd ps sp := by
  obtain ⟨oc, od, kV, doc, pm, an, cdv, ct, osl, rfl, lk, hcd⟩ := F.ex
  constructor
  · exact len
  · intro A out s H args us vs Q E hr hg e0 hb r hsp
    have ll := len _ _ _ _ hsp
    have inK : K.In s.heap := e0.mod.kin.keeps fun b o e => And.left (e0.bs b o e)
    have nolim : s.heap.NoLimit := e0.mod.nolimit.keeps fun b o e => And.left (e0.bs b o e)
    refine codeAny_call_function hr.depth (inK _ _ lk) rfl S.co S.gen rfl (PySem.W.codeRec_of inK hcd) (hb _ _ _ _ ?_)
    refine wpAny_newFunctionEnv_cells S.kind (fun y hy => ?_) fun env he s1 x => ?_
    · have hp := (List.of_mem_zip (show (y.1, y.2) ∈ ps.zip us from hy)).1
      rcases S.par _ hp with q | q
      · exact Or.inl q
      · exact Or.inr ⟨q, PySem.W.cellsFrom_some _ _ _ (Or.inl q)⟩
    · subst he
      refine ⟨nolim.keeps x.toInCall.keep, codeAny_func ?_⟩
      obtain ⟨t, ht, hq⟩ := body cdv A out s H vs Q E (hr.deeper _) hg hsp
      have I := inv_start (CX := CX) (mg := mg) (K := K) (N := N) (E := E) S hr.hd e0 ll r x
      refine wpAny_mono (ht.run [] s1 _ H _ I hq) (fun fl s' hs => ?_) fun _ _ z => z
      cases fl with
      | ret u => exact let ⟨v, σ', H', J, rv, q⟩ := hs; ⟨v, H', J.os, J.bare, J.base, J.hok, rv, q⟩
      | next => exact let ⟨σ', H', J, q⟩ := hs; ⟨V.non, H', J.os, J.bare, J.base, J.hok, rfl, q⟩
      | brk => exact let ⟨_, _, _, q⟩ := hs; q.elim
      | cont => exact let ⟨_, _, _, q⟩ := hs; q.elim
/-- the same where no exception leaves -/
theorem kp_fun0 {x qual : Str} {st : Stmt} {N : List Str} (F : Fun K x qual st f fd) (S : FnScope N ps (defScope st))
    (len : ∀ vs H Q E, sp vs H Q E → vs.length = ps.length)
    (body : ∀ (cdv : Value) (A : Around) (out : List Env) (s : Shared) (H : Hp) (vs : List V) (Q : VK) (E : XK),
      Room k (A.deeper (envOfC qual (defScope st) s.heap.objs.size f cdv)) →
      (A.deeper (envOfC qual (defScope st) s.heap.objs.size f cdv)).guards = some [] → sp vs H Q E →
      ∃ t, PSs (cxOf CX0 P w K mg base N qual (defScope st) f cdv A out s H E).nox (defBody st) t ∧
        t { nx := fun _ H' => Q .non H', rt := Q } (start N vs) H) : Kp P w K mg base CX0 (k + 1) f fd ps sp :=
  kp_fun F S len fun cdv A out s H vs Q E hr hg h => by
    obtain ⟨t, z, q⟩ := body cdv A out s H vs Q E hr hg h
    exact ⟨t, z.nox, q⟩
end

section
variable {X : Cx} {CX : CXT} {k : Nat} {f : Addr} {fd : FuncData} {ps : List Str} {sp : Sp} {dvs : List V} {ds : List Value} {E : XK}
  {x : Str} {p pos : Pos} {e : Expr} {es : List Expr} {t : TA}
theorem kp_run {pins : List (Addr × Obj)} {σ : L2.St} {H : Hp} {s : Shared} {Q : VK} {us : List Value} {vs : List V}
    (F : Kp X.prog X.w X.K X.mg X.base CX k f fd ps sp) (hr : Room k X.A) (hgd : X.A.guards = some []) (hb : Binds X.K fd ps ds) (hd : Vals dvs ds)
    (hx : Passes CX X E) (I : Inv X pins σ H s) (r : Vals vs us) (h : sp (vs ++ dvs) H Q E) :
    wpAny (model X.prog X.w) X.A (call (.ref f) us) (EP X pins σ Q) X.xe s := by
  have rr := Vals.append r hd
  have ll : (us ++ ds).length = ps.length := rr.length.symm.trans (F.many _ _ _ _ h)
  have go := F.does X.A X.stack s H ⟨us, []⟩ _ _ Q E hr hgd I.env0 (hb s us I.kIn ll) rr h
  refine wpAny_call (codeAny_mono go fun res s' hq => ?_)
  match res, hq with
  | .error e, hq => exact hx pins σ H s e s' I hq
  | .ok (.ret u), hq => exact I.after hq
/-- f(e, ..) -/
theorem pe_kp (F : Kp X.prog X.w X.K X.mg X.base CX k f fd ps sp) (hr : Room k X.A) (hgd : X.A.guards = some []) (hg : Gl X x)
    (hm : X.mg x = some (.ref f)) (hk : PySem.W.keepIn X.K (.ref f) = true) (hb : Binds X.K fd ps ds) (hd : Vals dvs ds) (hx : Passes CX X E) (ha : PA X (e :: es) t)
    (hdb : (x == ("__debug__" : Str)) = false := by decide)
    (he : starEach (e :: es) X.env = (false, eval e X.env) :: starEach es X.env := by rfl)
    (hpl : (backTo pos (starEach es X.env)).any (·.1) = false := by rfl) : PE X (.Call (.Name x p) (e :: es) [] pos) (tCall sp dvs E t) :=
  ⟨fun pins s σ H Q I h => wpAny_Call_Name_kw (ld_glob I hg hm
    (PySem.W.callWith_K (h₀ := X.base) I.ok.mod.kin hk (thn (ha.run pos pins s σ H _ I h) fun us s1 ⟨vs, H1, J, r, q⟩ =>
      ⟨J.kIn, kp_run F hr hgd hb hd hx J r q⟩) he hpl) hdb)⟩
/-- f() -/
theorem pe_kp0 (F : Kp X.prog X.w X.K X.mg X.base CX k f fd ps sp) (hr : Room k X.A) (hgd : X.A.guards = some []) (hg : Gl X x)
    (hm : X.mg x = some (.ref f)) (hk : PySem.W.keepIn X.K (.ref f) = true) (hb : Binds X.K fd ps ds) (hd : Vals dvs ds) (hx : Passes CX X E)
    (hdb : (x == ("__debug__" : Str)) = false := by decide) : PE X (.Call (.Name x p) [] [] pos) (tCall sp dvs E tNil) :=
  ⟨fun pins s σ H Q I h => wpAny_Call_Name_kw (ld_glob I hg hm
    (PySem.W.callWith_K0 I.kIn hk (kp_run (us := []) F hr hgd hb hd hx I .nil h)) hdb)⟩
end

/-- what the law's own call is told: over the heap behind the top, the script alone being tracked -/
theorem law_kp {P : Program} {w : World} {K : PySem.W.Frag} {mg mb : Str → Option Value} {CX : CXT} {k : Nat} {fa a : Addr} {fd : FuncData} {x : Str}
    {sp : Sp} {s₁ : Shared} {vs : List Value} {ns : List Int} (KX : K.In s₁.heap) (hns : s₁.heap.Ns mainGlobals mg) (hb : s₁.heap.Ns builtinsNs mb)
    (hbb : ∀ x : Str, x ≠ "__name__" → mb x = bootBuiltins x) (hlim : s₁.heap.NoLimit) (hg : s₁.gens = #[])
    (ha : s₁.heap.get? a = some { cls := .type "list", data := .seq vs.toArray }) (hi : IntsAre vs ns) (hl : ns.length ≤ sizeLine) (hr : Room k callerA)
    (F : ∀ base : Heap, K.In base → base.Ns mainGlobals mg → Kp P w K mg base CX k fa fd [x] sp)
    (hbind : ∀ (s : Shared) (u : Value), BindsTo s fd ⟨[u], []⟩ [(x, u)])
    (hsp : ∀ H : Hp, Only H → SqL K H a (ns.map V.int) → sp [.ref a] H (fun v _ => v = .bl true) fun _ _ _ => False)
    (hCX : ∀ H e s', CX [] H s₁ (fun _ _ _ => False) e s' → False) :
    codeAny (model P w) callerA (.call (.ref fa) ⟨[.ref a], []⟩)
      (fun r s' => r = .ok (.ret (.bool true)) ∧ OldK s₁.heap s'.heap ∧ s'.os = s₁.os ∧ AllBare s'.gens) s₁ := by
  have rv := vals_ints hi
  let ob : Obj := { cls := .type "list", data := .seq vs.toArray }
  -- the heap in which the script alone may be tracked: at a or nowhere
  have main : ∀ H : Hp, (∀ b, b ≠ a → H b = none) → (H a = none ∨ (H a = some (.frz ob (.lst (ns.map V.int))) ∧ K.lookup a = none)) → SqL K H a (ns.map V.int) →
      codeAny (model P w) callerA (.call (.ref fa) ⟨[.ref a], []⟩)
        (fun r s' => r = .ok (.ret (.bool true)) ∧ OldK s₁.heap s'.heap ∧ s'.os = s₁.os ∧ AllBare s'.gens) s₁ := by
    intro H off at_ hS
    have only : Only H := fun b => by
      by_cases e : b = a
      · subst e
        rcases at_ with z | ⟨z, _⟩
        · exact .inl z
        · exact .inr ⟨_, _, z⟩
      · exact .inl (off b e)
    have hok : HOk P w H s₁.heap := fun b u e => by
      by_cases q : b = a
      · subst q
        rcases at_ with z | ⟨z, _⟩
        · rw [z] at e; cases e
        · rw [z] at e; cases e
          exact ⟨ha, by rw [List.length_map]; exact hl, vs, _, rv, ha⟩
      · rw [off b q] at e; cases e
    have dictOff : ∀ {b : Addr} {o : Obj} {es : Array DictEntry} {ep : Nat}, s₁.heap.get? b = some o → o.data = .dict es ep → H b = none := fun {b o es ep} e d => by
      by_cases q : b = a
      · subst q
        rw [ha] at e
        cases e
        cases (show Data.seq vs.toArray _ = Data.dict es ep from d)
      · exact off b q
    have ns_of : ∀ {b : Addr} {m : Str → Option Value}, s₁.heap.Ns b m → (hidT s₁.heap H).Ns b m := fun {b m} z => by
      obtain ⟨o, es, ep, e, d, r⟩ := z
      exact ⟨o, es, ep, hidT_get e (dictOff e d), d, r⟩
    have kin : K.In (hidT s₁.heap H) := fun b o e => hidT_get (KX b o e) (by
      by_cases q : b = a
      · subst q
        rcases at_ with z | ⟨_, z⟩
        · exact z
        · rw [z] at e; cases e
      · exact off b q)
    have hM : Mod K mg (hidT s₁.heap H) := ⟨kin, ns_of hns, ⟨mb, ns_of hb, hbb⟩, by obtain ⟨mc, h1, h2⟩ := hlim; exact ⟨mc, ns_of h1, h2⟩⟩
    have e0 : Env0 P w K mg (hidT s₁.heap H) callerA [] s₁ H :=
      { frames := rfl, mod := hM, bs := fun b o e => of_hidT e, bsz := Nat.le_of_eq (hidT_size _ _), funs := trivial,
        frf := fun b z => absurd (show b ∈ ([] : List Addr) from z) List.not_mem_nil, hok := hok, bare := .of_eq hg }
    have run := (F _ kin (ns_of hns)).does callerA [] s₁ H ⟨[.ref a], []⟩ [.ref a] [.ref a] _ _ hr rfl e0 (hbind s₁ (.ref a)) (.cons rfl .nil) (hsp H only hS)
    refine codeAny_mono run fun res s' h => ?_
    match res, h with
    | .error e, h => exact (hCX H e s' h).elim
    | .ok (.ret u), h =>
      obtain ⟨v, H', os, bare, un, hok', ru, q⟩ := h
      obtain rfl : v = .bl true := q
      obtain rfl : u = Value.bool true := ru
      refine ⟨rfl, OldK.of_keep fun b o e => ?_, os, bare⟩
      by_cases q : H b = none
      · exact un.keep b o e q (fun z => absurd (show b ∈ ([] : List Addr) from z) List.not_mem_nil) List.not_mem_nil
      · rcases only b with z | ⟨o2, xs, z⟩
        · exact absurd z q
        · have t1 := (hok b _ z).1
          have t2 := (hok' b _ (un.frzs b o2 _ z)).1
          rw [e] at t1
          cases t1
          exact t2
  cases hk : K.lookup a with
  | some o =>
    have e := KX a o hk
    rw [ha] at e
    cases e
    exact main (fun _ => none) (fun _ _ => rfl) (.inl rfl)
      (.inr ⟨_, vs.toArray, _, hk, rfl, rfl, rfl, by rw [List.size_toArray, hi.length]; exact hl, by simpa using rv⟩)
  | none =>
    refine main (fun b => if b = a then some (.frz ob (.lst (ns.map V.int))) else none) (fun b q => if_neg q) (.inr ⟨if_pos rfl, hk⟩) (.inl (.inr ⟨ob, if_pos rfl⟩))

/-- the goal that the head leaves, by the law's promise -/
theorem walk_kp {l : PySem.W.OpenLaw} {n k : Nat} {q : Program} {loose : List Str} {XP : (Str → Option Value) → Heap → Prop} {YP : World → Heap → Prop} {d : DefRec}
    {K : Params → PySem.W.Frag} {CX : World → CXT} {sp : World → Sp} {x : Str} (hn : l.most = some n) (hn2 : n ≤ sizeLine) (hdf : d.params.defaults = []) (hr : Room k callerA)
    (hY : ∀ (w : World) (h : Heap), YP w h → (K w.params).In h)
    (F : ∀ (w : World) (mg : Str → Option Value) (fa : Addr) (h : Heap), (K w.params).In h → h.Ns mainGlobals mg → mg d.name = some (.ref fa) →
      ∃ fd : FuncData, (∀ (s : Shared) (u : Value), BindsTo s fd ⟨[u], []⟩ [(x, u)]) ∧
        ∀ base : Heap, (K w.params).In base → base.Ns mainGlobals mg → Kp l.prog w (K w.params) mg base (CX w) k fa fd [x] (sp w))
    (hsp : ∀ (w : World) (H : Hp) (a : Addr) (ns : List Int), ns.length ≤ n → Only H → SqL (K w.params) H a (ns.map V.int) → sp w [.ref a] H (fun v _ => v = .bl true) fun _ _ _ => False)
    (hCX : ∀ (w : World) (H : Hp) (s : Shared) (e : Value) (s' : Shared), CX w [] H s (fun _ _ _ => False) e s' → False) :
    PySem.W.WalkO q loose XP YP l.row.toRowW d [] (fun f vs => PySem.call f vs) := by
  apply Att.attach_call hn hdf
  intro w s₀ s₁ mg mb fa o pm cd doc a vs ns G Y ho hd hcd hmg hobj hints hlen hg
  have kin := hY w _ Y
  obtain ⟨fd, bind, keeps⟩ := F w mg fa _ kin G.T.g hmg
  exact law_kp kin G.T.g G.T.b G.T.builtins G.T.nolimit hg hobj hints (Nat.le_trans hlen hn2) hr keeps bind
    (fun H hO hS => hsp w H a ns hlen hO hS) fun H e s' => hCX w H s₁ e s'
end Vx

set_option Elab.async false
set_option linter.all false
set_option maxRecDepth 100000
set_option maxHeartbeats 4000000
/-! Own layer, part B: exceptions of own classes (below a base below ValueError), made by position or by keyword, as values. -/
namespace PySem
namespace Vex
open PySem.W PySem.Calls PyProof.Rows PySem.HandSPX
section
variable {M : Model} {A : Around} {E : Value → Shared → Prop} {hh : Heap} {gg : Array GenState} {dd : Drawn} {tt : Nat} {oo : OsState}
variable {nm qn : Str} {C N : Addr} {bs bm bmB : List Value} {hdct : Bool} {sn : List Str} {sub : List Value} {ab : Bool} {col : Option Bool} {dr : Option Addr}
  {k0 k1 k2 k3 k5 : Option Value} {B newId initId : String}
theorem check_new_kw (F : ExcBaseFacts B newId initId bmB) (same : ∀ X : String, bm.contains (.type X) = bmB.contains (.type X)) {rest : List Value} {kw : List (Str × Value)} {Q : Unit → Shared → Prop}
    (at_ : hh.get? C = some (excClassObj nm qn C N bs bm hdct sn sub ab col dr k0 k1 k2 k3 k5 newId)) (go : Q () ⟨hh, gg, dd, tt, oo⟩) :
    wpAny M A (checkBuiltinCall newId ⟨.ref C :: rest, kw⟩) Q E ⟨hh, gg, dd, tt, oo⟩ := by
  have inB : (Value.ref C :: bm).contains (.type B) = true := by rw [List.contains_cons, same, F.hasB]; simp
  have nostar := F.noStar
  simp only [checkBuiltinCall, F.newSplit, F.newRow, F.newKind]
  repeat (first
    | refine wpAny_loadPart_at at_ ?_
    | (refine wpAny_isSubtype_exc at_ ?_; rw [inB])
    | refine wpAny_staticBase_exc at_ ?_
    | refine wpAny_madeBy_exc at_ ?_
    | simp only [Bool.false_eq_true, bne_self_eq_false, if_false]
    | wp_step)
  exact go
end
section
variable {prog : Program} {w : World} {A : Around} {E : Value → Shared → Prop} {R : Result → Shared → Prop} {hh : Heap} {gg : Array GenState} {dd : Drawn} {tt : Nat} {oo : OsState}
variable {nm qn : Str} {C N : Addr} {bs bm bmB : List Value} {hdct : Bool} {sn : List Str} {sub : List Value} {ab : Bool} {col : Option Bool} {dr : Option Addr}
  {k0 k1 k2 k3 k5 : Option Value} {B newId initId : String}
/-- the heap behind the making: the arguments' tuple, the exception -/
abbrev laidE (hh : Heap) (C : Addr) (rest : List Value) : Heap := (hh.push (W.kdv_tup rest)).push (excO C hh.objs.size)
theorem new_kw (F : ExcBaseFacts B newId initId bmB) (same : ∀ X : String, bm.contains (.type X) = bmB.contains (.type X)) {rest : List Value} {kw : List (Str × Value)}
    (at_ : hh.get? C = some (excClassObj nm qn C N bs bm hdct sn sub ab col dr k0 k1 k2 k3 k5 newId)) (small : rest.length ≤ sizeLine)
    (go : R (.ok (.ret (.ref (hh.objs.size + 1)))) ⟨laidE hh C rest, gg, dd, tt, oo⟩) :
    codeAny (model prog w) A (.builtin newId ⟨.ref C :: rest, kw⟩) R ⟨hh, gg, dd, tt, oo⟩ := by
  have ends := F.ends
  have inB : (Value.ref C :: bm).contains (.type B) = true := by rw [List.contains_cons, same, F.hasB]; simp
  have notA : (Value.ref C :: bm).contains (.type "AttributeError") = false := by rw [List.contains_cons, same, F.noAttr]; rfl
  have notN : (Value.ref C :: bm).contains (.type "NameError") = false := by rw [List.contains_cons, same, F.noName]; rfl
  apply codeAny_builtinAt F.entry
  unfold Builtin.«BaseException.__new__»
  apply wpAt_bind
  show wpAt _ _ _ (stack >>= _) _ _ _
  refine wpAt_bind (wpAt_stack fun p below => ?_)
  apply wpAt_of_wpAny
  wp_walk
  apply wpAt_of_wpAny
  rw [F.owner]
  repeat (first
    | with_reducible refine wpAny_madeHere_exc F.canon at_ ?_
    | with_reducible refine wpAny_loadPart_at at_ ?_
    | (with_reducible refine wpAny_isSubtype_exc at_ ?_; first | rw [inB] | rw [notA] | rw [notN])
    | wp_step)
  show R _ _
  rw [Heap.size_push]
  exact go
theorem type_call_kw (F : ExcBaseFacts B newId initId bmB) (same : ∀ X : String, bm.contains (.type X) = bmB.contains (.type X)) {rest : List Value} {kw : List (Str × Value)} {fI : Addr} {Q : Fin → Shared → Prop}
    (at_ : hh.get? C = some (excClassObj nm qn C N bs bm hdct sn sub ab col dr k0 k1 k2 k3 k5 newId))
    (hi : W.Looks (model prog w) hh (typeLookup (.ref C) "__init__") (some (.ref fI))) (hb : ∀ self, W.Looks (model prog w) hh (bindSpecial (.ref fI) self) (.ref fI, [self])) (small : rest.length ≤ sizeLine)
    (go : codeAny (model prog w) A (.call (.ref fI) ⟨.ref (hh.objs.size + 1) :: rest, kw⟩)
      (fun r s' => match r with | .ok (.ret v) => v = .none ∧ Q (.done (.ret (.ref (hh.objs.size + 1)))) s' | .ok _ => False | .error e => E e s') ⟨laidE hh C rest, gg, dd, tt, oo⟩) :
    wpAny (model prog w) A (Builtin.«type.__call__» ⟨.ref C :: rest, kw⟩) Q E ⟨hh, gg, dd, tt, oo⟩ := by
  repeat (first
    | with_reducible refine wpAny_loadPart_at at_ ?_
    | with_reducible refine wpAny_madeBy_exc at_ ?_
    | wp_step)
  refine codeAny_call_builtin_code (Code.quiet_builtin _ F.quiet) (check_new_kw F same at_ (new_kw F same at_ small ?_))
  show wpAny _ _ _ _ _ _
  have stay : ∀ b o, hh.get? b = some o → (laidE hh C rest).get? b = some o := fun b o e => Heap.get?_push_of_some _ (Heap.get?_push_of_some _ e)
  have at1 := stay _ _ at_
  have new1 : (laidE hh C rest).get? (hh.objs.size + 1) = some (excO C hh.objs.size) := by heap_get
  have self1 : (Value.ref C :: bm).contains (.ref C) = true := by simp
  have i1 := hi.keeps stay
  have b1 := (hb (.ref (hh.objs.size + 1))).keeps stay
  unfold isInstance
  repeat (first
    | with_reducible refine wpAny_loadPart_at new1 ?_
    | (with_reducible refine wpAny_isSubtype_exc at1 ?_; rw [self1])
    | wp_step)
  show wpAny _ _ (typeLookup (.ref C) _) _ _ _
  apply i1.at
  apply wpAny_holding
  apply wpAny_bind
  apply b1.at
  refine wpAny_bind (wpAny_call (codeAny_mono go fun r s' z => ?_))
  match r, z with
  | .error e, z => exact z
  | .ok (.ret v), ⟨e, z⟩ =>
    subst e
    first
      | exact wpAny_pure (wpAny_pure z)
      | (wp_walk; exact z)
theorem call_kw (F : ExcBaseFacts B newId initId bmB) (same : ∀ X : String, bm.contains (.type X) = bmB.contains (.type X)) {rest : List Value} {kw : List (Str × Value)} {fI : Addr}
    (at_ : hh.get? C = some (excClassObj nm qn C N bs bm hdct sn sub ab col dr k0 k1 k2 k3 k5 newId))
    (hi : W.Looks (model prog w) hh (typeLookup (.ref C) "__init__") (some (.ref fI))) (hb : ∀ self, W.Looks (model prog w) hh (bindSpecial (.ref fI) self) (.ref fI, [self])) (small : rest.length ≤ sizeLine)
    (go : codeAny (model prog w) (A.under (.builtin "type.__call__" ⟨.ref C :: rest, kw⟩)) (.call (.ref fI) ⟨.ref (hh.objs.size + 1) :: rest, kw⟩) (W.InitBack (hh.objs.size + 1) R) ⟨laidE hh C rest, gg, dd, tt, oo⟩) :
    codeAny (model prog w) A (.call (.ref C) ⟨rest, kw⟩) R ⟨hh, gg, dd, tt, oo⟩ := by
  have l1 := tc_lookup
  have l2 := tc_bind (.ref C)
  have ty : (⟨hh, gg, dd, tt, oo⟩ : Shared).TypeIs (.ref C) "type" := ⟨_, at_, rfl⟩
  apply codeAny_of_tree
  show wpAny _ _ (callAny (.ref C) _) _ _ _
  repeat (any_goals (first | assumption | with_reducible refine wpAny_loadPart_at at_ ?_ | wp_step))
  refine ⟨rfl, codeAny_call_builtin_at (Code.quiet_builtin _ (by decide +kernel)) entry_typeCall (wpAny_check_type_call_sub at_ (type_call_kw F same at_ hi hb small (codeAny_mono go fun r s' z => ?_)))⟩
  match r, z with
  | .error _, z => exact z
  | .ok (.ret _), z => exact z
end
end Vex
end PySem

set_option Elab.async false
set_option linter.all false
set_option maxRecDepth 100000
set_option maxHeartbeats 4000000
/-! Own layer, part C: exceptions of own classes as values: made, their field read, isinstance; repr. -/
namespace Vx
open PySem PySem.Spec PyProof.Rows L2

/-- an exception of the class at C, with one field, stands at p -/
def ErrAt (H : Hp) (p C : Addr) (fld : Str) (v : V) : Prop := ∃ d, H p = some (exo p C (some d)) ∧ H d = some (exd d [(fld, v)])
theorem ErrAt.same {H H' : Hp} {p C : Addr} {fld : Str} {v : V} (s : Same H H') (e : ErrAt H p C fld v) : ErrAt H' p C fld v := by
  obtain ⟨d, h1, h2⟩ := e
  exact ⟨d, s _ _ h1, s _ _ h2⟩
/-- an exception of the class at C, whatever it keeps -/
def ErrOf (H : Hp) (p C : Addr) : Prop := H p = some (exo p C none) ∨ ∃ d fs, H p = some (exo p C (some d)) ∧ H d = some (exd d fs)
theorem ErrAt.of {H : Hp} {p C : Addr} {fld : Str} {v : V} (e : ErrAt H p C fld v) : ErrOf H p C := by
  obtain ⟨d, h1, h2⟩ := e
  exact .inr ⟨d, _, h1, h2⟩
theorem ErrOf.same {H H' : Hp} {p C : Addr} (s : Same H H') (e : ErrOf H p C) : ErrOf H' p C := by
  rcases e with e | ⟨d, fs, h1, h2⟩
  · exact .inl (s _ _ e)
  · exact .inr ⟨d, fs, s _ _ h1, s _ _ h2⟩

/-- what the written part says of such a class and its __init__ -/
structure ErC (K : PySem.W.Frag) (C fI : Addr) (fld : Str) : Prop where
  ox : OexC K C
  no : PySem.W.findIn K (.ref C) fld = some none
  iC : PySem.W.findIn K (.ref C) "__init__" = some (some (.ref fI))
  tI : PySem.W.typeIn K (.ref fI) = some (.type "function")
/-- .. for isinstance -/
structure IsC (K : PySem.W.Frag) (C : Addr) : Prop where
  cl : (PySem.W.clsIn K C).isSome = true
  xf : XfC K C
  ha : PySem.W.findIn K (.ref C) "__class__" = some (some (.builtin "object.__class__"))
  hn : PySem.W.specialIn K (.builtin "object.__class__") "__get__" = some (some (.builtin "getset_descriptor.__get__"))
  tk : PySem.W.takesIn K (.builtin "object.__class__") = some true
  hm : PySem.W.mroIn K C (.type "object") = some true

/-- __init__(self, fld): self.fld = fld -/
def spE (K : PySem.W.Frag) (C : Addr) (fld : Str) : Sp := fun vs H Q _ => ∃ (a : Addr) (v : V), vs = [.ref a, v] ∧ H a = some (exo a C none) ∧
  ∀ d, H d = none → d ≠ a → Q .non (upd (upd H d (exd d [(fld, v)])) a (exo a C (some d)))
theorem ok_einit {P : Program} {w : World} {K : PySem.W.Frag} {mg : Str → Option Value} {base : Heap} {st : Stmt} {qual fld : Str} {C fI : Addr} {fd : FuncData} {p1 p2 p3 p4 : Pos}
    (T : ErC K C fI fld) (F : Fun K "__init__" qual st fI fd) (hb : defBody st = [.Assign [.Attribute (.Name "self" p1) fld p2] (.Name fld p3) p4])
    (sc : FnScope ["self", fld] ["self", fld] (defScope st)) (l1 : (defScope st).names.lookup ("self" : Str) = some NameKind.local) (l2 : (defScope st).names.lookup fld = some NameKind.local)
    (n1 : (fld == ("__debug__" : Str)) = false) (n2 : (fld == ("__classdict__" : Str)) = false) : FnOk P w K mg base CX0 1 fI fd ["self", fld] (spE K C fld) := by
  refine F.ok sc (fun vs H Q E h => ?_) (fun cdv A outer s H vs Q E hr h => ?_)
  · obtain ⟨a, v, rfl, _⟩ := h
    rfl
  · obtain ⟨a, v, rfl, ha, go⟩ := h
    rw [hb]
    refine ⟨_, pss_one (ps_ost (pe_var (i := 0) rfl (.inl l1) (by decide) (by decide)) (pe_var (i := 1) rfl (.inl l2) n1 n2)), ?_⟩
    exact ⟨_, rfl, _, rfl, a, C, rfl, T.ox, T.no, .inl ⟨ha, fun dx n ne => go dx n ne⟩⟩

section
variable {X : Cx} {pins : List (Addr × Obj)} {σ : L2.St} {H : Hp} {s : Shared} {C fI : Addr} {fld x : Str} {fd : FuncData} {k : Nat}
theorem run_mkE {Q : VK} {us : List Value} {kw : List (Str × Value)} {u : Value} {v : V} (T : ErC X.K C fI fld) (F1 : FnOk X.prog X.w X.K X.mg X.base CX0 k fI fd ["self", fld] (spE X.K C fld))
    (hr : Room (k + 1) X.A) (small : us.length ≤ 1000) (I : Inv X pins σ H s) (r : RelV v u)
    (bind : ∀ (s' : Shared) (a : Value), X.K.In s'.heap → BindsTo s' fd ⟨a :: us, kw⟩ ((["self", fld] : List Str).zip [a, u]))
    (q : ∀ p H2, Same H H2 → H p = none → ErrAt H2 p C fld v → Q (.ref p) H2) : wpAny (model X.prog X.w) X.A (call (.ref C) us kw) (EP X pins σ Q) X.xe s := by
  obtain ⟨nm, qn, N, bs, bm, sn, sub, ab, col, dd, k0, k1, k2, k3, k5, hC, hbm⟩ := T.ox.cls
  obtain ⟨hp, g, dr, tk, os⟩ := s
  have big : hp.objs.size ≤ hp.objs.size + 1 := Nat.le_succ _
  have fresh : H (hp.objs.size + 1) = none := I.hok.fresh big
  have stay : ∀ b o, hp.get? b = some o → (Vex.laidE hp C us).get? b = some o := fun b o e => Heap.get?_push_of_some _ (Heap.get?_push_of_some _ e)
  have there : (Vex.laidE hp C us).get? (hp.objs.size + 1) = some (PySem.HandSPX.excO C hp.objs.size) := by
    show ((hp.push _).push _).get? _ = _
    heap_get
  have J : Inv X pins σ (upd H (hp.objs.size + 1) (exo (hp.objs.size + 1) C none)) ⟨Vex.laidE hp C us, g, dr, tk, os⟩ :=
    I.laid (t' := tk) (a := hp.objs.size + 1) (o := exo (hp.objs.size + 1) C none) (h' := Vex.laidE hp C us) stay big (exo_ok there)
  have want : spE X.K C fld [.ref (hp.objs.size + 1), v] (upd H (hp.objs.size + 1) (exo (hp.objs.size + 1) C none)) (fun z H2 => z = .non ∧ Q (.ref (hp.objs.size + 1)) H2) E0 := by
    refine ⟨_, v, rfl, upd_same, fun d hd ne => ⟨rfl, q _ _ (fun b o e => ?_) fresh ⟨d, upd_same, (upd_ne ne).trans upd_same⟩⟩⟩
    have hd' : H d = none := by
      rw [upd_ne ne] at hd
      exact hd
    rw [upd_ne (ne_of_none e fresh), upd_ne (ne_of_none e hd'), upd_ne (ne_of_none e fresh)]
    exact e
  have lus : us.length ≤ sizeLine := by
    rw [sizeLine_eq]
    omega
  have go := F1.run _ X.stack _ _ ⟨Value.ref (hp.objs.size + 1) :: us, kw⟩ [Value.ref (hp.objs.size + 1), u] _ _ E0 (hr.make C us kw) (J.env0.make C us kw) (bind _ _ J.kIn) (show Vals [V.ref (hp.objs.size + 1), v] [Value.ref (hp.objs.size + 1), u] from .cons rfl (.cons r .nil)) want
  refine wpAny_call (Vex.call_kw F.excBase_ValueError (fun Y => PySem.HandSPX.refsVE_contains Y bm hbm) (I.kIn _ _ hC) (PySem.W.looks_findIn I.kIn T.iC) (fun self => PySem.W.bind_fn I.kIn self T.tI) lus (codeAny_mono go fun res s' z => ?_))
  match res, z with
  | .ok (.ret u'), z =>
    obtain ⟨v', H2, J2, rv, ev, q2⟩ := J.after z
    subst ev
    exact ⟨rv, .ref _, H2, J2, rfl, q2⟩

/-- a class of errors as the law's defs use it -/
structure Ecl (P : Program) (w : World) (K : PySem.W.Frag) (mg : Str → Option Value) (base : Heap) (x : Str) (C : Addr) (fld : Str) : Prop where
  gC : mg x = some (.ref C)
  is : IsC K C
  no : PySem.W.findIn K (.ref C) fld = some none
  mks : ∃ fI fd, ErC K C fI fld ∧ FnOk P w K mg base CX0 1 fI fd ["self", fld] (spE K C fld) ∧
    (∀ (s : Shared) (a u : Value), K.In s.heap → BindsTo s fd ⟨[a, u], []⟩ ((["self", fld] : List Str).zip [a, u])) ∧
    (∀ (s : Shared) (a u : Value), K.In s.heap → BindsTo s fd ⟨[a], [(fld, u)]⟩ ((["self", fld] : List Str).zip [a, u]))
end

/-- x(e): a new error -/
def tErr (C : Addr) (fld : Str) (te : TE) : TE := fun σ H Q => te σ H fun v H1 => ∀ p H2, Same H1 H2 → H1 p = none → ErrAt H2 p C fld v → Q (.ref p) H2
section
variable {X : Cx} {C : Addr} {fld x : Str} {e : Expr} {te : TE} {p pos kpos : Pos}
theorem pe_mkE (T : Ecl X.prog X.w X.K X.mg X.base x C fld) (hr : Room 2 X.A) (he : PE X e te) (hg : Gl X x := by rfl) (hdb : (x == ("__debug__" : Str)) = false := by decide)
    (hs : starEach [e] X.env = (false, eval e X.env) :: starEach [] X.env := by rfl) : PE X (.Call (.Name x p) [e] [] pos) (tErr C fld te) := by
  refine ⟨fun pins s σ H Q I h => wpAny_Call_Name_kw (ld_glob I hg T.gC ?_ hdb)⟩
  obtain ⟨fI, fd, T1, F1, b1, b2⟩ := T.mks
  refine PySem.W.callWith_K (h₀ := X.base) I.ok.mod.kin T1.ox.kC ?_ hs (by rfl)
  rw [hs]
  show wpAny _ _ (spliced ((false, eval e X.env) :: backTo pos (starEach [] X.env))) _ _ s
  refine Calls.spliced_cons (thn (he.run pins s σ H _ I h) fun u s1 ⟨v, H1, J, ru, q⟩ => Calls.spliced_nil ⟨J.kIn, ?_⟩)
  exact run_mkE (us := [u]) (kw := []) T1 F1 hr (by show 1 ≤ 1000; decide) J ru (fun s' a kin => b1 s' a u kin) q
/-- x(fld=e) -/
theorem pe_mkEk (T : Ecl X.prog X.w X.K X.mg X.base x C fld) (hr : Room 2 X.A) (he : PE X e te) (hg : Gl X x := by rfl) (hdb : (x == ("__debug__" : Str)) = false := by decide) :
    PE X (.Call (.Name x p) [] [⟨some fld, e, kpos⟩] pos) (tErr C fld te) := by
  refine ⟨fun pins s σ H Q I h => wpAny_Call_Name_kw (ld_glob I hg T.gC ?_ hdb)⟩
  obtain ⟨fI, fd, T1, F1, b1, b2⟩ := T.mks
  refine PySem.W.callWith_KW0 (h₀ := X.base) I.ok.mod.kin T1.ox.kC (by rfl) ?_ (by rfl)
  show wpAny _ _ (evalAll [do let v ← eval e X.env; standAt pos; pure v]) _ _ s
  refine wpAny_evalAll_cons (wpAny_bind (thn (he.run pins s σ H _ I h) fun u s1 ⟨v, H1, J, ru, q⟩ => wpAny_bind (wpAny_standAt (wpAny_pure (wpAny_evalAll_nil ⟨J.kIn, ?_⟩)))))
  exact run_mkE (us := []) (kw := [(fld, u)]) T1 F1 hr (by show 0 ≤ 1000; decide) J ru (fun s' a kin => b2 s' a u kin) q
/-- e.fld of such an error -/
def tEfld (K : PySem.W.Frag) (n : Str) (te : TE) : TE := fun σ H Q => te σ H fun y H1 => ∃ (a C : Addr) (v : V), y = .ref a ∧ XfC K C ∧ PySem.W.findIn K (.ref C) n = some none ∧ ErrAt H1 a C n v ∧ Q v H1
theorem pe_efld {n : Str} (he : PE X e te) (hb : attributeBase e n X.env (eval e X.env) = eval e X.env := by rfl) : PE X (.Attribute e n pos) (tEfld X.K n te) := by
  refine ⟨fun pins s σ H Q I h => attr_of hb (thn (he.run pins s σ H _ I h) fun u s1 z => ?_)⟩
  obtain ⟨y, H1, J, ru, a, C, v, rfl, T, no, ⟨d, h1, h2⟩, q⟩ := z
  obtain rfl : u = Value.ref a := ru
  obtain ⟨t1, ob⟩ := exo_at J.hok h1
  obtain ⟨mA, ns, rel⟩ := exd_at J.hok h2
  obtain ⟨od, hod, look⟩ := lookIn_ns ns
  obtain ⟨u, hu, rv⟩ := RelO.some_of (v := v) (o := mA n) (by
    have := rel n
    rw [lookup_put, if_pos rfl] at this
    exact this)
  have at_ : PySem.W.InstAt s1.heap a _ C (some od) := ⟨ob, rfl, rfl, hod⟩
  exact PySem.HandSPX.exc_get J.kIn at_ T.ga T.gg T.exC (PySem.W.findObj_own T.hdC no rfl (by rw [look, hu])) (handed_of rv) ⟨v, H1, J.tok _, rv, q⟩
/-- isinstance(e, c) of such an error -/
def rIsx (K : PySem.W.Frag) : List V → Hp → VK → Prop := fun xs H Q => ∃ (a C : Addr) (c : V) (u : Value) (b : Bool), xs = [.ref a, c] ∧ ClsV c u ∧ ErrOf H a C ∧ IsC K C ∧ PySem.W.kitOne K (.ref C) u = some b ∧ Q (.bl b) H
theorem call_isx : CallR X (.builtin "isinstance") (rIsx X.K) := by
  intro pins s σ H xs us Q I r h
  obtain ⟨a, C, c, u, b, rfl, kc, er, T, e, q⟩ := h
  obtain ⟨u1, u2, rfl, r1, r2⟩ := vals2 r
  obtain rfl := kc.eq r2
  obtain rfl : u1 = Value.ref a := r1
  have kit : ∀ ox od, PySem.W.KitX X.K (.ref a) (.ref C) (fun h => PySem.W.InstAt h a ox C od) := fun ox od =>
    PySem.W.kitx_exc T.cl T.xf.ga T.xf.gg T.xf.exC T.ha T.hn T.tk T.hm
  rcases er with h1 | ⟨d, fs, h1, h2⟩
  · obtain ⟨t1, ob⟩ := exo_at I.hok h1
    exact PySem.W.kia_one (kit _ none) I.kIn ⟨ob, rfl, rfl, trivial⟩ e (fun z => nomatch z) fun tk => ⟨.bl b, H, I.tok tk, rfl, q⟩
  · obtain ⟨t1, ob⟩ := exo_at I.hok h1
    obtain ⟨mA, ns, rel⟩ := exd_at I.hok h2
    obtain ⟨od, hod, look⟩ := lookIn_ns ns
    exact PySem.W.kia_one (kit _ (some od)) I.kIn ⟨ob, rfl, rfl, hod⟩ e (fun z => nomatch z) fun tk => ⟨.bl b, H, I.tok tk, rfl, q⟩
end
/-- x(), a class of errors without an __init__ of its own -/
def tErr0 (C : Addr) : TE := fun _ H Q => ∀ p H2, Same H H2 → H p = none → ErrOf H2 p C → Q (.ref p) H2
theorem pe_mkE0 {X : Cx} {C : Addr} {x : Str} {p pos : Pos} {bmB : List Value} {B newId initId : String} (F : ExcBaseFacts B newId initId bmB) (q : PySem.W.excIn X.K C bmB newId = true)
    (gC : X.mg x = some (.ref C)) (kC : PySem.W.keepIn X.K (.ref C) = true) (hg : Gl X x := by rfl) (hdb : (x == ("__debug__" : Str)) = false := by decide) : PE X (.Call (.Name x p) [] [] pos) (tErr0 C) := by
  refine ⟨fun pins s σ H Q I h => wpAny_Call_Name_kw (ld_glob I hg gC (PySem.W.callWith_K0 I.kIn kC ?_) hdb)⟩
  show wpAny _ _ (call (.ref C) []) _ _ _
  obtain ⟨bm, N, nm, qn, bs, hdct, sn, sub, ab, col, dd, k0, k1, k2, k3, k5, mN, at_, hN, hni, T⟩ := exc_obj I.kIn q
  refine wpAny_call_exc_subT F T at_ hN hni (fun h' a made => ?_) (Nat.zero_le _)
  have fresh : H a = none := I.hok.gone made.new
  obtain ⟨t, ob, _, _⟩ := made.there
  have J := I.laidN (t' := s.toks) (o := exo a C none) made.keeps made.new fresh (exo_ok ob)
  exact ⟨.ref a, _, J, rfl, h a _ (fun b o e => by rw [upd_ne (ne_of_none e fresh)]; exact e) fresh (.inl upd_same)⟩

/-- a value as data: what Dp says, or a dict of one text and one int (the things that laws hand in) -/
inductive Dr (K : PySem.W.Frag) (H : Hp) : V → PyData → Prop where
  | of {v : V} {d : PyData} (h : Dp K H v d) (nd : d.hasDict = false) : Dr K H v d
  | one {a : Addr} {x : Str} {i : Int} (h : H a = some (.dK [(Sum.inr x, .int i)])) : Dr K H (.ref a) (.dict [(.str x, .int i)])
  | empty {a : Addr} (h : H a = some (.dK [])) : Dr K H (.ref a) (.dict [])
theorem Dr.reads {X : Cx} {pins : List (Addr × Obj)} {σ : L2.St} {H : Hp} {s : Shared} (I : Inv X pins σ H s) {v : V} {d : PyData} {u : Value} (h : Dr X.K H v d) (r : RelV v u) :
    ∃ as, Reads s.heap u d as ∧ (d.hasDict = true → sysModules ∉ as) := by
  cases h with
  | of h nd =>
    obtain ⟨as, q⟩ := Dp.reads I d v u h r
    exact ⟨as, q, PyData.noDict_hsm nd⟩
  | @one a x i h =>
    obtain rfl : u = Value.ref a := r
    obtain ⟨_, ns, vs, rel, o, es, ep, ho, hx, hd, _, hp, _⟩ := (show ObjOk X.prog X.w H s.heap a (.dK [(Sum.inr x, V.int i)]) from I.hok a _ h)
    have ne : sysModules ≠ a := fun z => by
      rw [z] at ns
      simp at ns
    cases rel with
    | @cons _ q0 _ _ r1 r2 =>
      cases r2
      obtain ⟨q1, q2⟩ := q0
      obtain ⟨e1, t2, rv⟩ := r1
      obtain rfl : Sum.inr x = q1 := e1
      obtain rfl : q2 = Value.int i t2 := rv
      obtain ⟨l⟩ := es
      cases hp with
      | @cons e0 _ es' _ isk ev rest =>
        cases rest
        obtain ⟨t, ek⟩ := Value.isStrOf_shape (x := x) (v := e0.key) isk
        refine ⟨_, Reads.dict ho hx.1 hd (as := []) (bs := []) ?_ ?_, fun _ z => ?_⟩
        · show ReadsAll s.heap [e0.key] [PyData.str x] []
          rw [ek]
          exact ReadsAll.cons (as := []) (bs := []) (Reads.str x t) ReadsAll.nil
        · show ReadsAll s.heap [e0.val] [PyData.int i] []
          rw [show e0.val = Value.int i t2 from ev]
          exact ReadsAll.cons (as := []) (bs := []) (Reads.int i t2) ReadsAll.nil
        · exact ne (List.mem_singleton.mp z)
  | @empty a h =>
    obtain rfl : u = Value.ref a := r
    obtain ⟨_, ns, vs, rel, o, es, ep, ho, hx, hd, _, hp, _⟩ := (show ObjOk X.prog X.w H s.heap a (.dK []) from I.hok a _ h)
    have ne : sysModules ≠ a := fun z => by
      rw [z] at ns
      simp at ns
    cases rel
    obtain ⟨l⟩ := es
    cases hp
    exact ⟨_, Reads.dict ho hx.1 hd (as := []) (bs := []) ReadsAll.nil ReadsAll.nil, fun _ z => ne (List.mem_singleton.mp z)⟩
/-- repr(v): the text of the data -/
def rRepr (K : PySem.W.Frag) (bound : Nat) : List V → Hp → VK → Prop := fun xs H Q => ∃ v d, xs = [v] ∧ Dr K H v d ∧ d.showable = true ∧ d.depth < bound ∧ d.shown.length ≤ sizeLine ∧ Q (.str d.shown) H
theorem call_reprD {X : Cx} (hg : X.A.guards = some []) (hu : X.A.units + 64 < cLine) : CallR X (.builtin "repr") (rRepr X.K 60) := by
  intro pins s σ H xs us Q I r h
  obtain ⟨v, d, rfl, dr, sh, dep, sz, q⟩ := h
  obtain ⟨u, rfl, ru⟩ := vals1 r
  obtain ⟨as, rd, nosys⟩ := dr.reads I ru
  have fin : ∀ h' t tk, (∀ b o, s.heap.get? b = some o → h'.get? b = some o) → EP X pins σ Q (.str d.shown t) { s with heap := h', toks := tk } :=
    fun h' t tk keep => ⟨.str d.shown, H, I.kept keep, ⟨t, rfl⟩, q⟩
  cases rd with
  | none => exact PySem.P.repr_of_none (fin s.heap _ _ fun _ _ e => e)
  | bool b => exact PySem.P.repr_of_bool (fin s.heap _ _ fun _ _ e => e)
  | int i t => exact PySem.P.repr_of_int (by simpa [PyData.showable] using sh) (fin s.heap _ _ fun _ _ e => e)
  | str x t => exact PySem.P.repr_of_str (fin s.heap _ _ fun _ _ e => e) (by simpa [PyData.shown] using sz)
  | list h1 h2 h3 h4 => exact repr_of_reads' (.list h1 h2 h3 h4) sh nosys hg (by omega) (fun _ _ e => e) fin sz
  | tuple h1 h2 h3 h4 => exact repr_of_reads' (.tuple h1 h2 h3 h4) sh nosys hg (by omega) (fun _ _ e => e) fin sz
  | dict h1 h2 h3 h4 h5 => exact repr_of_reads' (.dict h1 h2 h3 h4 h5) sh nosys hg (by omega) (fun _ _ e => e) fin sz
end Vx

set_option Elab.async false
set_option linter.all false
set_option maxRecDepth 100000
set_option maxHeartbeats 4000000
/-! Own layer, part E: what the written part says of a class of errors, by one look. -/
namespace Vx
open PySem PySem.Spec PyProof.Rows L2
/-- all that is asked of such a class but its own object -/
def errB (K : PySem.W.Frag) (C fI : Addr) (fld : Str) : Bool :=
  decide (PySem.W.findIn K (.ref C) "__setattr__" = some (some (.builtin "object.__setattr__"))) && (decide (PySem.W.subIn K (.ref C) (.type "BaseException") = some true) &&
  (decide (PySem.W.typeIn K (.ref C) = some (.type "type")) && (PySem.W.keepIn K (.ref C) && (decide (PySem.W.findIn K (.ref C) fld = some none) &&
  (decide (PySem.W.findIn K (.ref C) "__init__" = some (some (.ref fI))) && (decide (PySem.W.typeIn K (.ref fI) = some (.type "function")) && PySem.W.keepIn K (.ref fI)))))))
def isB (K : PySem.W.Frag) (C : Addr) : Bool :=
  (PySem.W.clsIn K C).isSome && (xfB K C && (decide (PySem.W.findIn K (.ref C) "__class__" = some (some (.builtin "object.__class__"))) &&
  (decide (PySem.W.specialIn K (.builtin "object.__class__") "__get__" = some (some (.builtin "getset_descriptor.__get__"))) && (decide (PySem.W.takesIn K (.builtin "object.__class__") = some true) &&
  decide (PySem.W.mroIn K C (.type "object") = some true)))))
theorem isB_ok {K : PySem.W.Frag} {C : Addr} (h : isB K C = true) : IsC K C := by
  unfold isB at h
  simp only [Bool.and_eq_true, decide_eq_true_eq] at h
  obtain ⟨h1, h2, h3, h4, h5, h6⟩ := h
  exact ⟨h1, xfB_ok h2, h3, h4, h5, h6⟩
theorem ecl_mk {P : Program} {w : World} {K : PySem.W.Frag} {h : Heap} {mg : Str → Option Value} {x : Str} {C fI : Addr} {fld : Str} {st : Stmt} {p1 p2 p3 p4 : Pos}
    {nm q : Str} {N : Addr} {bs bm : List Value} {sn : List Str} {sub : List Value} {ab : Bool} {col : Option Bool} {dd : Option Addr} {m0 m1 m2 m3 m5 : Option Value} {qual : Str}
    {od an : Option Addr} {sl : Array (Option Value)} {oc kV dc pm cd ct : Value} (X : K.In h) (G : h.Ns mainGlobals mg)
    (aC : PySem.W.nsIn K mainGlobals x = some (some (.ref C)))
    (xL : K.lookup C = some (excClassObj nm q C N bs bm true sn sub ab col dd m0 m1 m2 m3 m5 "ValueError.__new__")) (hbm : PySem.HandSPX.refsVE bm = true)
    (eB : errB K C fI fld = true) (iB : isB K C = true)
    (l1 : K.lookup fI = some ⟨oc, od, .func (PySem.W.fnOf "__init__" qual (defArgs st) (defBody st) (defScope st) .none kV dc pm an cd ct), sl⟩) (c1 : PySem.W.codeIn K cd qual = true)
    (hb : defBody st = [.Assign [.Attribute (.Name "self" p1) fld p2] (.Name fld p3) p4])
    (sc : FnScope ["self", fld] ["self", fld] (defScope st)) (v1 : (defScope st).names.lookup ("self" : Str) = some NameKind.local) (v2 : (defScope st).names.lookup fld = some NameKind.local)
    (n1 : (fld == ("__debug__" : Str)) = false) (n2 : (fld == ("__classdict__" : Str)) = false)
    (b1 : ∀ (a u : Value), bindArgs (PySem.W.fnOf "__init__" qual (defArgs st) (defBody st) (defScope st) .none kV dc pm an cd ct) ⟨[a, u], []⟩ = pure ((["self", fld] : List Str).zip [a, u]))
    (b2 : ∀ (a u : Value), bindArgs (PySem.W.fnOf "__init__" qual (defArgs st) (defBody st) (defScope st) .none kV dc pm an cd ct) ⟨[a], [(fld, u)]⟩ = pure ((["self", fld] : List Str).zip [a, u]))
    (base : Heap) : Ecl P w K mg base x C fld := by
  unfold errB at eB
  simp only [Bool.and_eq_true, decide_eq_true_eq] at eB
  obtain ⟨sa, exC, tyC, kC, no, iC, tI, kI⟩ := eB
  have T : ErC K C fI fld := ⟨⟨⟨nm, q, N, bs, bm, sn, sub, ab, col, dd, m0, m1, m2, m3, m5, xL, hbm⟩, sa, exC, tyC, kC⟩, no, iC, tI⟩
  have F := fun_mk (st := st) l1 c1 kI
  exact ⟨PySem.W.mg_of X G aC, isB_ok iB, no, fI, _, T, ok_einit T F hb sc v1 v2 n1 n2, fun s a u _ => .of_eq (b1 a u), fun s a u _ => .of_eq (b2 a u)⟩
end Vx

set_option Elab.async false
set_option linter.all false
set_option maxRecDepth 100000
set_option maxHeartbeats 4000000
/-! Own layer, part R: operators where one side is an instance of a class of the program, the other one of another kind. -/
namespace PySem.Vr
open PySem PySem.W PySem.Calls PyProof.Rows

section
variable {prog : Program} {w : World} {M : Model} {A : Around} {E : Value → Shared → Prop} {s : Shared} {K : Frag} {x C f : Addr} {ox : Obj} {od : Option Obj}

/-- the object is no int and no text -/
theorem looks_asInt {h : Heap} (ho : h.get? x = some ox) (hd : ox.data = .plain) : Looks M h (asInt? (.ref x)) none := by
  refine (Looks.ld (part := none) ho).andThen ?_
  simp only [hd]
  exact .now
theorem looks_asStr {h : Heap} (ho : h.get? x = some ox) (hd : ox.data = .plain) : Looks M h (asStr? (.ref x)) none := by
  refine (Looks.ld (part := none) ho).andThen ?_
  simp only [hd]
  exact .now
/-- a slot of two ints (or a bool) declines it -/
theorem intBin_no {n : String} {g : Int → Int → Sem Fin} {refl : Bool} {v : Value} {R : Fin → Shared → Prop} (hv : (∃ i t, v = .int i t) ∨ ∃ b, v = .bool b) (ho : s.heap.get? x = some ox) (hd : ox.data = .plain)
    (q : R (.done (.ret .notImplemented)) s) : wpAny M A (Builtin.Int.intBinary n g refl ⟨[v, .ref x], []⟩) R E s := by
  unfold Builtin.Int.intBinary
  refine wpAny_bind (m := slotArgs n 1 _) (wpAny_pure ?_)
  refine wpAny_bind (m := Builtin.Int.intOfSelf v) (Q := R) ?_
  have one : ∃ j, asInt? v = pure (some j) := by
    rcases hv with ⟨i, t, rfl⟩ | ⟨b, rfl⟩
    · exact ⟨_, rfl⟩
    · exact ⟨_, rfl⟩
  obtain ⟨j, e⟩ := one
  unfold Builtin.Int.intOfSelf
  refine wpAny_bind (wpAny_of_eq e (wpAny_pure ?_))
  refine wpAny_bind (m := asInt? (.ref x)) ((looks_asInt ho hd).here ?_)
  exact wpAny_bind (wpAny_rule (wpAny_pure q))
theorem strCmp_no {n : String} {g : List Nat → List Nat → Bool} {z : Str} {t : Tok} {R : Fin → Shared → Prop} (ho : s.heap.get? x = some ox) (hd : ox.data = .plain)
    (q : R (.done (.ret .notImplemented)) s) : wpAny M A (Builtin.Str.strCompare n g ⟨[.str z t, .ref x], []⟩) R E s := by
  unfold Builtin.Str.strCompare
  refine wpAny_bind (m := Builtin.Str.strSlot n 1 _) (wpAny_pure ?_)
  refine wpAny_bind (m := asStr? (.ref x)) ((looks_asStr ho hd).here ?_)
  exact wpAny_bind (wpAny_rule (wpAny_pure q))

/-- a method of a type that declines -/
theorem try_no {T : String} {name : Str} {id : String} {B : Builtin} {v b : Value} {Q : Option Value → Shared → Prop} (hT : s.TypeIs v T) (slot : Slot T name id) (entry : entryFor table id = some B) (args : argsOk id ⟨[v, b], []⟩)
    (body : ∀ (A' : Around) (R : Fin → Shared → Prop) (E' : Value → Shared → Prop), R (.done (.ret .notImplemented)) s → wpAny (model prog w) A' (B ⟨[v, b], []⟩) R E' s) (q : Q none s) :
    wpAny (model prog w) A (tryMethod v name b) Q E s := by
  unfold tryMethod
  exact wpAny_bind (wpAny_callSpecial?_slot hT slot (wpAny_call (codeAny_call_builtin slot.plain entry (slot.check _ _ _ _ _ _ _ _ hT args (body _ _ _ (wpAny_pure q))))))
theorem cmp_no {T : String} {name : Str} {id : String} {B : Builtin} {v b : Value} {Q : Option Value → Shared → Prop} (hT : s.TypeIs v T) (slot : Slot T name id) (entry : entryFor table id = some B) (args : argsOk id ⟨[v, b], []⟩)
    (body : ∀ (A' : Around) (R : Fin → Shared → Prop) (E' : Value → Shared → Prop), R (.done (.ret .notImplemented)) s → wpAny (model prog w) A' (B ⟨[v, b], []⟩) R E' s) (q : Q none s) :
    wpAny (model prog w) A (tryCompare v name b) Q E s :=
  wpAny_tryCompare_declines hT slot (wpAny_call (codeAny_call_builtin slot.plain entry (slot.check _ _ _ _ _ _ _ _ hT args (body _ _ _ ⟨rfl, q⟩))))

/-- an int on the left, an instance with the reflected method on the right -/
theorem bin_int {op : Operator} {i : Int} {t : Tok} {f0 : Addr} {Q : Value → Shared → Prop} (X : K.In s.heap) (I : InstAt s.heap x ox C od) (hc : selfFirst K C = true)
    (hs0 : findIn K (.ref C) (PySem.dunder op.info.2) = some (some (.ref f0))) (hs : findIn K (.ref C) (dunderR op.info.2) = some (some (.ref f))) (hf : isFn K (.ref f) = true)
    (fi : fillsNumberSlot (.type "int") op.info.2 = pure true) (hm : mroIn K C (.type "int") = some false)
    (no : ∀ (A' : Around) (Q : Option Value → Shared → Prop) (E' : Value → Shared → Prop), Q none s → wpAny (model prog w) A' (tryMethod (.int i t) (PySem.dunder op.info.2) (.ref x)) Q E' s)
    (h : wpAny (model prog w) A (call (.ref f) [.ref x, .int i t]) (PySem.W.CmpBack Q) E s) : wpAny (model prog w) A (binaryOp op (.int i t) (.ref x)) Q E s := by
  obtain ⟨cd, rest, hcd, hm'⟩ := ksp_first hc
  rcases hi : op.info with ⟨sym, nm⟩
  rw [hi] at hs0 hs fi no
  dsimp only at hs0 hs fi no
  have one := ksp_try X I hs hf h
  obtain ⟨hh, g, d, tt, os⟩ := s
  have L1 : Looks (model prog w) hh (typeOf (.ref x)) (.ref C) := I.type
  have L2 : Looks (model prog w) hh (typeOf (.int i t)) (.type "int") := Looks.of_pure rfl
  have L3 : Looks (model prog w) hh (fillsNumberSlot (.ref C) nm) true := fills_K X hcd hm' hs0
  have L4 : Looks (model prog w) hh (fillsNumberSlot (.type "int") nm) true := Looks.of_pure fi
  have L5 : Looks (model prog w) hh (isSubtype (.ref C) (.type "int")) false := looks_mroIn X hm
  have L7 : Looks (model prog w) hh (numberSlotInPython (.type "int") nm) false := Looks.of_pure rfl
  have hne : (Value.type "int" == Value.ref C) = false := Bool.eq_false_iff.mpr fun q => by cases beq_iff_eq.mp q
  simp only [binaryOp, hi]
  refine wpAny_holding (wpAny_bind ?_)
  unfold binaryOp1
  refine wpAny_bind (L2.at (wpAny_bind (L1.at (wpAny_bind (L4.at ?_)))))
  simp only [hne, Bool.false_eq_true, if_false]
  ksp_lk
  refine no _ _ _ ?_
  ksp_lk
  refine wpAny_mono one (fun r s' hr' => ?_) fun _ _ e => e
  obtain ⟨v, rfl, hq⟩ := hr'
  ksp_lk
  exact hq

/-- two instances of one class -/
theorem bin1_own {nm : String} {b : Value} {Q : Value → Shared → Prop} {R : Option Value → Shared → Prop} (X : K.In s.heap) (I : InstAt s.heap x ox C od) (hb : Looks (model prog w) s.heap (typeOf b) (.ref C)) (hc : selfFirst K C = true)
    (hs : findIn K (.ref C) (PySem.dunder nm) = some (some (.ref f))) (hf : isFn K (.ref f) = true) (hR : ∀ v s', Q v s' → R (some v) s')
    (h : wpAny (model prog w) A (call (.ref f) [.ref x, b]) (PySem.W.CmpBack Q) E s) : wpAny (model prog w) A (binaryOp1 nm (.ref x) b) R E s := by
  obtain ⟨cd, rest, hcd, hm⟩ := ksp_first hc
  have one := ksp_try X I hs hf h
  obtain ⟨hh, g, d, tt, os⟩ := s
  have L1 : Looks (model prog w) hh (typeOf (.ref x)) (.ref C) := I.type
  have L2 : Looks (model prog w) hh (typeOf b) (.ref C) := hb
  have L3 : Looks (model prog w) hh (fillsNumberSlot (.ref C) nm) true := fills_K X hcd hm hs
  unfold binaryOp1
  refine wpAny_bind (L1.at (wpAny_bind (L2.at (wpAny_bind (L3.at ?_)))))
  simp only [beq_self_eq_true, if_true]
  ksp_lk
  refine wpAny_mono one (fun r s' hr' => ?_) fun _ _ e => e
  obtain ⟨v, rfl, hq⟩ := hr'
  ksp_lk
  exact hR _ _ hq
/-- no method in place -/
theorem fillsI_no {h : Heap} {cd : ClassData} {nm : String} {add : Bool} (X : K.In h) (hc : clsIn K C = some cd) (hm : cd.mro = [.ref C, .type "object"]) (hs : findIn K (.ref C) (dunderI nm) = some none)
    (ho : typeLookup (.type "object") (dunderI nm) = pure none) : Looks M h (fillsInplaceSlot (.ref C) nm add) false := by
  intro A Q E s k q
  have Lm : Looks M h (mroOf (.ref C)) cd.mro := (looks_clsIn X hc).andThen (f := fun cd => pure cd.mro) .now
  have Lm' := Lm.keeps k
  obtain ⟨hh, g, d, tt, os⟩ := s
  have X' : K.In hh := X.keeps k
  have L1 : Looks M hh (typeLookup (.ref C) (dunderI nm)) none := looks_findIn X' hs
  have L2 : Looks M hh (typeLookup (.type "object") (dunderI nm)) none := Looks.of_pure ho
  unfold fillsInplaceSlot
  refine wpAny_bind (Lm'.at ?_)
  rw [hm, List.anyM_cons]
  refine wpAny_bind ?_
  refine wpAny_bind (L1.at (wpAny_pure ?_))
  simp only [Bool.false_eq_true, if_false]
  rw [List.anyM_cons]
  refine wpAny_bind ?_
  refine wpAny_bind (L2.at (wpAny_pure ?_))
  simp only [Bool.false_eq_true, if_false]
  exact wpAny_pure q
theorem inp_own {op : Operator} {b : Value} {cd : ClassData} {Q : Value → Shared → Prop} (X : K.In s.heap) (I : InstAt s.heap x ox C od) (hb : Looks (model prog w) s.heap (typeOf b) (.ref C)) (hc : selfFirst K C = true)
    (hcd : clsIn K C = some cd) (hm : cd.mro = [.ref C, .type "object"]) (hi : findIn K (.ref C) (dunderI op.info.2) = some none) (ho : typeLookup (.type "object") (dunderI op.info.2) = pure none)
    (hs : findIn K (.ref C) (PySem.dunder op.info.2) = some (some (.ref f))) (hf : isFn K (.ref f) = true)
    (h : wpAny (model prog w) A (call (.ref f) [.ref x, b]) (PySem.W.CmpBack Q) E s) : wpAny (model prog w) A (inplaceOp op (.ref x) b) Q E s := by
  unfold inplaceOp
  refine wpAny_holding ?_
  refine wpAny_bind (I.type.here (wpAny_bind ((fillsI_no X hcd hm hi ho).here ?_)))
  simp only [Bool.false_eq_true, if_false]
  exact wpAny_bind (m := binaryOp1 op.info.2 (.ref x) b) (bin1_own X I hb hc hs hf (fun v s' hq => wpAny_pure hq) h)
end
end PySem.Vr

set_option Elab.async false
set_option linter.all false
set_option maxRecDepth 100000
set_option maxHeartbeats 4000000
/-! Own layer, part R2: == and != where one side is an instance of a class of the program. -/
namespace PySem.Vr
open PySem PySem.W PySem.Calls PyProof.Rows

section
variable {prog : Program} {w : World} {M : Model} {A : Around} {E : Value → Shared → Prop} {s : Shared} {K : Frag} {x C f : Addr} {ox : Obj} {od : Option Obj}

/-- a method of object, found at an instance, called where the model looks whether it can be bound -/
theorem ifBound_bi {name : Str} {id : String} {args : List Value} {Q : Option Value → Shared → Prop} (X : K.In s.heap) (I : PySem.W.InstAt s.heap x ox C od) (hs : findIn K (.ref C) name = some (some (.builtin id)))
    (hb : ∀ self, bindSpecial (.builtin id) self = pure (.builtin id, [self])) (h : wpAny M A (call (.builtin id) (.ref x :: args)) (fun v => Q (some v)) E s) : wpAny M A (callSpecialIfBound? (.ref x) name args) Q E s := by
  simp only [callSpecialIfBound?, bindSpecialIfBound?]
  refine wpAny_holding (wpAny_bind (wpAny_bind (wpAny_bind (I.type.here ((looks_findIn X hs).here ?_)))))
  refine wpAny_bind (wpAny_askSetting (wpAny_ite ?_))
  have fin : wpAny M A (call (.builtin id) ([.ref x] ++ args) >>= fun v => pure (some v)) Q E s := wpAny_bind (wpAny_mono h (fun v s' h' => wpAny_pure h') fun _ _ h' => h')
  split
  · exact wpAny_bind (wpAny_of_eq (hb _) (wpAny_pure (by exact fin)))
  · exact wpAny_tryCatch (wpAny_bind (wpAny_of_eq (hb _) (wpAny_pure (by exact fin))))

/-- object's own != by the class's == -/
theorem call_objNe {b : Value} {Q : Value → Shared → Prop} (hu : A.in1.units < cLine) (X : K.In s.heap) (I : PySem.W.InstAt s.heap x ox C od) (hm : mroIn K C (.type "object") = some true) (hs : findIn K (.ref C) "__eq__" = some (some (.ref f)))
    (hf : isFn K (.ref f) = true) (h : wpAny (model prog w) A.in1 (call (.ref f) [.ref x, b]) (fun v s' => ∃ r, v = .bool r ∧ Q (.bool (!r)) s') E s) :
    wpAny (model prog w) A (call (.builtin "object.__ne__") [.ref x, b]) Q E s := by
  refine wpAny_call (codeAny_call_builtin PySem.F.cmp_object.ne.plain PySem.F.cmpEntry_ne (check_slot PySem.F.cmpKind_ne PySem.F.cmpSplit_ne (I.type.andThen (looks_mroIn X hm)) (PySem.F.cmpArgs_ne _ _) ?_))
  unfold Builtin.«object.__ne__»
  refine wpAny_bind (m := slotArgs "__ne__" 1 _) (wpAny_pure ?_)
  refine wpAny_bind (m := cRoomFor _ _) (wpAny_cRoomFor hu ?_)
  refine wpAny_bind (m := callSpecialIfBound? (.ref x) (Str.ofString "__eq__") _) (ifBound_K X I hs hf (wpAny_mono h (fun r s' hq => ?_) fun _ _ y => y))
  obtain ⟨r, rfl, q⟩ := hq
  exact wpAny_bind (wpAny_truthy_bool (wpAny_pure q))

/-- an instance on the left of != -/
theorem ne_left {b tb : Value} {Q : Value → Shared → Prop} (hu : A.units < cLine) (hu1 : A.in1.units < cLine) (X : K.In s.heap) (I : PySem.W.InstAt s.heap x ox C od) (hb : Looks (model prog w) s.heap (typeOf b) tb) (hn : notFirst K C tb = true)
    (hne : findIn K (.ref C) "__ne__" = some (some (.builtin "object.__ne__"))) (hm : mroIn K C (.type "object") = some true) (hs : findIn K (.ref C) "__eq__" = some (some (.ref f)))
    (hf : isFn K (.ref f) = true) (h : wpAny (model prog w) A.in1 (call (.ref f) [.ref x, b]) (fun v s' => ∃ r, v = .bool r ∧ Q (.bool (!r)) s') E s) : wpAny (model prog w) A (richCompare .NotEq (.ref x) b) Q E s := by
  have one : wpAny (model prog w) A (tryCompare (.ref x) "__ne__" b) (fun r s' => ∃ v, r = some v ∧ Q v s') E s := by
    unfold tryCompare
    refine wpAny_bind (ifBound_bi X I hne PySem.F.cmp_object.ne.bind (call_objNe hu1 X I hm hs hf (wpAny_mono h (fun v s' hv => ?_) fun _ _ e => e)))
    obtain ⟨r, rfl, q⟩ := hv
    exact ⟨r, rfl, wpAny_pure ⟨_, rfl, q⟩⟩
  unfold richCompare
  simp only [oneThing_ref]
  refine wpAny_holding (wpAny_bind (wpAny_cRoomFor hu ?_))
  rw [cmpInfo_NotEq]
  dsimp only
  refine wpAny_bind (I.type.here (wpAny_bind (hb.here ?_)))
  split
  · rename_i q
    have e : subIn K tb (.ref C) = some false := by
      rcases Bool.or_eq_true_iff.mp hn with e | e
      · rw [beq_iff_eq.mp e] at q; simp at q
      · exact beq_iff_eq.mp e
    refine wpAny_bind ((looks_subIn X e).here ?_)
    simp only [Bool.false_eq_true, if_false]
    refine wpAny_bind (wpAny_mono one (fun r s' z => ?_) fun _ _ e => e)
    obtain ⟨v, rfl, hq⟩ := z
    exact wpAny_pure hq
  · refine wpAny_bind (wpAny_pure ?_)
    simp only [Bool.false_eq_true, if_false]
    refine wpAny_bind (wpAny_mono one (fun r s' z => ?_) fun _ _ e => e)
    obtain ⟨v, rfl, hq⟩ := z
    exact wpAny_pure hq

/-- an instance on the right of ==, a thing of a built-in type that declines on the left -/
theorem eq_right {T : String} {b : Value} {Q : Value → Shared → Prop} (hu : A.units < cLine) (X : K.In s.heap) (I : PySem.W.InstAt s.heap x ox C od) (hT : s.TypeIs b T) (hm : mroIn K C (.type T) = some false)
    (no : ∀ (A' : Around) (Q : Option Value → Shared → Prop) (E' : Value → Shared → Prop), Q none s → wpAny (model prog w) A' (tryCompare b "__eq__" (.ref x)) Q E' s)
    (hs : findIn K (.ref C) "__eq__" = some (some (.ref f))) (hf : isFn K (.ref f) = true)
    (h : wpAny (model prog w) A (call (.ref f) [.ref x, b]) (PySem.W.CmpBack Q) E s) : wpAny (model prog w) A (richCompare .Eq b (.ref x)) Q E s := by
  have one : wpAny (model prog w) A (tryCompare (.ref x) "__eq__" b) (fun r s' => ∃ v, r = some v ∧ Q v s') E s := by
    unfold tryCompare
    refine wpAny_bind (ifBound_K X I hs hf (wpAny_mono h (fun v s' hv => ?_) fun _ _ e => e))
    cases v <;> first | exact hv.elim | exact wpAny_pure ⟨_, rfl, hv⟩
  unfold richCompare
  simp only [hT.oneThing_none]
  refine wpAny_holding (wpAny_bind (wpAny_cRoomFor hu ?_))
  rw [cmpInfo_Eq]
  dsimp only
  refine wpAny_bind (wpAny_typeOf hT (wpAny_bind (I.type.here ?_)))
  rw [if_pos (show (Value.type T != Value.ref C) = true from by simp [bne])]
  refine wpAny_bind (m := isSubtype (.ref C) (.type T)) ((looks_mroIn X hm).here ?_)
  simp only [Bool.false_eq_true, if_false, Bool.not_false, if_true]
  refine wpAny_bind (no _ _ _ ?_)
  refine wpAny_bind (wpAny_mono one (fun r s' z => ?_) fun _ _ e => e)
  obtain ⟨v, rfl, hq⟩ := z
  exact wpAny_pure hq

theorem looks_isa {h : Heap} {b : Value} {r : Bool} (X : K.In h) (I : PySem.W.InstAt h x ox C od) (hm : mroIn K C b = some r) : Looks M h (isInstance (.ref x) b) r := by
  unfold isInstance
  exact I.type.andThen (looks_mroIn X hm)
/-- the built-in types that decline it -/
theorem no_none {Q : Option Value → Shared → Prop} (q : Q none s) : wpAny (model prog w) A (tryCompare .none "__eq__" (.ref x)) Q E s :=
  wpAny_tryCompare_declines (show s.TypeIs .none "NoneType" from rfl) PySem.F.slot_NoneType_eq_refl (call_gives PySem.F.slot_NoneType_eq_refl rfl PySem.F.entry_NoneType_eq (PySem.F.args_NoneType_eq_2 _ _) (SeqAt.NoneType___eq___none_ref_0 x) ⟨rfl, q⟩)
theorem no_int {i : Int} {t : Tok} {Q : Option Value → Shared → Prop} (ho : s.heap.get? x = some ox) (hd : ox.data = .plain) (q : Q none s) : wpAny (model prog w) A (tryCompare (.int i t) "__eq__" (.ref x)) Q E s :=
  cmp_no (T := "int") rfl PySem.F.slot_int_eq_refl PySem.F.entry_int_eq (PySem.F.args_int_eq_2 _ _) (fun A' R E' k => intBin_no (.inl ⟨_, _, rfl⟩) ho hd k) q
theorem no_bool {b : Bool} {Q : Option Value → Shared → Prop} (ho : s.heap.get? x = some ox) (hd : ox.data = .plain) (q : Q none s) : wpAny (model prog w) A (tryCompare (.bool b) "__eq__" (.ref x)) Q E s :=
  cmp_no (T := "bool") rfl PySem.F.slot_bool_eq_refl PySem.F.entry_int_eq (PySem.F.args_int_eq_2 _ _) (fun A' R E' k => intBin_no (.inr ⟨_, rfl⟩) ho hd k) q
theorem no_str {z : Str} {t : Tok} {Q : Option Value → Shared → Prop} (ho : s.heap.get? x = some ox) (hd : ox.data = .plain) (q : Q none s) : wpAny (model prog w) A (tryCompare (.str z t) "__eq__" (.ref x)) Q E s :=
  cmp_no (T := "str") rfl PySem.F.slot_str_eq_refl PySem.F.entry_str_eq (PySem.F.args_str_eq_2 _ _) (fun A' R E' k => strCmp_no ho hd k) q
theorem no_list {l : Addr} {Q : Option Value → Shared → Prop} (X : K.In s.heap) (I : PySem.W.InstAt s.heap x ox C od) (hm : mroIn K C (.type "list") = some false) (hT : s.TypeIs (.ref l) "list") (q : Q none s) : wpAny (model prog w) A (tryCompare (.ref l) "__eq__" (.ref x)) Q E s :=
  cmp_no hT PySem.F.slot_list_eq_refl PySem.F.entry_list_eq (PySem.F.args_list_eq_2 _ _) (fun A' R E' k => by
    unfold Builtin.«list.__eq__»
    refine wpAny_bind (m := slotArgs "__eq__" 1 _) (wpAny_pure ?_)
    refine wpAny_bind (m := isInstance (.ref x) (.type "list")) ((looks_isa X I hm).here ?_)
    exact wpAny_pure k) q
theorem no_tuple {l : Addr} {Q : Option Value → Shared → Prop} (X : K.In s.heap) (I : PySem.W.InstAt s.heap x ox C od) (hm : mroIn K C (.type "tuple") = some false) (hT : s.TypeIs (.ref l) "tuple") (q : Q none s) : wpAny (model prog w) A (tryCompare (.ref l) "__eq__" (.ref x)) Q E s :=
  cmp_no hT PySem.F.slot_tuple_eq_refl PySem.F.entry_tuple_eq (PySem.F.args_tuple_eq_2 _ _) (fun A' R E' k => by
    unfold Builtin.«tuple.__eq__»
    refine wpAny_bind (m := slotArgs "__eq__" 1 _) (wpAny_pure ?_)
    refine wpAny_bind (m := isInstance (.ref x) (.type "tuple")) ((looks_isa X I hm).here ?_)
    exact wpAny_pure k) q
theorem no_dict {l : Addr} {Q : Option Value → Shared → Prop} (X : K.In s.heap) (I : PySem.W.InstAt s.heap x ox C od) (hm : mroIn K C (.type "dict") = some false) (hT : s.TypeIs (.ref l) "dict") (q : Q none s) : wpAny (model prog w) A (tryCompare (.ref l) "__eq__" (.ref x)) Q E s :=
  cmp_no hT PySem.F.slot_dict_eq_refl PySem.F.entry_dict_eq (PySem.F.args_dict_eq_2 _ _) (fun A' R E' k => by
    unfold Builtin.«dict.__eq__»
    refine wpAny_bind (m := Builtin.Dict.dictSlotArgs "__eq__" _) ?_
    unfold Builtin.Dict.dictSlotArgs
    refine wpAny_bind (m := Builtin.Dict.notOrdered "__eq__" _) ?_
    unfold Builtin.Dict.notOrdered
    refine wpAny_pure ?_
    refine wpAny_bind (m := slotArgs "__eq__" 1 _) (wpAny_pure (wpAny_pure ?_))
    refine wpAny_bind (m := isInstance (.ref x) (.type "dict")) ((looks_isa X I hm).here ?_)
    exact wpAny_bind (wpAny_rule (wpAny_pure k))) q
end
end PySem.Vr

set_option Elab.async false
set_option linter.all false
set_option maxRecDepth 100000
set_option maxHeartbeats 4000000
/-! Own layer, part R3: rules for expressions of operators on instances of a class of the program. -/
namespace Vr
open PySem PySem.Spec PyProof.Rows L2 Vx

/-- what is asked of the class -/
structure Own (K : PySem.W.Frag) (C : Addr) : Prop where
  cls : Cls K C
  first : PySem.W.selfFirst K C = true
  obj : PySem.W.mroIn K C (.type "object") = some true
  noInt : PySem.W.mroIn K C (.type "int") = some false
/-- its method of the name -/
structure Mth (P : Program) (w : World) (K : PySem.W.Frag) (mg : Str → Option Value) (base : Heap) (C : Addr) (name : Str) (k : Nat) (ps : List Str) (sp : Sp) : Prop where
  ex : ∃ f fd, PySem.W.findIn K (.ref C) name = some (some (.ref f)) ∧ PySem.W.isFn K (.ref f) = true ∧ FnOk P w K mg base CX0 k f fd ps sp ∧ Binds K fd ps []
/-- an answer of such a method -/
def Nn (v : V) : Prop := (∃ p, v = .ref p) ∨ ∃ b, v = .bl b
theorem back {Q : Value → Shared → Prop} {v : V} {u : Value} {s' : Shared} (n : Nn v) (r : RelV v u) (q : Q u s') : PySem.W.CmpBack Q u s' := by
  rcases n with ⟨p, rfl⟩ | ⟨b, rfl⟩
  · obtain rfl : u = .ref p := r
    exact q
  · obtain rfl : u = .bool b := r
    exact q
section
variable {X : Cx} {pins : List (Addr × Obj)} {σ : L2.St} {H : Hp} {s : Shared} {C a dx : Addr} {fs : List (Str × V)} {k : Nat} {ps : List Str} {sp : Sp}
theorem inst_at (I : Inv X pins σ H s) (h : H a = some (.ins C dx fs)) : ∃ ox od, PySem.W.InstAt s.heap a ox C od ∧ ox.data = .plain := by
  obtain ⟨mA, J, _⟩ := ins_get I.hok h
  obtain ⟨od, J, _⟩ := J.look
  exact ⟨_, od, J, rfl⟩
theorem calls {f : Addr} {fd : FuncData} {Q : VK} {us : List Value} {vs : List V} (F : FnOk X.prog X.w X.K X.mg X.base CX0 k f fd ps sp) (hr : Room k X.A) (hb : Binds X.K fd ps []) (I : Inv X pins σ H s) (r : Vals vs us)
    (h : sp vs H (fun v H' => Nn v ∧ Q v H') E0) : wpAny (model X.prog X.w) X.A (call (.ref f) us) (PySem.W.CmpBack (EP X pins σ Q)) X.xe s := by
  refine thn (run_fn (us := us) (vs := vs) F hr hb .nil pass0 I r (by rw [List.append_nil]; exact h)) fun u s1 z => ?_
  obtain ⟨v, H1, J, rv, n, q⟩ := z
  exact back n rv ⟨v, H1, J, rv, q⟩
/-- own op own, own op int -/
theorem op_own {op : Operator} {fo ro rc : Option Value} (O : Own X.K C) (M : Mth X.prog X.w X.K X.mg X.base C (PySem.dunder op.info.2) k ps sp) (hr : Room k X.A)
    (hR : PySem.W.findIn X.K (.ref C) (PySem.dunderR op.info.2) = some rc) (hp : rc = none ∨ ∃ g : Addr, rc = some (.ref g))
    (h1 : PySem.W.findIn X.K (.type "int") (PySem.dunder op.info.2) = some fo) (h2 : PySem.W.findIn X.K (.type "int") (PySem.dunderR op.info.2) = some ro) (hsub : PySem.W.subIn X.K (.type "int") (.ref C) = some false) :
    OpR X (binaryOp op) (fun x y H Q => ∃ a dx fs, x = .ref a ∧ H a = some (.ins C dx fs) ∧ ((∃ b dy gs, y = .ref b ∧ H b = some (.ins C dy gs)) ∨ ∃ i, y = .int i) ∧ sp [x, y] H (fun v H' => Nn v ∧ Q v H') E0) := by
  intro pins s σ H x y v u Q I rx ry h
  obtain ⟨a, dx, fs, rfl, ha, hy, q⟩ := h
  obtain rfl : v = .ref a := rx
  obtain ⟨f, fd, hs, hf, F, hb⟩ := M.ex
  obtain ⟨ox, od, J, hd⟩ := inst_at I ha
  obtain ⟨m, hF⟩ := I.fr
  have go := calls F hr hb I (us := [.ref a, u]) (vs := [.ref a, y]) (.cons rfl (.cons ry .nil)) q
  rcases hy with ⟨b, dy, gs, rfl, hb'⟩ | ⟨i, rfl⟩
  · obtain rfl : u = .ref b := ry
    obtain ⟨oy, oe, J', _⟩ := inst_at I hb'
    exact PySem.W.binop_K hF I.ok.mod.kin J J'.type O.first hs hf go
  · obtain ⟨t, rfl⟩ := ry
    exact PySem.W.ksp_binT hF I.ok.mod.kin J rfl O.first hs hf hR hp h1 h2 hsub go
/-- int op own -/
theorem op_intOwn {op : Operator} {f0 : Addr} {id : String} {B : Builtin} {g : Int → Int → Sem Fin} (O : Own X.K C) (M : Mth X.prog X.w X.K X.mg X.base C (PySem.dunderR op.info.2) k ps sp) (hr : Room k X.A)
    (hs0 : PySem.W.findIn X.K (.ref C) (PySem.dunder op.info.2) = some (some (.ref f0))) (fi : fillsNumberSlot (.type "int") op.info.2 = pure true)
    (slot : Slot "int" (PySem.dunder op.info.2) id) (entry : entryFor table id = some B) (args : ∀ a b, argsOk id ⟨[a, b], []⟩) {n : String} (hB : B = Builtin.Int.intBinary n g false) :
    OpR X (binaryOp op) (fun x y H Q => ∃ i a dx fs, x = .int i ∧ y = .ref a ∧ H a = some (.ins C dx fs) ∧ sp [y, x] H (fun v H' => Nn v ∧ Q v H') E0) := by
  intro pins s σ H x y v u Q I rx ry h
  obtain ⟨i, a, dx, fs, rfl, rfl, ha, q⟩ := h
  obtain rfl : u = .ref a := ry
  obtain ⟨t, rfl⟩ := rx
  obtain ⟨f, fd, hs, hf, F, hb⟩ := M.ex
  obtain ⟨ox, od, J, hd⟩ := inst_at I ha
  have go := calls F hr hb I (us := [.ref a, .int i t]) (vs := [.ref a, .int i]) (.cons rfl (.cons ⟨t, rfl⟩ .nil)) q
  refine PySem.Vr.bin_int I.kIn J O.first hs0 hs hf fi O.noInt (fun A' R E' k => ?_) go
  exact PySem.Vr.try_no (T := "int") rfl slot entry (args _ _) (fun A2 R2 E2 k2 => by rw [hB]; exact PySem.Vr.intBin_no (.inl ⟨_, _, rfl⟩) J.at_ hd k2) k
/-- own op= own -/
theorem iop_own {op : Operator} {cd : ClassData} (O : Own X.K C) (M : Mth X.prog X.w X.K X.mg X.base C (PySem.dunder op.info.2) k ps sp) (hr : Room k X.A)
    (hcd : PySem.W.clsIn X.K C = some cd) (hm : cd.mro = [.ref C, .type "object"]) (hi : PySem.W.findIn X.K (.ref C) (PySem.dunderI op.info.2) = some none) (ho : typeLookup (.type "object") (PySem.dunderI op.info.2) = pure none) :
    OpR X (inplaceOp op) (fun x y H Q => ∃ a dx fs b dy gs, x = .ref a ∧ H a = some (.ins C dx fs) ∧ y = .ref b ∧ H b = some (.ins C dy gs) ∧ sp [x, y] H (fun v H' => Nn v ∧ Q v H') E0) := by
  intro pins s σ H x y v u Q I rx ry h
  obtain ⟨a, dx, fs, b, dy, gs, rfl, ha, rfl, hb', q⟩ := h
  obtain rfl : v = .ref a := rx
  obtain rfl : u = .ref b := ry
  obtain ⟨f, fd, hs, hf, F, hb⟩ := M.ex
  obtain ⟨ox, od, J, hd⟩ := inst_at I ha
  obtain ⟨oy, oe, J', _⟩ := inst_at I hb'
  have go := calls F hr hb I (us := [.ref a, .ref b]) (vs := [.ref a, .ref b]) (.cons rfl (.cons rfl .nil)) q
  exact PySem.Vr.inp_own I.kIn J J'.type O.first hcd hm hi ho hs hf go
/-- - own -/
theorem un_negOwn (M : Mth X.prog X.w X.K X.mg X.base C "__neg__" k ps sp) (hr : Room k X.A) :
    UnR X (unaryOp .USub) (fun x H Q => ∃ a dx fs, x = .ref a ∧ H a = some (.ins C dx fs) ∧ sp [x] H Q E0) := by
  intro pins s σ H x v Q I rx h
  obtain ⟨a, dx, fs, rfl, ha, q⟩ := h
  obtain rfl : v = .ref a := rx
  obtain ⟨f, fd, hs, hf, F, hb⟩ := M.ex
  obtain ⟨ox, od, J, hd⟩ := inst_at I ha
  obtain ⟨m, hF⟩ := I.fr
  exact PySem.W.ksp_neg hF I.ok.mod.kin J hs hf (run_fn (us := [.ref a]) (vs := [.ref a]) F hr hb .nil pass0 I (.cons rfl .nil) q)
end
end Vr

set_option Elab.async false
set_option linter.all false
set_option maxRecDepth 100000
set_option maxHeartbeats 4000000
/-! Own layer, part R4: == and != on instances of a class of the program, str of one. -/
namespace Vr
open PySem PySem.Spec PyProof.Rows L2 Vx

/-- things of built-in types -/
inductive Oth (K : PySem.W.Frag) (H : Hp) : V → String → Prop where
  | non : Oth K H .non "NoneType"
  | bl (b : Bool) : Oth K H (.bl b) "bool"
  | int (i : Int) : Oth K H (.int i) "int"
  | str (x : Str) : Oth K H (.str x) "str"
  | lst {a : Addr} {xs : List V} (e : H a = some (.lst xs)) : Oth K H (.ref a) "list"
  | tup {a : Addr} {xs : List V} (e : H a = some (.tup xs)) : Oth K H (.ref a) "tuple"
  | dK {a : Addr} {kvs : List (Key × V)} (e : H a = some (.dK kvs)) : Oth K H (.ref a) "dict"
/-- the types that the class is none of -/
structure Far (K : PySem.W.Frag) (C : Addr) : Prop where
  to : ∀ T ∈ ["NoneType", "bool", "int", "str", "list", "tuple", "dict"], PySem.W.mroIn K C (.type T) = some false
  from_ : ∀ T ∈ ["NoneType", "bool", "int", "str", "list", "tuple", "dict"], PySem.W.notFirst K C (.type T) = true
section
variable {X : Cx} {pins : List (Addr × Obj)} {σ : L2.St} {H : Hp} {s : Shared} {C a dx : Addr} {fs : List (Str × V)} {k : Nat} {ps : List Str} {sp : Sp}
theorem Oth.mem {K : PySem.W.Frag} {v : V} {T : String} (o : Oth K H v T) : T ∈ ["NoneType", "bool", "int", "str", "list", "tuple", "dict"] := by
  cases o <;> decide
theorem Oth.is {v : V} {u : Value} {T : String} (I : Inv X pins σ H s) (r : RelV v u) (o : Oth X.K H v T) : s.TypeIs u T := by
  cases o with
  | non => obtain rfl : u = .none := r; exact rfl
  | bl b => obtain rfl : u = .bool b := r; exact rfl
  | int i => obtain ⟨t, rfl⟩ := r; exact rfl
  | str x => obtain ⟨t, rfl⟩ := r; exact rfl
  | @lst a xs e =>
    obtain rfl : u = .ref a := r
    obtain ⟨_, _, n, _, h1⟩ := (show ObjOk X.prog X.w H s.heap a (.lst xs) from I.hok a _ e)
    exact ⟨_, h1, rfl⟩
  | @tup a xs e =>
    obtain rfl : u = .ref a := r
    obtain ⟨_, _, _, o, h1, h2, _⟩ := (show ObjOk X.prog X.w H s.heap a (.tup xs) from I.hok a _ e)
    exact ⟨o, h1, h2⟩
  | @dK a kvs e =>
    obtain rfl : u = .ref a := r
    obtain ⟨_, _, vs, _, o, es, ep, h1, h2, _⟩ := (show ObjOk X.prog X.w H s.heap a (.dK kvs) from I.hok a _ e)
    exact ⟨o, h1, h2.1⟩
theorem looks_type {M : Model} {u : Value} {T : String} (h : s.TypeIs u T) : PySem.W.Looks M s.heap (typeOf u) (.type T) := by
  cases u with
  | ref a =>
    obtain ⟨o, ho, hc⟩ := h
    have z := (PySem.W.Looks.ld (M := M) (part := none) ho).andThen (f := fun o => pure o.cls) (b := .type T) (by rw [hc]; exact .now)
    exact z
  | _ => exact PySem.W.Looks.of_pure h
theorem Oth.no {v : V} {u : Value} {T : String} {A : Around} {x : Addr} {ox : Obj} {od : Option Obj} {Q : Option Value → Shared → Prop} {E : Value → Shared → Prop} (I : Inv X pins σ H s) (r : RelV v u) (o : Oth X.K H v T) (J : PySem.W.InstAt s.heap x ox C od) (hd : ox.data = .plain)
    (far : Far X.K C) (q : Q none s) : wpAny (model X.prog X.w) A (tryCompare u "__eq__" (.ref x)) Q E s := by
  have hT := o.is I r
  have hm := far.to T o.mem
  cases o with
  | non => obtain rfl : u = .none := r; exact PySem.Vr.no_none q
  | bl b => obtain rfl : u = .bool b := r; exact PySem.Vr.no_bool J.at_ hd q
  | int i => obtain ⟨t, rfl⟩ := r; exact PySem.Vr.no_int J.at_ hd q
  | str x => obtain ⟨t, rfl⟩ := r; exact PySem.Vr.no_str J.at_ hd q
  | @lst a xs e => obtain rfl : u = .ref a := r; exact PySem.Vr.no_list I.kIn J hm hT q
  | @tup a xs e => obtain rfl : u = .ref a := r; exact PySem.Vr.no_tuple I.kIn J hm hT q
  | @dK a kvs e => obtain rfl : u = .ref a := r; exact PySem.Vr.no_dict I.kIn J hm hT q

/-- own == own, own == another thing -/
theorem op_eqOwn (M : Mth X.prog X.w X.K X.mg X.base C "__eq__" k ps sp) (far : Far X.K C) (hr : Room k X.A) :
    OpR X (compareOp .Eq) (fun x y H Q => ∃ a dx fs, x = .ref a ∧ H a = some (.ins C dx fs) ∧ ((∃ b dy gs, y = .ref b ∧ H b = some (.ins C dy gs)) ∨ ∃ T, Oth X.K H y T) ∧ sp [x, y] H (fun v H' => Nn v ∧ Q v H') E0) := by
  intro pins s σ H x y v u Q I rx ry h
  obtain ⟨a, dx, fs, rfl, ha, hy, q⟩ := h
  obtain rfl : v = .ref a := rx
  obtain ⟨f, fd, hs, hf, F, hb⟩ := M.ex
  obtain ⟨ox, od, J, hd⟩ := inst_at I ha
  obtain ⟨m, hF⟩ := I.fr
  have go := calls F hr hb I (us := [.ref a, u]) (vs := [.ref a, y]) (.cons rfl (.cons ry .nil)) q
  show wpAny (model X.prog X.w) X.A (richCompare .Eq _ _) _ _ s
  rcases hy with ⟨b, dy, gs, rfl, hb'⟩ | ⟨T, o⟩
  · obtain rfl : u = .ref b := ry
    obtain ⟨oy, oe, J', _⟩ := inst_at I hb'
    exact PySem.W.cmp_K (op := .Eq) (tb := .ref C) hr.units0 hF I.ok.mod.kin J J'.type (by simp [PySem.W.notFirst]) hs hf go
  · exact PySem.W.cmp_K (op := .Eq) (tb := .type T) hr.units0 hF I.ok.mod.kin J (looks_type (o.is I ry)) (far.from_ T o.mem) hs hf go
/-- another thing == own -/
theorem op_eqOwnR (M : Mth X.prog X.w X.K X.mg X.base C "__eq__" k ps sp) (far : Far X.K C) (hr : Room k X.A) :
    OpR X (compareOp .Eq) (fun x y H Q => ∃ a dx fs, y = .ref a ∧ H a = some (.ins C dx fs) ∧ (∃ T, Oth X.K H x T) ∧ sp [y, x] H (fun v H' => Nn v ∧ Q v H') E0) := by
  intro pins s σ H x y v u Q I rx ry h
  obtain ⟨a, dx, fs, rfl, ha, ⟨T, o⟩, q⟩ := h
  obtain rfl : u = .ref a := ry
  obtain ⟨f, fd, hs, hf, F, hb⟩ := M.ex
  obtain ⟨ox, od, J, hd⟩ := inst_at I ha
  have go := calls F hr hb I (us := [.ref a, v]) (vs := [.ref a, x]) (.cons rfl (.cons rx .nil)) q
  exact PySem.Vr.eq_right hr.units0 I.kIn J (o.is I rx) (far.to T o.mem) (fun A' Q' E' k' => o.no I rx J hd far k') hs hf go
/-- own != own, own != another thing -/
theorem op_neOwn (O : Own X.K C) (M : Mth X.prog X.w X.K X.mg X.base C "__eq__" k ps sp) (far : Far X.K C) (hr : Room (k + 1) X.A) (hne : PySem.W.findIn X.K (.ref C) "__ne__" = some (some (.builtin "object.__ne__"))) :
    OpR X (compareOp .NotEq) (fun x y H Q => ∃ a dx fs, x = .ref a ∧ H a = some (.ins C dx fs) ∧ ((∃ b dy gs, y = .ref b ∧ H b = some (.ins C dy gs)) ∨ ∃ T, Oth X.K H y T) ∧
      sp [x, y] H (fun v H' => ∃ b, v = .bl b ∧ Q (.bl (!b)) H') E0) := by
  intro pins s σ H x y v u Q I rx ry h
  obtain ⟨a, dx, fs, rfl, ha, hy, q⟩ := h
  obtain rfl : v = .ref a := rx
  obtain ⟨f, fd, hs, hf, F, hb⟩ := M.ex
  obtain ⟨ox, od, J, hd⟩ := inst_at I ha
  have r2 : Vals [V.ref a, y] [Value.ref a, u] := .cons rfl (.cons ry .nil)
  have hl : ([Value.ref a, u] ++ []).length = ps.length := by
    rw [List.append_nil, ← r2.length]
    exact F.len _ _ _ _ q
  have go : wpAny (model X.prog X.w) X.A.in1 (call (.ref f) [.ref a, u]) (fun v s' => ∃ r, v = .bool r ∧ EP X pins σ Q (.bool (!r)) s') X.xe s := by
    refine wpAny_call (codeAny_mono (F.run X.A.in1 X.stack s H ⟨[.ref a, u], []⟩ [.ref a, u] [.ref a, y] _ E0 hr.in1 I.env0.in1 (by
      have := hb s [.ref a, u] I.kIn hl
      rw [List.append_nil] at this
      exact this) r2 q) fun r s' hq => ?_)
    cases r with
    | error e => exact False.elim hq
    | ok fl =>
      cases fl with
      | ret w =>
        obtain ⟨z, H', J', rz, b, rfl, q2⟩ := I.after hq
        obtain rfl : w = .bool b := rz
        exact ⟨b, rfl, .bl (!b), H', J', rfl, q2⟩
      | next => exact False.elim hq
      | brk => exact False.elim hq
      | cont => exact False.elim hq
  show wpAny (model X.prog X.w) X.A (richCompare .NotEq _ _) _ _ s
  rcases hy with ⟨b, dy, gs, rfl, hb'⟩ | ⟨T, o⟩
  · obtain rfl : u = .ref b := ry
    obtain ⟨oy, oe, J', _⟩ := inst_at I hb'
    exact PySem.Vr.ne_left (tb := .ref C) hr.units0 hr.in1.units0 I.kIn J J'.type (by simp [PySem.W.notFirst]) hne O.obj hs hf go
  · exact PySem.Vr.ne_left (tb := .type T) hr.units0 hr.in1.units0 I.kIn J (looks_type (o.is I ry)) (far.from_ T o.mem) hne O.obj hs hf go
end
end Vr

set_option Elab.async false
set_option linter.all false
set_option maxRecDepth 100000
set_option maxHeartbeats 4000000
/-! Own layer, part R5: calls within a try's body that an exception may leave: a class called, a method called; an exception of a class of the program made without arguments. -/
namespace Vr
open PySem PySem.Spec PyProof.Rows L2 Vx

section
variable {X : Cx} {CX : CXT} {k : Nat} {C f : Addr} {fd : FuncData} {ps : List Str} {sp : Sp} {ds : List Value} {dvs : List V} {E : L2.St → XK}
/-- a call of a def whose ways out may know the slots -/
theorem go_at {pins : List (Addr × Obj)} {σ : L2.St} {H : Hp} {s : Shared} {Q : VK} {us : List Value} {vs : List V} (F : FnOk X.prog X.w X.K X.mg X.base CX k f fd ps sp) (hr : Room k X.A) (hb : Binds X.K fd ps [])
    (hx : PassesAt CX X σ (E σ)) (I : Inv X pins σ H s) (r : Vals vs us) (h : sp vs H Q (E σ)) : wpAny (model X.prog X.w) X.A (call (.ref f) us) (EP X pins σ Q) X.xe s :=
  run_fnS F hr hb hx I r h
theorem make_at {pins : List (Addr × Obj)} {σ : L2.St} {H : Hp} {s : Shared} {Q : VK} {us : List Value} {vs : List V} (mk : Mk X.K C f)
    (F : FnOk X.prog X.w X.K X.mg X.base CX k f fd ps sp) (hr : Room (k + 1) X.A) (bs : Binds X.K fd ps ds) (vd : Vals dvs ds) (out : PassesAt CX X σ (E σ))
    (I : Inv X pins σ H s) (r : Vals vs us)
    (say : ∀ p dp, H p = none → H dp = none → dp ≠ p → sp (.ref p :: (vs ++ dvs)) (upd (upd H dp (.own p)) p (.ins C dp [])) (fun z G => z = .non ∧ Q (.ref p) G) (E σ)) :
    wpAny (model X.prog X.w) X.A (call (.ref C) us) (EP X pins σ Q) X.xe s := by
  have n1 := I.hok.fresh (Nat.le_succ s.heap.objs.size)
  have n2 := I.hok.fresh (Nat.le_refl s.heap.objs.size)
  have want := say _ _ n1 n2 (Nat.ne_of_lt (Nat.lt_succ_self _))
  have J := Inv.made (C := C) I
  have all : Vals (V.ref (s.heap.objs.size + 1) :: (vs ++ dvs)) (Value.ref (s.heap.objs.size + 1) :: (us ++ ds)) := .cons rfl (r.append vd)
  have len : (Value.ref (s.heap.objs.size + 1) :: us ++ ds).length = ps.length := by
    have z := all.length
    rw [F.len _ _ _ _ want] at z
    exact z.symm
  have inner := F.run _ X.stack _ _ ⟨Value.ref (s.heap.objs.size + 1) :: us, []⟩ _ _ _ (E σ) (hr.make C us []) (J.env0.make C us []) (bs _ _ J.kIn len) all want
  refine wpAny_call (make_map (f := f) I.kIn mk.makes mk.init (beq_iff_eq.mp mk.fn) (codeAny_mono inner fun res s1 z => ?_))
  match res, z with
  | .error e, z => exact out pins _ _ e s1 J z
  | .ok (.ret u), z =>
    obtain ⟨v, G, J1, rv, ev, q⟩ := J.after z
    subst ev
    exact ⟨rv, .ref _, G, J1, rfl, q⟩
end
/-- C(e1, e2) where the ways out may know the slots -/
def tMakeS (C : Addr) (sp : Sp) (E : L2.St → XK) (t : TA) : TE := fun σ H Q => t σ H fun vs H1 => ∀ p dp, H1 p = none → H1 dp = none → dp ≠ p →
  sp (.ref p :: (vs ++ [])) (upd (upd H1 dp (.own p)) p (.ins C dp [])) (fun z G => z = .non ∧ Q (.ref p) G) (E σ)
def tMethS (C : Addr) (m : Str) (sp : Sp) (E : L2.St → XK) (ta : TE) (t : TA) : TE := fun σ H Q => ta σ H fun x H1 => ∃ a dx fs, x = .ref a ∧ H1 a = some (.ins C dx fs) ∧ fs.lookup m = none ∧ t σ H1 fun vs H2 => sp (x :: vs) H2 Q (E σ)
section
variable {X : Cx} {CX : CXT} {k : Nat} {C f : Addr} {fd : FuncData} {ps : List Str} {sp : Sp} {E : L2.St → XK} {x m : Str} {p pos apos : Pos} {e o : Expr} {es : List Expr} {t : TA} {ta : TE}
theorem pe_makeS (mk : Mk X.K C f) (F : FnOk X.prog X.w X.K X.mg X.base CX k f fd ps sp) (hr : Room (k + 1) X.A) (hg : Gl X x) (hm : X.mg x = some (.ref C)) (bs : Binds X.K fd ps []) (out : ∀ σ, PassesAt CX X σ (E σ))
    (args : PA X (e :: es) t) (hdb : (x == ("__debug__" : Str)) = false := by decide) (st : starEach (e :: es) X.env = (false, eval e X.env) :: starEach es X.env := by rfl) (pl : (backTo pos (starEach es X.env)).any (·.1) = false := by rfl) :
    PE X (.Call (.Name x p) (e :: es) [] pos) (tMakeS C sp E t) :=
  ⟨fun pins s σ H Q I h => wpAny_Call_Name_kw (ld_glob I hg hm
    (PySem.W.callWith_K (h₀ := X.base) I.ok.mod.kin mk.kp (thn (args.run pos pins s σ H _ I h) fun us s1 ⟨vs, H1, J, r, q⟩ => ⟨J.kIn, make_at mk F hr bs .nil (out σ) J r q⟩) st pl) hdb)⟩
theorem pe_methS {pl : Sem Bool} (ho : PE X o ta) (c : Cls X.K C) (hm : Meth X.K C m f) (F : FnOk X.prog X.w X.K X.mg X.base CX k f fd ps sp) (hr : Room k X.A) (bs : Binds X.K fd ps []) (out : ∀ σ, PassesAt CX X σ (E σ)) (args : PA X (e :: es) t)
    (st : starEach (e :: es) X.env = (false, eval e X.env) :: starEach es X.env := by rfl) (pla : (backTo pos (starEach es X.env)).any (·.1) = false := by rfl)
    (ev : eval (.Call (.Attribute o m apos) (e :: es) [] pos) X.env = (do
      let ov ← eval o X.env
      standAt apos.atName
      let (g, first) ← holding [ov] (getMethod ov m pl)
      callWith pos g first (backTo pos (starEach (e :: es) X.env)) (backToKw pos (keywordEach [] X.env))) := by rfl) :
    PE X (.Call (.Attribute o m apos) (e :: es) [] pos) (tMethS C m sp E ta t) := by
  refine ⟨fun pins s σ H Q I h => PySem.W.methodCall_KW (pl := pl) (thn (ho.run pins s σ H _ I h) fun u s1 z => ?_) ev⟩
  obtain ⟨y, H1, J, ry, a, dx, fs, rfl, ea, no, q⟩ := z
  obtain rfl : u = Value.ref a := ry
  refine getmeth_ok J ea c hm no (PySem.W.callWith_K (first := [.ref a]) (h₀ := X.base) I.ok.mod.kin hm.kp (thn (args.run pos pins s1 σ H1 _ J q) fun us s2 w => ?_) st pla)
  obtain ⟨vs, H2, J2, r, q2⟩ := w
  exact ⟨J2.kIn, go_at (us := .ref a :: us) (vs := .ref a :: vs) F hr bs (out σ) J2 (.cons rfl r) q2⟩
end
/-- X() raised -/
theorem pmk_own0 {X : Cx} {C : Addr} {bmB : List Value} {B newId initId : String} {x : Str} {p pos : Pos} (F : ExcBaseFacts B newId initId bmB) (q : PySem.W.excIn X.K C bmB newId = true) (gC : X.mg x = some (.ref C))
    (kC : PySem.W.keepIn X.K (.ref C) = true) (r : Raises X (.ref C)) (hg : Gl X x) (hdb : (x == ("__debug__" : Str)) = false := by decide) : PMk X (.Call (.Name x p) [] [] pos) (fun _ H Q => Q (.ref C) none H) := by
  intro pins s σ H Q I h
  refine wpAny_Call_Name_kw (ld_glob I hg gC (PySem.W.callWith_K0 I.kIn kC ?_) hdb)
  show wpAny _ _ (call (.ref C) []) _ _ _
  obtain ⟨bm, N, nm, qn, bs, hdct, sn, sub, ab, col, dd, k0, k1, k2, k3, k5, mN, at_, hN, hni, T⟩ := exc_obj I.kIn q
  exact wpAny_call_exc_subT F T at_ hN hni (fun h' a made => mk_of I made r h (I.hok.gone made.new)) (Nat.zero_le _)
end Vr

set_option Elab.async false
set_option linter.all false
set_option maxRecDepth 100000
set_option maxHeartbeats 4000000
/-! The law over Ratios: the program's class. -/
namespace K03
open PySem PySem.Spec PyProof.Rows L2 Vx Vr
def top (i : Nat) : Stmt := PySem.Challenge.pw_jointdraws_k03_ratios_written.main.body.getD i (.Pass ⟨0, 0, 0, 0⟩)
def mth (j : Nat) : Stmt := inClass (top 10) j
/-- the built-in names that are used are still the built-in ones -/
structure Bt (mg : Str → Option Value) : Prop where
  len : mg "len" = none
  sum : mg "sum" = none
  abs : mg "abs" = none
  int : mg "int" = none
  isi : mg "isinstance" = none
  bool : mg "bool" = none
  range : mg "range" = none
  str : mg "str" = none
  max : mg "max" = none
  min : mg "min" = none
  gcd : mg "gcd" = some (.builtin "math.gcd")

/-! ### numbers -/
/-- lowest terms of N / D -/
def Norm (N D n d : Int) : Prop := n * D = N * d ∧ 0 < d ∧ Int.gcd n d = 1 ∧ n.natAbs ≤ N.natAbs ∧ d.natAbs ≤ D.natAbs
def Sm (x : Int) : Prop := x.natAbs < 2 ^ 1000
def Lg (x : Int) : Prop := x.natAbs < 2 ^ 2100
theorem gcd_pos {N D : Int} (h : D ≠ 0) : 0 < (Nat.gcd N.natAbs D.natAbs : Nat) := Nat.gcd_pos_of_pos_right _ (by omega)
/-- // by a divisor of either sign -/
def CDivZ (_ j : Int) : Prop := j ≠ 0 ∧ j.natAbs.log2 < 9000
theorem op_fdivZ {X : Cx} : OpR X (binaryOp .FloorDiv) (rI CDivZ fun i j => .int (i.fdiv j)) := opI fun i j _ _ _ _ _ hc q =>
  floordiv_int hc.1 q (.inl (PyProof.noPylong_of_log2 hc.2))
theorem norm_of {N D c : Int} (hD : D ≠ 0) (hc : c = if D < 0 then -((Nat.gcd N.natAbs D.natAbs : Nat) : Int) else ((Nat.gcd N.natAbs D.natAbs : Nat) : Int)) : c ≠ 0 ∧ Norm N D (N.fdiv c) (D.fdiv c) := by
  have gp := gcd_pos (N := N) hD
  have d1 : (Nat.gcd N.natAbs D.natAbs : Int) ∣ N := Int.ofNat_dvd_left.mpr (Nat.gcd_dvd_left _ _)
  have d2 : (Nat.gcd N.natAbs D.natAbs : Int) ∣ D := Int.ofNat_dvd_left.mpr (Nat.gcd_dvd_right _ _)
  have c0 : c ≠ 0 := by
    rw [hc]
    split <;> omega
  have e1 : c ∣ N := by
    rw [hc]
    split
    · exact Int.neg_dvd.mpr d1
    · exact d1
  have e2 : c ∣ D := by
    rw [hc]
    split
    · exact Int.neg_dvd.mpr d2
    · exact d2
  have nab : c.natAbs = Nat.gcd N.natAbs D.natAbs := by
    rw [hc]
    split <;> simp
  obtain ⟨n, hn⟩ := e1
  obtain ⟨d, hd⟩ := e2
  have f1 : N.fdiv c = n := by
    rw [hn, Int.mul_fdiv_cancel_left _ c0]
  have f2 : D.fdiv c = d := by
    rw [hd, Int.mul_fdiv_cancel_left _ c0]
  rw [f1, f2]
  refine ⟨c0, ?_, ?_, ?_, ?_, ?_⟩
  · rw [hn, hd]
    rw [Int.mul_comm c d, Int.mul_comm c n, Int.mul_comm (n * c) d, ← Int.mul_assoc, Int.mul_left_comm, Int.mul_assoc]
  · rcases Int.lt_trichotomy D 0 with h | h | h
    · have cn : c < 0 := by
        rw [hc, if_pos h]
        omega
      have : 0 < d ∨ d ≤ 0 := by omega
      rcases this with h' | h'
      · exact h'
      · exfalso
        have := Int.mul_nonneg_of_nonpos_of_nonpos (by omega : c ≤ 0) h'
        omega
    · exact absurd h hD
    · have cp : 0 < c := by
        rw [hc, if_neg (by omega)]
        omega
      have : 0 < d ∨ d ≤ 0 := by omega
      rcases this with h' | h'
      · exact h'
      · exfalso
        have := Int.mul_nonpos_of_nonneg_of_nonpos (by omega : 0 ≤ c) h'
        omega
  · have g1 : N.natAbs = c.natAbs * n.natAbs := by rw [hn, Int.natAbs_mul]
    have g2 : D.natAbs = c.natAbs * d.natAbs := by rw [hd, Int.natAbs_mul]
    have g3 : Nat.gcd N.natAbs D.natAbs = c.natAbs * Nat.gcd n.natAbs d.natAbs := by
      rw [g1, g2, Nat.gcd_mul_left]
    rw [← nab] at g3
    show Nat.gcd n.natAbs d.natAbs = 1
    have cp : 0 < c.natAbs := by omega
    have : c.natAbs * 1 = c.natAbs * Nat.gcd n.natAbs d.natAbs := by omega
    exact (Nat.eq_of_mul_eq_mul_left cp this).symm
  · rw [hn, Int.natAbs_mul]
    exact Nat.le_mul_of_pos_left _ (by omega)
  · rw [hd, Int.natAbs_mul]
    exact Nat.le_mul_of_pos_left _ (by omega)
theorem lg_mul {a b : Int} (ha : Sm a) (hb : Sm b) : (a * b).natAbs < 2 ^ 2000 := wide_lt (a := 1000) (b := 1000) ha hb
theorem cmul {a b : Int} (ha : Sm a) (hb : Sm b) : CMulW a b := wide_mul (a := 1000) (b := 1000) ha hb (by decide) (by decide) (by decide)
theorem lg_of {a : Int} (h : a.natAbs < 2 ^ 2000) : Lg a := Nat.lt_trans h (Nat.pow_lt_pow_right (by decide) (by decide))
theorem p2001 : (2 : Nat) ^ 2001 = 2 ^ 2000 + 2 ^ 2000 := by rw [Nat.pow_succ]; omega
theorem lg_add {a b : Int} (ha : a.natAbs < 2 ^ 2000) (hb : b.natAbs < 2 ^ 2000) : Lg (a + b) := by
  have h1 : (2 : Nat) ^ 2001 < 2 ^ 2100 := Nat.pow_lt_pow_right (by decide) (by decide)
  have h2 := p2001
  unfold Lg
  generalize (2 : Nat) ^ 2000 = p at *
  generalize (2 : Nat) ^ 2001 = q at *
  generalize (2 : Nat) ^ 2100 = r at *
  omega
theorem lg_sub {a b : Int} (ha : a.natAbs < 2 ^ 2000) (hb : b.natAbs < 2 ^ 2000) : Lg (a - b) := by
  have := lg_add (a := a) (b := -b) ha (by rw [Int.natAbs_neg]; exact hb)
  rwa [← Int.sub_eq_add_neg] at this

/-! ### the class's instances -/
abbrev fs2 (n d : Int) : List (Str × V) := [("_top", .int n), ("_bottom", .int d)]
/-- a Ratio n / d stands at a -/
def Rt (C : Addr) (H : Hp) (a : Addr) (n d : Int) : Prop := ∃ dx, H a = some (.ins C dx (fs2 n d))
theorem Rt.same {C : Addr} {H H' : Hp} {a : Addr} {n d : Int} (s : Same H H') (h : Rt C H a n d) : Rt C H' a n d := by
  obtain ⟨dx, e⟩ := h
  exact ⟨dx, s _ _ e⟩
/-- a number: an int, or a Ratio -/
def Nu (C : Addr) (H : Hp) (v : V) (n d : Int) : Prop := (v = .int n ∧ d = 1) ∨ ∃ a, v = .ref a ∧ Rt C H a n d
theorem Nu.same {C : Addr} {H H' : Hp} {v : V} {n d : Int} (s : Same H H') (h : Nu C H v n d) : Nu C H' v n d := by
  rcases h with h | ⟨a, e, h⟩
  · exact .inl h
  · exact .inr ⟨a, e, h.same s⟩
theorem lkT (n d : Int) : (fs2 n d).lookup ("_top" : Str) = some (V.int n) := rfl
theorem lkB (n d : Int) : (fs2 n d).lookup ("_bottom" : Str) = some (V.int d) := rfl
/-- what the class must be -/
structure Rc (K : PySem.W.Frag) (C : Addr) : Prop where
  own : Own K C
  far : Far K C
  noT : NoAttr K C "_top"
  noB : NoAttr K C "_bottom"
  ha : PySem.W.findIn K (.ref C) "__class__" = some (some (.builtin "object.__class__"))
  hn : PySem.W.specialIn K (.builtin "object.__class__") "__get__" = some (some (.builtin "getset_descriptor.__get__"))
  tk : PySem.W.takesIn K (.builtin "object.__class__") = some true
  one : PySem.W.kitOne K (.ref C) (.ref C) = some true
  oth : ∀ T ∈ ["NoneType", "bool", "int", "str", "list", "tuple", "dict"], PySem.W.kitOne K (.type T) (.ref C) = some false
theorem Rc.ty {K : PySem.W.Frag} {C : Addr} (R : Rc K C) {H : Hp} {a dx : Addr} {fs : List (Str × V)} (h : H a = some (.ins C dx fs)) : TyX K H (.ref a) (.ref C) := .base (.ins h R.own.cls R.ha R.hn R.tk R.own.obj)
theorem ty_oth {K : PySem.W.Frag} {H : Hp} {v : V} {T : String} (o : Oth K H v T) : TyX K H v (.type T) := by
  cases o with
  | non => exact .base .non
  | bl b => exact .base (.bl b)
  | int i => exact .base (.int i)
  | str x => exact .base (.str x)
  | lst e => exact .base (.lst e)
  | tup e => exact .base (.tup e)
  | dK e => exact .base (.dK e)

/-! ### is_whole, is_number, _parts -/
theorem kit_int {K : PySem.W.Frag} : ∀ T ∈ ["NoneType", "bool", "int", "str", "list", "tuple", "dict"], PySem.W.kitOne K (.type T) (.type "int") = some (T == "int" || T == "bool") := by
  intro T h
  simp only [List.mem_cons, List.not_mem_nil, or_false] at h
  rcases h with h | h | h | h | h | h | h <;> subst h <;> exact kit_ty (by decide +kernel)
theorem kit_bool {K : PySem.W.Frag} : ∀ T ∈ ["NoneType", "bool", "int", "str", "list", "tuple", "dict"], PySem.W.kitOne K (.type T) (.type "bool") = some (T == "bool") := by
  intro T h
  simp only [List.mem_cons, List.not_mem_nil, or_false] at h
  rcases h with h | h | h | h | h | h | h <;> subst h <;> exact kit_ty (by decide +kernel)
def spWhole (K : PySem.W.Frag) : Sp := fun vs H Q _ => ∃ v T, vs = [v] ∧ Oth K H v T ∧ Q (.bl (T == "int")) H
def spNumber (K : PySem.W.Frag) (C : Addr) : Sp := fun vs H Q _ => (∃ a dx fs, vs = [.ref a] ∧ H a = some (.ins C dx fs) ∧ Q (.bl true) H) ∨ ∃ v T, vs = [v] ∧ Oth K H v T ∧ Q (.bl (T == "int")) H
def spParts (C : Addr) : Sp := fun vs H Q _ => ∃ v n d, vs = [v] ∧ Nu C H v n d ∧ ∀ t, H t = none → Q (.ref t) (upd H t (.tup [.int n, .int d]))
/-- a def that is called by its name -/
structure Cal (P : Program) (w : World) (K : PySem.W.Frag) (mg : Str → Option Value) (base : Heap) (x : Str) (k : Nat) (ps : List Str) (sp : Sp) : Prop where
  ex : ∃ f fd, FnOk P w K mg base CX0 k f fd ps sp ∧ mg x = some (.ref f) ∧ PySem.W.keepIn K (.ref f) = true ∧ Binds K fd ps []
section
variable {X : Cx} {k : Nat} {ps : List Str} {sp : Sp} {x : Str} {p pos : Pos} {e : Expr} {es : List Expr} {t : TA}
theorem pe_cal (C : Cal X.prog X.w X.K X.mg X.base x k ps sp) (hr : Room k X.A) (ha : PA X (e :: es) t) (hg : Gl X x := by rfl)
    (hdb : (x == ("__debug__" : Str)) = false := by decide) (he : starEach (e :: es) X.env = (false, eval e X.env) :: starEach es X.env := by rfl)
    (hpl : (backTo pos (starEach es X.env)).any (·.1) = false := by rfl) : PE X (.Call (.Name x p) (e :: es) [] pos) (tCall sp [] E0 t) := by
  obtain ⟨f, fd, F, m, kp, b⟩ := C.ex
  exact pe_call F hr hg m kp b .nil pass0 ha hdb he hpl
end
section
variable {P : Program} {w : World} {K : PySem.W.Frag} {mg : Str → Option Value} {base : Heap} {C : Addr}
theorem scWhole : FnScope ["value"] ["value"] (defScope (top 3)) := ⟨rfl, rfl, rfl, by decide +kernel, rfl, by decide +kernel, by decide +kernel⟩
theorem ok_whole {f : Addr} {fd : FuncData} (F : L2.Fun K "is_whole" "is_whole" (top 3) f fd) (T : Bt mg) : FnOk P w K mg base CX0 1 f fd ["value"] (spWhole K) := by
  refine F.ok scWhole (fun vs H Q E h => ?_) (fun cdv A outer s H vs Q E hr h => ?_)
  · obtain ⟨v, T, rfl, _⟩ := h
    rfl
  · obtain ⟨v, U, rfl, o, go⟩ := h
    refine ⟨_, pss_one (ps_ret (pe_and (pe_callB call_isi (by rfl) T.isi (by decide +kernel) (pa_cons (pv 0) (pa_cons (pe_bltn (v := .ty "int") (by rfl) T.int (by decide +kernel) rfl) pa_nil)))
      (pe_one (pe_not (pe_callB call_isi (by rfl) T.isi (by decide +kernel) (pa_cons (pv 0) (pa_cons (pe_bltn (v := .ty "bool") (by rfl) T.bool (by decide +kernel) rfl) pa_nil))))))), ?_⟩
    refine ⟨v, rfl, v, _, .type U, _, _, rfl, .ty "int", ty_oth o, kit_int U o.mem, _, rfl, ?_⟩
    have m := o.mem
    simp only [List.mem_cons, List.not_mem_nil, or_false] at m
    rcases m with m | m | m | m | m | m | m <;> subst m
    · exact iteF go
    · refine iteT ⟨v, rfl, v, _, .type "bool", _, _, rfl, .ty "bool", ty_oth o, kit_bool _ o.mem, _, rfl, go⟩
    · refine iteT ⟨v, rfl, v, _, .type "int", _, _, rfl, .ty "bool", ty_oth o, kit_bool _ o.mem, _, rfl, go⟩
    · exact iteF go
    · exact iteF go
    · exact iteF go
    · exact iteF go
theorem scNumber : FnScope ["value"] ["value"] (defScope (top 11)) := ⟨rfl, rfl, rfl, by decide +kernel, rfl, by decide +kernel, by decide +kernel⟩
theorem ok_number {f : Addr} {fd : FuncData} (F : L2.Fun K "is_number" "is_number" (top 11) f fd) (T : Bt mg) (R : Rc K C) (gC : mg "Ratio" = some (.ref C)) (W : Cal P w K mg base "is_whole" 1 ["value"] (spWhole K)) :
    FnOk P w K mg base CX0 2 f fd ["value"] (spNumber K C) := by
  refine F.ok scNumber (fun vs H Q E h => ?_) (fun cdv A outer s H vs Q E hr h => ?_)
  · rcases h with ⟨a, dx, fs, rfl, _⟩ | ⟨v, T, rfl, _⟩ <;> rfl
  · refine ⟨_, pss_one (ps_ret (pe_or (pe_callB call_isi (by rfl) T.isi (by decide +kernel) (pa_cons (pv 0) (pa_cons (pe_glob (v := .ref C) (by rfl) gC rfl) pa_nil)))
      (pe_one (pe_cal W (hr.mono (by decide)) (pa_cons (pv 0) pa_nil))))), ?_⟩
    rcases h with ⟨a, dx, fs, rfl, e, go⟩ | ⟨v, U, rfl, o, go⟩
    · exact ⟨.ref a, rfl, .ref a, .ref C, .ref C, _, _, rfl, .own C, R.ty e, R.one, _, rfl, iteT go⟩
    · exact ⟨v, rfl, v, .ref C, .type U, _, _, rfl, .own C, ty_oth o, R.oth U o.mem, _, rfl, iteF ⟨v, rfl, v, U, rfl, o, go⟩⟩
theorem scParts : FnScope ["number"] ["number"] (defScope (top 12)) := ⟨rfl, rfl, rfl, by decide +kernel, rfl, by decide +kernel, by decide +kernel⟩
theorem ok_parts {f : Addr} {fd : FuncData} (F : L2.Fun K "_parts" "_parts" (top 12) f fd) (T : Bt mg) (R : Rc K C) (gC : mg "Ratio" = some (.ref C)) : FnOk P w K mg base CX0 1 f fd ["number"] (spParts C) := by
  refine F.ok scParts (fun vs H Q E h => ?_) (fun cdv A outer s H vs Q E hr h => ?_)
  · obtain ⟨v, n, d, rfl, _⟩ := h
    rfl
  · obtain ⟨v, n, d, rfl, nu, go⟩ := h
    refine ⟨_, pss_cons (ps_if (pt_val (pe_callB call_isi (by rfl) T.isi (by decide +kernel) (pa_cons (pv 0) (pa_cons (pe_glob (v := .ref C) (by rfl) gC rfl) pa_nil))))
        (pss_one (ps_ret (pe_tup (pa_cons (pe_fld (pv 0) rfl) (pa_cons (pe_fld (pv 0) rfl) pa_nil))))) pss_nil)
      (pss_one (ps_ret (pe_tup (pa_cons (pv 0) (pa_cons pe_int pa_nil))))), ?_⟩
    rcases nu with ⟨rfl, rfl⟩ | ⟨a, rfl, dx, e⟩
    · refine ⟨_, rfl, .int n, .ref C, .type "int", _, _, rfl, .own C, ty_oth (.int n), R.oth "int" (by decide), _, rfl, iteF ?_⟩
      exact ⟨_, rfl, (by show 2 ≤ sizeLine; decide), fun t ht => go t ht⟩
    · refine ⟨_, rfl, .ref a, .ref C, .ref C, _, _, rfl, .own C, R.ty e, R.one, _, rfl, iteT ?_⟩
      exact ⟨_, rfl, a, C, dx, _, _, rfl, e, R.own.cls, R.noT, lkT n d, _, rfl, a, C, dx, _, _, rfl, e, R.own.cls, R.noB, lkB n d, (by show 2 ≤ sizeLine; decide), fun t ht => go t ht⟩
end
end K03

set_option Elab.async false
set_option linter.all false
set_option maxRecDepth 100000
set_option maxHeartbeats 4000000
set_option exponentiation.threshold 3000
/-! The law over Ratios: making one, its methods. -/
namespace K03
open PySem PySem.Spec PyProof.Rows L2 Vx Vr
theorem same_new {H : Hp} {l : Addr} {o : HO} (h : H l = none) : Same H (upd H l o) := fun b u e => by rw [upd_ne (ne_of_none e h)]; exact e
def spInit (C : Addr) : Sp := fun vs H Q _ => ∃ a dx N D, vs = [.ref a, .int N, .int D] ∧ H a = some (.ins C dx []) ∧ D ≠ 0 ∧ Lg D ∧
  ∀ n d, Norm N D n d → Q .non (upd (upd H a (.ins C dx [("_top", .int n)])) a (.ins C dx (fs2 n d)))
section
variable {P : Program} {w : World} {K : PySem.W.Frag} {mg : Str → Option Value} {base : Heap} {C : Addr}
theorem scInit : FnScope ["self", "top", "bottom", "common"] ["self", "top", "bottom"] (defScope (mth 0)) := ⟨rfl, rfl, rfl, by decide +kernel, rfl, by decide +kernel, by decide +kernel⟩
theorem ok_init {f : Addr} {fd : FuncData} (F : FunD K "__init__" "Ratio.__init__" (defArgs (mth 0)) (defBody (mth 0)) (defScope (mth 0)) [.int 1] [] f fd) (T : Bt mg) (R : Rc K C) :
    FnOk P w K mg base CX0 1 f fd ["self", "top", "bottom"] (spInit C) := by
  refine F.ok scInit (fun vs H Q E h => ?_) (fun cdv A outer s H vs Q E hr h => ?_)
  · obtain ⟨a, dx, N, D, rfl, _⟩ := h
    rfl
  · obtain ⟨a, dx, N, D, rfl, e, hD, sD, go⟩ := h
    refine ⟨_, PSs.nox (pss_cons (ps_if (pt_cmpR op_eq (pv 2) pe_int (nomark _)) (pss_one ps_never) pss_nil)
      (pss_cons (ps_set (i := 3) scInit.nd rfl (.inl rfl) (pe_callBfun cr_gcd (by rfl) T.gcd (pa_cons (pv 1) (pa_cons (pv 2) pa_nil))))
      (pss_cons (ps_if (pt_cmpR op_lt (pv 2) pe_int (nomark _)) (pss_one (ps_set (i := 3) scInit.nd rfl (.inl rfl) (pe_un un_neg (pv 3)))) pss_nil)
      (pss_cons (ps_fld (pv 0) (pe_op op_fdivZ (pv 1) (pv 3)) rfl)
      (pss_one (ps_fld (pv 0) (pe_op op_fdivZ (pv 2) (pv 3)) rfl)))))), ?_⟩
    have gp := gcd_pos (N := N) hD
    have key : ∀ c : Int, c = (if D < 0 then -((Nat.gcd N.natAbs D.natAbs : Nat) : Int) else ((Nat.gcd N.natAbs D.natAbs : Nat) : Int)) → CDivZ N c ∧ Norm N D (N.fdiv c) (D.fdiv c) := by
      intro c hc
      obtain ⟨c0, nm⟩ := norm_of hD hc
      refine ⟨⟨c0, ?_⟩, nm⟩
      have l1 : c.natAbs ≤ D.natAbs := by
        have : c.natAbs = Nat.gcd N.natAbs D.natAbs := by
          rw [hc]
          split <;> simp
        rw [this]
        exact Nat.gcd_le_right _ (by omega)
      have l2 : c.natAbs < 2 ^ 2100 := Nat.lt_of_le_of_lt l1 sD
      exact Nat.lt_of_lt_of_le (PySem.Flt.log2_lt_of (by decide) l2) (by decide)
    refine ⟨_, rfl, (by trivial), _, rfl, ?_⟩
    refine ite2 (fun c => absurd (V.int.inj (of_decide_eq_true c)) hD) (fun _ => ?_)
    refine ⟨_, rfl, _, rfl, N, D, rfl, ?_⟩
    refine ⟨_, rfl, _, _, rfl, rfl, _, rfl, ?_⟩
    refine ite2 (fun c => ?_) (fun c => ?_)
    · have hn : D < 0 := of_decide_eq_true c
      obtain ⟨k1, k2⟩ := key (-((Nat.gcd N.natAbs D.natAbs : Nat) : Int)) (by rw [if_pos hn])
      refine ⟨_, rfl, _, rfl, ?_⟩
      refine ⟨_, rfl, _, rfl, _, _, rfl, rfl, k1, _, rfl, a, C, dx, _, rfl, e, R.own.cls, R.noT, (by show 0 < 1000; decide), ?_⟩
      refine ⟨_, rfl, _, rfl, _, _, rfl, rfl, ⟨k1.1, k1.2⟩, _, rfl, a, C, dx, _, rfl, upd_same, R.own.cls, R.noB, (by show 1 < 1000; decide), ?_⟩
      exact go _ _ k2
    · have hn : ¬ D < 0 := fun z => c (decide_eq_true z)
      obtain ⟨k1, k2⟩ := key ((Nat.gcd N.natAbs D.natAbs : Nat) : Int) (by rw [if_neg hn])
      refine ⟨_, rfl, _, rfl, _, _, rfl, rfl, k1, _, rfl, a, C, dx, _, rfl, e, R.own.cls, R.noT, (by show 0 < 1000; decide), ?_⟩
      refine ⟨_, rfl, _, rfl, _, _, rfl, rfl, ⟨k1.1, k1.2⟩, _, rfl, a, C, dx, _, rfl, upd_same, R.own.cls, R.noB, (by show 1 < 1000; decide), ?_⟩
      exact go _ _ k2
end
/-- the class called -/
structure Mkr (P : Program) (w : World) (K : PySem.W.Frag) (mg : Str → Option Value) (base : Heap) (C : Addr) : Prop where
  ex : ∃ f fd, Mk K C f ∧ FnOk P w K mg base CX0 1 f fd ["self", "top", "bottom"] (spInit C) ∧ mg "Ratio" = some (.ref C) ∧ Binds K fd ["self", "top", "bottom"] [] ∧ ∃ u, RelV (.int 1) u ∧ Binds K fd ["self", "top", "bottom"] [u]
/-- Ratio(a, b), b not 0 -/
def rdRat (C : Addr) (N D : Int) (H : Hp) (Q : VK) : Prop := D ≠ 0 ∧ Lg D ∧ ∀ p H3 n d, Same H H3 → H p = none → Rt C H3 p n d → Norm N D n d → Q (.ref p) H3
theorem rd_init {C : Addr} {N D : Int} {H : Hp} {Q : VK} {vs : List V} (e : vs = [.int N, .int D]) (h : rdRat C N D H Q) : ∀ x dx, H x = none → H dx = none → dx ≠ x →
    spInit C (.ref x :: vs) (upd (upd H dx (.own x)) x (.ins C dx [])) (fun v H2 => v = .non ∧ Q (.ref x) H2) E0 := by
  intro x dx hx hdx ne
  obtain ⟨hD, sD, go⟩ := h
  subst e
  refine ⟨x, dx, N, D, rfl, upd_same, hD, sD, fun n d nm => ⟨rfl, go x _ n d (fun b o e => ?_) hx ⟨dx, upd_same⟩ nm⟩⟩
  rw [upd_ne (ne_of_none e hx), upd_ne (ne_of_none e hx), upd_ne (ne_of_none e hx), upd_ne (ne_of_none e hdx)]
  exact e
section
variable {X : Cx} {C : Addr} {a b : Expr} {ta tb : TE} {p pos : Pos}
theorem pe_rat (M : Mkr X.prog X.w X.K X.mg X.base C) (hr : Room 2 X.A) (ha : PE X a ta) (hb : PE X b tb) (hg : Gl X "Ratio" := by rfl)
    (na : starEach [a, b] X.env = (false, eval a X.env) :: starEach [b] X.env := by rfl) (nb : starEach [b] X.env = (false, eval b X.env) :: starEach [] X.env := by rfl) :
    PE X (.Call (.Name "Ratio" p) [a, b] [] pos) (tMake C (spInit C) [] E0 (tCons ta (tCons tb tNil))) := by
  obtain ⟨f, fd, mk, F, gC, bs, _⟩ := M.ex
  exact pe_make mk F hr hg gC bs .nil pass0 (pa_cons ha (pa_cons hb pa_nil nb) na) (by decide) na (by rw [nb]; rfl)
theorem pe_rat1 (M : Mkr X.prog X.w X.K X.mg X.base C) (hr : Room 2 X.A) (ha : PE X a ta) (hg : Gl X "Ratio" := by rfl)
    (na : starEach [a] X.env = (false, eval a X.env) :: starEach [] X.env := by rfl) :
    PE X (.Call (.Name "Ratio" p) [a] [] pos) (tMake C (spInit C) [.int 1] E0 (tCons ta tNil)) := by
  obtain ⟨f, fd, mk, F, gC, _, u, ru, bs⟩ := M.ex
  exact pe_make mk F hr hg gC bs (.cons ru .nil) pass0 (pa_cons ha pa_nil na) (by decide) na (by rfl)
end
section
variable {P : Program} {w : World} {K : PySem.W.Frag} {mg : Str → Option Value} {base : Heap} {C : Addr}
/-- self op other, a Ratio and a number -/
def spBin (C : Addr) (g1 g2 : Int → Int → Int → Int → Int) : Sp := fun vs H Q _ => ∃ a n d y m e, vs = [.ref a, y] ∧ Rt C H a n d ∧ Nu C H y m e ∧ Sm n ∧ Sm d ∧ Sm m ∧ Sm e ∧ g2 n d m e ≠ 0 ∧
  ∀ p H' n' d', Same H H' → Rt C H' p n' d' → Norm (g1 n d m e) (g2 n d m e) n' d' → Q (.ref p) H'
theorem rd_num {H : Hp} {y : V} {m e : Int} {vs : List V} {Q : VK} {E : XK} (nu : Nu C H y m e) (hv : vs = [y]) (q : Q (.bl true) H) : spNumber K C vs H Q E := by
  subst hv
  rcases nu with ⟨rfl, rfl⟩ | ⟨b, rfl, dx, h⟩
  · exact .inr ⟨_, "int", rfl, .int m, q⟩
  · exact .inl ⟨b, dx, _, rfl, h, q⟩
/-- what the methods use -/
structure Us (P : Program) (w : World) (K : PySem.W.Frag) (mg : Str → Option Value) (base : Heap) (C : Addr) : Prop where
  bt : Bt mg
  rc : Rc K C
  num : Cal P w K mg base "is_number" 2 ["value"] (spNumber K C)
  parts : Cal P w K mg base "_parts" 1 ["number"] (spParts C)
  mkr : Mkr P w K mg base C
abbrev NB : List Str := ["self", "other", "top", "bottom"]
theorem scAdd : FnScope NB ["self", "other"] (defScope (mth 3)) := ⟨rfl, rfl, rfl, by decide +kernel, rfl, by decide +kernel, by decide +kernel⟩
theorem ok_add {f : Addr} {fd : FuncData} (F : L2.Fun K "__add__" "Ratio.__add__" (mth 3) f fd) (U : Us P w K mg base C) :
    FnOk P w K mg base CX0 3 f fd ["self", "other"] (spBin C (fun n d m e => n * e + m * d) (fun _ d _ e => d * e)) := by
  refine F.ok scAdd (fun vs H Q E h => ?_) (fun cdv A outer s H vs Q E hr h => ?_)
  · obtain ⟨a, n, d, y, m, e, rfl, _⟩ := h
    rfl
  · obtain ⟨a, n, d, y, m, e, rfl, ⟨dx, ha⟩, nu, sn, sd, sm, se, g0, go⟩ := h
    refine ⟨_, pss_cons (ps_if (pt_not (pt_val (pe_cal U.num (hr.mono (by decide)) (pa_cons (pv 1) pa_nil)))) (pss_one ps_never) pss_nil)
      (pss_cons (ps_asg (pe_cal U.parts (hr.mono (by decide)) (pa_cons (pv 1) pa_nil)) (pg_tup (by rfl) (pgs_cons (pg_name (i := 2) scAdd.nd rfl (.inl rfl)) (pgs_cons (pg_name (i := 3) scAdd.nd rfl (.inl rfl)) pgs_nil))))
      (pss_one (ps_ret (pe_rat U.mkr (hr.mono (by decide)) (pe_op op_add (pe_op op_mulW (pe_fld (pv 0) rfl) (pv 3)) (pe_op op_mulW (pv 2) (pe_fld (pv 0) rfl))) (pe_op op_mulW (pe_fld (pv 0) rfl) (pv 3)))))), ?_⟩
    refine ⟨y, rfl, ?_⟩
    dsimp only [tNil]
    refine rd_num nu rfl ⟨_, rfl, iteF ?_⟩
    refine ⟨y, rfl, y, m, e, rfl, nu, fun t ht => ⟨t, _, rfl, SqT.of upd_same, rfl, _, _, rfl, _, _, rfl, rfl, ?_⟩⟩
    have s1 := same_new (o := .tup [.int m, .int e]) ht
    have ha1 := s1 _ _ ha
    generalize upd H t (.tup [.int m, .int e]) = H1 at s1 ha1 ⊢
    refine ⟨_, rfl, a, C, dx, _, _, rfl, ha1, U.rc.own.cls, U.rc.noT, lkT n d, _, rfl, _, _, rfl, rfl, cmul sn se, ?_⟩
    refine ⟨_, rfl, _, rfl, a, C, dx, _, _, rfl, ha1, U.rc.own.cls, U.rc.noB, lkB n d, _, _, rfl, rfl, cmul sm sd, _, _, rfl, rfl, ?_⟩
    refine ⟨_, rfl, a, C, dx, _, _, rfl, ha1, U.rc.own.cls, U.rc.noB, lkB n d, _, rfl, _, _, rfl, rfl, cmul sd se, ?_⟩
    exact rd_init rfl ⟨g0, lg_of (lg_mul sd se), fun p H3 n' d' s3 _ r nm => go p H3 n' d' (s1.trans s3) r nm⟩
end
end K03

set_option Elab.async false
set_option linter.all false
set_option maxRecDepth 100000
set_option maxHeartbeats 4000000
set_option exponentiation.threshold 3000
/-! The law over Ratios: the other methods. -/
namespace K03
open PySem PySem.Spec PyProof.Rows L2 Vx Vr
section
variable {P : Program} {w : World} {K : PySem.W.Frag} {mg : Str → Option Value} {base : Heap} {C : Addr}
abbrev NO : List Str := ["self", "number", "top", "bottom"]
theorem scSub : FnScope NB ["self", "other"] (defScope (mth 5)) := ⟨rfl, rfl, rfl, by decide +kernel, rfl, by decide +kernel, by decide +kernel⟩
theorem ok_sub {f : Addr} {fd : FuncData} (F : L2.Fun K "__sub__" "Ratio.__sub__" (mth 5) f fd) (U : Us P w K mg base C) :
    FnOk P w K mg base CX0 3 f fd ["self", "other"] (spBin C (fun n d m e => n * e - m * d) (fun _ d _ e => d * e)) := by
  refine F.ok scSub (fun vs H Q E h => ?_) (fun cdv A outer s H vs Q E hr h => ?_)
  · obtain ⟨a, n, d, y, m, e, rfl, _⟩ := h
    rfl
  · obtain ⟨a, n, d, y, m, e, rfl, ⟨dx, ha⟩, nu, sn, sd, sm, se, g0, go⟩ := h
    refine ⟨_, pss_cons (ps_if (pt_not (pt_val (pe_cal U.num (hr.mono (by decide)) (pa_cons (pv 1) pa_nil)))) (pss_one ps_never) pss_nil)
      (pss_cons (ps_asg (pe_cal U.parts (hr.mono (by decide)) (pa_cons (pv 1) pa_nil)) (pg_tup (by rfl) (pgs_cons (pg_name (i := 2) scSub.nd rfl (.inl rfl)) (pgs_cons (pg_name (i := 3) scSub.nd rfl (.inl rfl)) pgs_nil))))
      (pss_one (ps_ret (pe_rat U.mkr (hr.mono (by decide)) (pe_op op_sub (pe_op op_mulW (pe_fld (pv 0) rfl) (pv 3)) (pe_op op_mulW (pv 2) (pe_fld (pv 0) rfl))) (pe_op op_mulW (pe_fld (pv 0) rfl) (pv 3)))))), ?_⟩
    refine ⟨y, rfl, ?_⟩
    dsimp only [tNil]
    refine rd_num nu rfl ⟨_, rfl, iteF ?_⟩
    refine ⟨y, rfl, y, m, e, rfl, nu, fun t ht => ⟨t, _, rfl, SqT.of upd_same, rfl, _, _, rfl, _, _, rfl, rfl, ?_⟩⟩
    have s1 := same_new (o := .tup [.int m, .int e]) ht
    have ha1 := s1 _ _ ha
    generalize upd H t (.tup [.int m, .int e]) = H1 at s1 ha1 ⊢
    refine ⟨_, rfl, a, C, dx, _, _, rfl, ha1, U.rc.own.cls, U.rc.noT, lkT n d, _, rfl, _, _, rfl, rfl, cmul sn se, _, rfl, _, rfl, a, C, dx, _, _, rfl, ha1, U.rc.own.cls, U.rc.noB, lkB n d, _, _, rfl, rfl, cmul sm sd, _, _, rfl, rfl, ?_⟩
    refine ⟨_, rfl, a, C, dx, _, _, rfl, ha1, U.rc.own.cls, U.rc.noB, lkB n d, _, rfl, _, _, rfl, rfl, cmul sd se, ?_⟩
    exact rd_init rfl ⟨g0, lg_of (lg_mul sd se), fun p H3 n' d' s3 _ r nm => go p H3 n' d' (s1.trans s3) r nm⟩
theorem scMul : FnScope NB ["self", "other"] (defScope (mth 7)) := ⟨rfl, rfl, rfl, by decide +kernel, rfl, by decide +kernel, by decide +kernel⟩
theorem ok_mul {f : Addr} {fd : FuncData} (F : L2.Fun K "__mul__" "Ratio.__mul__" (mth 7) f fd) (U : Us P w K mg base C) :
    FnOk P w K mg base CX0 3 f fd ["self", "other"] (spBin C (fun n _ m _ => n * m) (fun _ d _ e => d * e)) := by
  refine F.ok scMul (fun vs H Q E h => ?_) (fun cdv A outer s H vs Q E hr h => ?_)
  · obtain ⟨a, n, d, y, m, e, rfl, _⟩ := h
    rfl
  · obtain ⟨a, n, d, y, m, e, rfl, ⟨dx, ha⟩, nu, sn, sd, sm, se, g0, go⟩ := h
    refine ⟨_, pss_cons (ps_if (pt_not (pt_val (pe_cal U.num (hr.mono (by decide)) (pa_cons (pv 1) pa_nil)))) (pss_one ps_never) pss_nil)
      (pss_cons (ps_asg (pe_cal U.parts (hr.mono (by decide)) (pa_cons (pv 1) pa_nil)) (pg_tup (by rfl) (pgs_cons (pg_name (i := 2) scMul.nd rfl (.inl rfl)) (pgs_cons (pg_name (i := 3) scMul.nd rfl (.inl rfl)) pgs_nil))))
      (pss_one (ps_ret (pe_rat U.mkr (hr.mono (by decide)) (pe_op op_mulW (pe_fld (pv 0) rfl) (pv 2)) (pe_op op_mulW (pe_fld (pv 0) rfl) (pv 3)))))), ?_⟩
    refine ⟨y, rfl, ?_⟩
    dsimp only [tNil]
    refine rd_num nu rfl ⟨_, rfl, iteF ?_⟩
    refine ⟨y, rfl, y, m, e, rfl, nu, fun t ht => ⟨t, _, rfl, SqT.of upd_same, rfl, _, _, rfl, _, _, rfl, rfl, ?_⟩⟩
    have s1 := same_new (o := .tup [.int m, .int e]) ht
    have ha1 := s1 _ _ ha
    generalize upd H t (.tup [.int m, .int e]) = H1 at s1 ha1 ⊢
    refine ⟨_, rfl, a, C, dx, _, _, rfl, ha1, U.rc.own.cls, U.rc.noT, lkT n d, _, rfl, _, _, rfl, rfl, cmul sn sm, ?_⟩
    refine ⟨_, rfl, a, C, dx, _, _, rfl, ha1, U.rc.own.cls, U.rc.noB, lkB n d, _, rfl, _, _, rfl, rfl, cmul sd se, ?_⟩
    exact rd_init rfl ⟨g0, lg_of (lg_mul sd se), fun p H3 n' d' s3 _ r nm => go p H3 n' d' (s1.trans s3) r nm⟩
theorem scBelow : FnScope NO ["self", "number"] (defScope (mth 13)) := ⟨rfl, rfl, rfl, by decide +kernel, rfl, by decide +kernel, by decide +kernel⟩
def spBelow (C : Addr) : Sp := fun vs H Q _ => ∃ a n d y m e, vs = [.ref a, y] ∧ Rt C H a n d ∧ Nu C H y m e ∧ Sm n ∧ Sm d ∧ Sm m ∧ Sm e ∧ ∀ H', Same H H' → Q (.bl (decide (n * e < m * d))) H'
theorem ok_below {f : Addr} {fd : FuncData} (F : L2.Fun K "below" "Ratio.below" (mth 13) f fd) (U : Us P w K mg base C) :
    FnOk P w K mg base CX0 3 f fd ["self", "number"] (spBelow C) := by
  refine F.ok scBelow (fun vs H Q E h => ?_) (fun cdv A outer s H vs Q E hr h => ?_)
  · obtain ⟨a, n, d, y, m, e, rfl, _⟩ := h
    rfl
  · obtain ⟨a, n, d, y, m, e, rfl, ⟨dx, ha⟩, nu, sn, sd, sm, se, go⟩ := h
    refine ⟨_, pss_cons (ps_asg (pe_cal U.parts (hr.mono (by decide)) (pa_cons (pv 1) pa_nil)) (pg_tup (by rfl) (pgs_cons (pg_name (i := 2) scBelow.nd rfl (.inl rfl)) (pgs_cons (pg_name (i := 3) scBelow.nd rfl (.inl rfl)) pgs_nil))))
      (pss_one (ps_ret (pe_cmpR op_lt (pe_op op_mulW (pe_fld (pv 0) rfl) (pv 3)) (pe_op op_mulW (pv 2) (pe_fld (pv 0) rfl)) (nomark _)))), ?_⟩
    refine ⟨y, rfl, y, m, e, rfl, nu, fun t ht => ⟨t, _, rfl, SqT.of upd_same, rfl, _, _, rfl, _, _, rfl, rfl, ?_⟩⟩
    have s1 := same_new (o := .tup [.int m, .int e]) ht
    have ha1 := s1 _ _ ha
    generalize upd H t (.tup [.int m, .int e]) = H1 at s1 ha1 ⊢
    refine ⟨_, rfl, a, C, dx, _, _, rfl, ha1, U.rc.own.cls, U.rc.noT, lkT n d, _, rfl, _, _, rfl, rfl, cmul sn se, _, rfl, _, rfl, a, C, dx, _, _, rfl, ha1, U.rc.own.cls, U.rc.noB, lkB n d, _, _, rfl, rfl, cmul sm sd, _, _, rfl, rfl, ?_⟩
    exact go _ s1
theorem scNeg : FnScope ["self"] ["self"] (defScope (mth 9)) := ⟨rfl, rfl, rfl, by decide +kernel, rfl, by decide +kernel, by decide +kernel⟩
def spNeg (C : Addr) : Sp := fun vs H Q _ => ∃ a n d, vs = [.ref a] ∧ Rt C H a n d ∧ d ≠ 0 ∧ Sm d ∧ ∀ p H' n' d', Same H H' → Rt C H' p n' d' → Norm (-n) d n' d' → Q (.ref p) H'
theorem sm_lg {x : Int} (h : Sm x) : Lg x := Nat.lt_trans h (Nat.pow_lt_pow_right (by decide) (by decide))
theorem ok_neg {f : Addr} {fd : FuncData} (F : L2.Fun K "__neg__" "Ratio.__neg__" (mth 9) f fd) (U : Us P w K mg base C) : FnOk P w K mg base CX0 3 f fd ["self"] (spNeg C) := by
  refine F.ok scNeg (fun vs H Q E h => ?_) (fun cdv A outer s H vs Q E hr h => ?_)
  · obtain ⟨a, n, d, rfl, _⟩ := h
    rfl
  · obtain ⟨a, n, d, rfl, ⟨dx, ha1⟩, d0, sd, go⟩ := h
    refine ⟨_, pss_one (ps_ret (pe_rat U.mkr (hr.mono (by decide)) (pe_un un_neg (pe_fld (pv 0) rfl)) (pe_fld (pv 0) rfl))), ?_⟩
    refine ⟨_, rfl, a, C, dx, _, _, rfl, ha1, U.rc.own.cls, U.rc.noT, lkT n d, _, rfl, ?_⟩
    refine ⟨_, rfl, a, C, dx, _, _, rfl, ha1, U.rc.own.cls, U.rc.noB, lkB n d, ?_⟩
    exact rd_init rfl ⟨d0, sm_lg sd, fun p H3 n' d' s3 _ r nm => go p H3 n' d' s3 r nm⟩
/-! ### the reflected ones -/
/-- the class with its operators -/
structure Ops (P : Program) (w : World) (K : PySem.W.Frag) (mg : Str → Option Value) (base : Heap) (C : Addr) : Prop where
  us : Us P w K mg base C
  add : Mth P w K mg base C "__add__" 3 ["self", "other"] (spBin C (fun n d m e => n * e + m * d) (fun _ d _ e => d * e))
  sub : Mth P w K mg base C "__sub__" 3 ["self", "other"] (spBin C (fun n d m e => n * e - m * d) (fun _ d _ e => d * e))
  mul : Mth P w K mg base C "__mul__" 3 ["self", "other"] (spBin C (fun n _ m _ => n * m) (fun _ d _ e => d * e))
  neg : Mth P w K mg base C "__neg__" 3 ["self"] (spNeg C)
  radd : ∃ g : Addr, PySem.W.findIn K (.ref C) "__radd__" = some (some (.ref g))
  rsub : ∃ g : Addr, PySem.W.findIn K (.ref C) "__rsub__" = some (some (.ref g))
  rmul : ∃ g : Addr, PySem.W.findIn K (.ref C) "__rmul__" = some (some (.ref g))
  intSub : PySem.W.subIn K (.type "int") (.ref C) = some false
  iA : ∃ fo ro, PySem.W.findIn K (.type "int") "__add__" = some fo ∧ PySem.W.findIn K (.type "int") "__radd__" = some ro
  iS : ∃ fo ro, PySem.W.findIn K (.type "int") "__sub__" = some fo ∧ PySem.W.findIn K (.type "int") "__rsub__" = some ro
  iM : ∃ fo ro, PySem.W.findIn K (.type "int") "__mul__" = some fo ∧ PySem.W.findIn K (.type "int") "__rmul__" = some ro
/-- a Ratio op a number -/
def rNum (C : Addr) (g1 g2 : Int → Int → Int → Int → Int) : R2 := fun x y H Q => ∃ a n d m e, x = .ref a ∧ Rt C H a n d ∧ Nu C H y m e ∧ Sm n ∧ Sm d ∧ Sm m ∧ Sm e ∧ g2 n d m e ≠ 0 ∧
  ∀ p H' n' d', Same H H' → Rt C H' p n' d' → Norm (g1 n d m e) (g2 n d m e) n' d' → Q (.ref p) H'
theorem rNum_of {C : Addr} {g1 g2 : Int → Int → Int → Int → Int} {x y : V} {H : Hp} {Q : VK} (h : rNum C g1 g2 x y H Q) : ∃ a dx fs, x = .ref a ∧ H a = some (.ins C dx fs) ∧ ((∃ b dy gs, y = .ref b ∧ H b = some (.ins C dy gs)) ∨ ∃ i, y = .int i) ∧
    spBin C g1 g2 [x, y] H (fun v H' => Nn v ∧ Q v H') E0 := by
  obtain ⟨a, n, d, m, e, rfl, ⟨dx, ha⟩, nu, sn, sd, sm, se, g0, go⟩ := h
  refine ⟨a, dx, _, rfl, ha, ?_, a, n, d, y, m, e, rfl, ⟨dx, ha⟩, nu, sn, sd, sm, se, g0, fun p H' n' d' s r nm => ⟨.inl ⟨p, rfl⟩, go p H' n' d' s r nm⟩⟩
  rcases nu with ⟨rfl, rfl⟩ | ⟨b, rfl, dy, hb⟩
  · exact .inr ⟨m, rfl⟩
  · exact .inl ⟨b, dy, _, rfl, hb⟩
theorem OpR.imp {X : Cx} {f : Value → Value → Sem Value} {r r' : R2} (h : OpR X f r) (i : ∀ x y H Q, r' x y H Q → r x y H Q) : OpR X f r' := fun pins s σ H x y v u Q I rx ry q => h pins s σ H x y v u Q I rx ry (i x y H Q q)
variable {X : Cx}
theorem op_addN (O : Ops X.prog X.w X.K X.mg X.base C) (hr : Room 3 X.A) : OpR X (binaryOp .Add) (rNum C (fun n d m e => n * e + m * d) (fun _ d _ e => d * e)) := by
  obtain ⟨g, hg⟩ := O.radd
  obtain ⟨fo, ro, h1, h2⟩ := O.iA
  exact OpR.imp (op_own (op := .Add) O.us.rc.own O.add hr hg (.inr ⟨g, rfl⟩) h1 h2 O.intSub) fun x y H Q => rNum_of
theorem op_subN (O : Ops X.prog X.w X.K X.mg X.base C) (hr : Room 3 X.A) : OpR X (binaryOp .Sub) (rNum C (fun n d m e => n * e - m * d) (fun _ d _ e => d * e)) := by
  obtain ⟨g, hg⟩ := O.rsub
  obtain ⟨fo, ro, h1, h2⟩ := O.iS
  exact OpR.imp (op_own (op := .Sub) O.us.rc.own O.sub hr hg (.inr ⟨g, rfl⟩) h1 h2 O.intSub) fun x y H Q => rNum_of
theorem op_mulN (O : Ops X.prog X.w X.K X.mg X.base C) (hr : Room 3 X.A) : OpR X (binaryOp .Mult) (rNum C (fun n _ m _ => n * m) (fun _ d _ e => d * e)) := by
  obtain ⟨g, hg⟩ := O.rmul
  obtain ⟨fo, ro, h1, h2⟩ := O.iM
  exact OpR.imp (op_own (op := .Mult) O.us.rc.own O.mul hr hg (.inr ⟨g, rfl⟩) h1 h2 O.intSub) fun x y H Q => rNum_of
theorem un_negN (O : Ops X.prog X.w X.K X.mg X.base C) (hr : Room 3 X.A) : UnR X (unaryOp .USub) (fun x H Q => ∃ a n d, x = .ref a ∧ Rt C H a n d ∧ d ≠ 0 ∧ Sm d ∧ ∀ p H' n' d', Same H H' → Rt C H' p n' d' → Norm (-n) d n' d' → Q (.ref p) H') := by
  intro pins s σ H x v Q I rx h
  obtain ⟨a, n, d, rfl, ⟨dx, ha⟩, d0, sd, go⟩ := h
  exact un_negOwn O.neg hr pins s σ H _ v Q I rx ⟨a, dx, _, rfl, ha, a, n, d, rfl, ⟨dx, ha⟩, d0, sd, go⟩
end
section
variable {P : Program} {w : World} {K : PySem.W.Frag} {mg : Str → Option Value} {base : Heap} {C : Addr}
abbrev NR : List Str := ["self", "other"]
theorem scRadd : FnScope NR ["self", "other"] (defScope (mth 4)) := ⟨rfl, rfl, rfl, by decide +kernel, rfl, by decide +kernel, by decide +kernel⟩
theorem ok_radd {f : Addr} {fd : FuncData} (F : L2.Fun K "__radd__" "Ratio.__radd__" (mth 4) f fd) (O : Ops P w K mg base C) :
    FnOk P w K mg base CX0 4 f fd ["self", "other"] (spBin C (fun n d m e => n * e + m * d) (fun _ d _ e => d * e)) := by
  refine F.ok scRadd (fun vs H Q E h => ?_) (fun cdv A outer s H vs Q E hr h => ?_)
  · obtain ⟨a, n, d, y, m, e, rfl, _⟩ := h
    rfl
  · obtain ⟨a, n, d, y, m, e, rfl, ha, nu, sn, sd, sm, se, g0, go⟩ := h
    refine ⟨_, pss_one (ps_ret (pe_op (op_addN O (hr.mono (by decide))) (pv 0) (pv 1))), ?_⟩
    exact ⟨_, rfl, y, rfl, a, n, d, m, e, rfl, ha, nu, sn, sd, sm, se, g0, go⟩
theorem scRmul : FnScope NR ["self", "other"] (defScope (mth 8)) := ⟨rfl, rfl, rfl, by decide +kernel, rfl, by decide +kernel, by decide +kernel⟩
theorem ok_rmul {f : Addr} {fd : FuncData} (F : L2.Fun K "__rmul__" "Ratio.__rmul__" (mth 8) f fd) (O : Ops P w K mg base C) :
    FnOk P w K mg base CX0 4 f fd ["self", "other"] (spBin C (fun n _ m _ => n * m) (fun _ d _ e => d * e)) := by
  refine F.ok scRmul (fun vs H Q E h => ?_) (fun cdv A outer s H vs Q E hr h => ?_)
  · obtain ⟨a, n, d, y, m, e, rfl, _⟩ := h
    rfl
  · obtain ⟨a, n, d, y, m, e, rfl, ha, nu, sn, sd, sm, se, g0, go⟩ := h
    refine ⟨_, pss_one (ps_ret (pe_op (op_mulN O (hr.mono (by decide))) (pv 0) (pv 1))), ?_⟩
    exact ⟨_, rfl, y, rfl, a, n, d, m, e, rfl, ha, nu, sn, sd, sm, se, g0, go⟩
theorem norm_neg {n d n' d' m e : Int} (d0 : d ≠ 0) (e0 : e ≠ 0) (h : Norm (-n) d n' d') {n2 d2 : Int} (h2 : Norm (n' * e + m * d') (d' * e) n2 d2) : n2 * (d * e) = (m * d - n * e) * d2 := by
  obtain ⟨a1, a2, _⟩ := h
  obtain ⟨b1, _⟩ := h2
  have k : d' * (n2 * (d * e)) = d' * ((m * d - n * e) * d2) := by
    have t1 : d' * (n2 * (d * e)) = d * (n2 * (d' * e)) := by ac_rfl
    rw [t1, b1]
    have t2 : d * ((n' * e + m * d') * d2) = ((n' * d) * e + m * d * d') * d2 := by
      rw [Int.add_mul, Int.add_mul, Int.mul_add]
      congr 1 <;> ac_rfl
    rw [t2, a1]
    rw [Int.add_mul, Int.sub_mul, Int.mul_sub, Int.neg_mul, Int.neg_mul, Int.neg_mul]
    have t3 : n * d' * e * d2 = d' * (n * e * d2) := by ac_rfl
    have t4 : m * d * d' * d2 = d' * (m * d * d2) := by ac_rfl
    rw [t3, t4]
    omega
  exact Int.eq_of_mul_eq_mul_left (by omega) k
def spRsub (C : Addr) : Sp := fun vs H Q _ => ∃ a n d y m e, vs = [.ref a, y] ∧ Rt C H a n d ∧ Nu C H y m e ∧ Sm n ∧ Sm d ∧ Sm m ∧ Sm e ∧ d ≠ 0 ∧ e ≠ 0 ∧
  ∀ p H' n' d', Same H H' → Rt C H' p n' d' → n' * (d * e) = (m * d - n * e) * d' → 0 < d' → Int.gcd n' d' = 1 → Lg n' → Lg d' → Q (.ref p) H'
theorem scRsub : FnScope NR ["self", "other"] (defScope (mth 6)) := ⟨rfl, rfl, rfl, by decide +kernel, rfl, by decide +kernel, by decide +kernel⟩
theorem ok_rsub {f : Addr} {fd : FuncData} (F : L2.Fun K "__rsub__" "Ratio.__rsub__" (mth 6) f fd) (O : Ops P w K mg base C) :
    FnOk P w K mg base CX0 4 f fd ["self", "other"] (spRsub C) := by
  refine F.ok scRsub (fun vs H Q E h => ?_) (fun cdv A outer s H vs Q E hr h => ?_)
  · obtain ⟨a, n, d, y, m, e, rfl, _⟩ := h
    rfl
  · obtain ⟨a, n, d, y, m, e, rfl, ha, nu, sn, sd, sm, se, d0, e0, go⟩ := h
    refine ⟨_, pss_one (ps_ret (pe_op (op_addN O (hr.mono (by decide))) (pe_un (un_negN O (hr.mono (by decide))) (pv 0)) (pv 1))), ?_⟩
    refine ⟨_, rfl, a, n, d, rfl, ha, d0, sd, fun p H1 n1 d1 s1 r1 nm1 => ?_⟩
    have sn1 : Sm n1 := Nat.lt_of_le_of_lt nm1.2.2.2.1 (by rw [Int.natAbs_neg]; exact sn)
    have sd1 : Sm d1 := Nat.lt_of_le_of_lt nm1.2.2.2.2 sd
    refine ⟨y, rfl, p, n1, d1, m, e, rfl, r1, nu.same s1, sn1, sd1, sm, se, ?_, fun p2 H2 n2 d2 s2 r2 nm2 => ?_⟩
    · have := nm1.2.1
      exact Int.mul_ne_zero (by omega) e0
    · exact go p2 H2 n2 d2 (s1.trans s2) r2 (norm_neg d0 e0 nm1 nm2) nm2.2.1 nm2.2.2.1 (Nat.lt_of_le_of_lt nm2.2.2.2.1 (lg_add (lg_mul sn1 se) (lg_mul sm sd1))) (Nat.lt_of_le_of_lt nm2.2.2.2.2 (lg_of (lg_mul sd1 se)))
end
end K03

set_option Elab.async false
set_option linter.all false
set_option maxRecDepth 100000
set_option maxHeartbeats 4000000
set_option exponentiation.threshold 3000
/-! The law over Ratios: == of the class, its texts, its properties. -/
namespace K03
open PySem PySem.Spec PyProof.Rows L2 Vx Vr
theorem shaped_pair (n d : Int) : SeqAt.shaped (.tuple [.int n, .int d]) = true := by rfl
theorem eqv_pair (n d m e : Int) : PyData.eqv (.tuple [.int n, .int d]) (.tuple [.int m, .int e]) = (decide (n = m) && decide (d = e)) := by
  simp [PyData.eqv, PyData.eqvAll]
  rfl
section
variable {P : Program} {w : World} {K : PySem.W.Frag} {mg : Str → Option Value} {base : Heap} {C : Addr}
/-- a Ratio beside another thing: a number, or something of another kind -/
def spEq (K : PySem.W.Frag) (C : Addr) : Sp := fun vs H Q _ => ∃ a n d y, vs = [.ref a, y] ∧ Rt C H a n d ∧
  ((∃ m e, Nu C H y m e ∧ ∀ H', Same H H' → Q (.bl (decide (n = m) && decide (d = e))) H') ∨ ∃ T, Oth K H y T ∧ T ≠ "int" ∧ Q (.bl false) H)
theorem dp_pair {H : Hp} {t : Addr} {n d : Int} (h : H t = some (.tup [.int n, .int d])) : Dp K H (.ref t) (.tuple [.int n, .int d]) := .tup (SqT.of h) (.cons (.int n) (.cons (.int d) .nil))
theorem scEq : FnScope NR ["self", "other"] (defScope (mth 10)) := ⟨rfl, rfl, rfl, by decide +kernel, rfl, by decide +kernel, by decide +kernel⟩
theorem ok_eq {f : Addr} {fd : FuncData} (F : L2.Fun K "__eq__" "Ratio.__eq__" (mth 10) f fd) (U : Us P w K mg base C) : FnOk P w K mg base CX0 3 f fd ["self", "other"] (spEq K C) := by
  refine F.ok scEq (fun vs H Q E h => ?_) (fun cdv A outer s H vs Q E hr h => ?_)
  · obtain ⟨a, n, d, y, rfl, _⟩ := h
    rfl
  · obtain ⟨a, n, d, y, rfl, ha, h⟩ := h
    refine ⟨_, pss_one (ps_ret (pe_and (pe_cal U.num (hr.mono (by decide)) (pa_cons (pv 1) pa_nil))
      (pe_one (pe_cmpR (op_eqD hr.units) (pe_cal U.parts (hr.mono (by decide)) (pa_cons (pv 0) pa_nil)) (pe_cal U.parts (hr.mono (by decide)) (pa_cons (pv 1) pa_nil)) (nomark _))))), ?_⟩
    rcases h with ⟨m, e, nu, go⟩ | ⟨T, o, ne, go⟩
    · refine ⟨y, rfl, ?_⟩
      dsimp only [tNil]
      refine rd_num nu rfl ⟨_, rfl, iteT ?_⟩
      refine ⟨_, rfl, .ref a, n, d, rfl, .inr ⟨a, rfl, ha⟩, fun t ht => ?_⟩
      have s1 := same_new (o := .tup [.int n, .int d]) ht
      have h1 := upd_same (H := H) (a := t) (o := .tup [.int n, .int d])
      generalize upd H t (.tup [.int n, .int d]) = H1 at s1 h1 ⊢
      refine ⟨y, rfl, y, m, e, rfl, nu.same s1, fun t2 ht2 => ?_⟩
      have s2 := same_new (o := .tup [.int m, .int e]) ht2
      have h2 := upd_same (H := H1) (a := t2) (o := .tup [.int m, .int e])
      generalize upd H1 t2 (.tup [.int m, .int e]) = H2 at s2 h2 ⊢
      refine ⟨_, _, dp_pair (s2 _ _ h1), dp_pair h2, shaped_pair n d, shaped_pair m e, ?_⟩
      rw [eqv_pair]
      exact go _ (s1.trans s2)
    · refine ⟨y, rfl, .inr ⟨y, T, rfl, o, false, ?_, iteF go⟩⟩
      rw [beq_false_of_ne ne]
/-! ### its text -/
def spText (C : Addr) : Sp := fun vs H Q _ => ∃ a n d, vs = [.ref a] ∧ Rt C H a n d ∧ Sm n ∧ Sm d ∧ ∀ z : Str, Q (.str z) H
theorem sm_log {x : Int} (h : Sm x) : x.natAbs.log2 < 1920 := Nat.lt_of_lt_of_le (PySem.Flt.log2_lt_of (by decide) h) (by decide)
theorem scText : FnScope ["self"] ["self"] (defScope (mth 14)) := ⟨rfl, rfl, rfl, by decide +kernel, rfl, by decide +kernel, by decide +kernel⟩
/-! ### its properties -/
theorem ok_top {f : Addr} {fd : FuncData} (F : L2.Fun K "top" "Ratio.top" (mth 1) f fd) (R : Rc K C) : FnOk P w K mg base CX0 1 f fd ["self"] (getSp C "_top") := by
  obtain ⟨oc, od, kV, doc, pm, an, cdv, ct, osl, rfl, lk, hcd⟩ := F.ex
  exact fn_getter (N := ["self"]) lk hcd ⟨rfl, rfl, rfl, by decide +kernel, rfl, by decide +kernel, by decide +kernel⟩ rfl rfl R.own.cls R.noT
theorem ok_bot {f : Addr} {fd : FuncData} (F : L2.Fun K "bottom" "Ratio.bottom" (mth 2) f fd) (R : Rc K C) : FnOk P w K mg base CX0 1 f fd ["self"] (getSp C "_bottom") := by
  obtain ⟨oc, od, kV, doc, pm, an, cdv, ct, osl, rfl, lk, hcd⟩ := F.ex
  exact fn_getter (N := ["self"]) lk hcd ⟨rfl, rfl, rfl, by decide +kernel, rfl, by decide +kernel, by decide +kernel⟩ rfl rfl R.own.cls R.noB
end
end K03

set_option Elab.async false
set_option linter.all false
set_option maxRecDepth 100000
set_option maxHeartbeats 4000000
set_option exponentiation.threshold 3000
/-! The law over texts of Ratios: as_ratio of numbers, total, greatest, least. -/
namespace K03
open PySem PySem.Spec PyProof.Rows L2 Vx Vr
/-- lowest terms are told by the quotient alone -/
theorem norm_eq {N D n d n' d' : Int} (hD : D ≠ 0) (h : Norm N D n d) (h' : Norm N D n' d') : n = n' ∧ d = d' := by
  obtain ⟨a1, a2, a3, _⟩ := h
  obtain ⟨b1, b2, b3, _⟩ := h'
  have cop : ∀ {k m j : Int}, k ∣ m * j → Int.gcd m k = 1 → k ∣ j := fun {k m j} h g => by
    have h1 : k.natAbs ∣ m.natAbs * j.natAbs := by
      rw [← Int.natAbs_mul]
      exact Int.natAbs_dvd_natAbs.mpr h
    have h2 : Nat.Coprime k.natAbs m.natAbs := by
      rw [Nat.coprime_comm]
      exact g
    exact Int.natAbs_dvd_natAbs.mp (h2.dvd_of_dvd_mul_left h1)
  have x : n * d' = n' * d := by
    have k : D * (n * d') = D * (n' * d) := by grind
    exact Int.eq_of_mul_eq_mul_left hD k
  have v1 : d ∣ d' := cop (m := n) ⟨n', by rw [x, Int.mul_comm]⟩ a3
  have v2 : d' ∣ d := cop (m := n') ⟨n, by rw [← x, Int.mul_comm]⟩ b3
  have e : d = d' := Int.dvd_antisymm (by omega) (by omega) v1 v2
  subst e
  exact ⟨Int.eq_of_mul_eq_mul_right (by omega) x, rfl⟩
theorem sm1 : Sm 1 := by
  show (1 : Nat) < 2 ^ 1000
  exact Nat.one_lt_two_pow (by decide)
theorem norm_int {m n d : Int} (h : Norm m 1 n d) : n = m ∧ d = 1 := norm_eq (by decide) h ⟨rfl, by decide, by simp, Nat.le_refl _, Nat.le_refl _⟩
/-- a number made a Ratio: itself, or a new one -/
def spAs (C : Addr) : Sp := fun vs H Q _ => ∃ v m e, vs = [v] ∧ Nu C H v m e ∧ ∀ p H', Same H H' → Rt C H' p m e → Q (.ref p) H'
section
variable {P : Program} {w : World} {K : PySem.W.Frag} {mg : Str → Option Value} {base : Heap} {C : Addr}
theorem scAs : FnScope ["value"] ["value"] (defScope (top 13)) := ⟨rfl, rfl, rfl, by decide +kernel, rfl, by decide +kernel, by decide +kernel⟩
theorem ok_as {f : Addr} {fd : FuncData} (F : L2.Fun K "as_ratio" "as_ratio" (top 13) f fd) (U : Us P w K mg base C) (gC : mg "Ratio" = some (.ref C)) (W : Cal P w K mg base "is_whole" 1 ["value"] (spWhole K)) :
    FnOk P w K mg base CX0 3 f fd ["value"] (spAs C) := by
  refine F.ok scAs (fun vs H Q E h => ?_) (fun cdv A outer s H vs Q E hr h => ?_)
  · obtain ⟨v, m, e, rfl, _⟩ := h
    rfl
  · obtain ⟨v, m, e, rfl, nu, go⟩ := h
    refine ⟨_, pss_cons (ps_if (pt_val (pe_callB call_isi (by rfl) U.bt.isi (by decide +kernel) (pa_cons (pv 0) (pa_cons (pe_glob (v := .ref C) (by rfl) gC rfl) pa_nil)))) (pss_one (ps_ret (pv 0))) pss_nil)
      (pss_cons (ps_if (pt_not (pt_val (pe_cal W (hr.mono (by decide)) (pa_cons (pv 0) pa_nil)))) (pss_one ps_never) pss_nil)
      (pss_one (ps_ret (pe_rat1 U.mkr (hr.mono (by decide)) (pv 0))))), ?_⟩
    rcases nu with ⟨rfl, rfl⟩ | ⟨a, rfl, dx, h⟩
    · refine ⟨_, rfl, .int m, .ref C, .type "int", _, _, rfl, .own C, ty_oth (.int m), U.rc.oth "int" (by decide), _, rfl, iteF ?_⟩
      refine ⟨_, rfl, .int m, "int", rfl, .int m, _, rfl, iteF ?_⟩
      refine ⟨_, rfl, ?_⟩
      exact rd_init rfl ⟨by decide, sm_lg sm1, fun p H' n d s _ r nm => by
        obtain ⟨rfl, rfl⟩ := norm_int nm
        exact go p H' s r⟩
    · refine ⟨_, rfl, .ref a, .ref C, .ref C, _, _, rfl, .own C, U.rc.ty h, U.rc.one, _, rfl, iteT ?_⟩
      exact ⟨_, rfl, go a H (Same.refl _) ⟨dx, h⟩⟩
end
end K03

set_option Elab.async false
set_option linter.all false
set_option maxRecDepth 100000
set_option maxHeartbeats 4000000
set_option exponentiation.threshold 3000
/-! The law over texts of Ratios: total. -/
namespace K03
open PySem PySem.Spec PyProof.Rows L2 Vx Vr
/-- from a / b on, each number added, in lowest terms: n / d at the end -/
def TotFrom : Int → Int → List (Int × Int) → Int → Int → Prop
  | a, b, [], n, d => n = a ∧ d = b
  | a, b, q :: r, n, d => ∃ a' b', Norm (a * q.2 + q.1 * b) (b * q.2) a' b' ∧ TotFrom a' b' r n d
/-- the numbers' values -/
def Nums (C : Addr) (H : Hp) (vs : List V) (qs : List (Int × Int)) : Prop := vs.length = qs.length ∧ ∀ (k : Nat) (v : V) (q : Int × Int), vs[k]? = some v → qs[k]? = some q → Nu C H v q.1 q.2 ∧ q.1.natAbs < 2 ^ 100 ∧ q.2.natAbs < 2 ^ 100 ∧ 0 < q.2
theorem Nums.same {C : Addr} {H H' : Hp} {vs : List V} {qs : List (Int × Int)} (s : Same H H') (h : Nums C H vs qs) : Nums C H' vs qs :=
  ⟨h.1, fun k v q e1 e2 => ⟨(h.2 k v q e1 e2).1.same s, (h.2 k v q e1 e2).2⟩⟩
def Bd (k : Nat) (x : Int) : Prop := x.natAbs < 2 ^ (102 * k + 1)
theorem Bd.sm {k : Nat} {x : Int} (h : Bd k x) (hk : k ≤ 9) : Sm x := Nat.lt_of_lt_of_le h (Nat.pow_le_pow_right (by decide) (by omega))
theorem bd_step {k : Nat} {a b m e : Int} (ha : Bd k a) (hb : Bd k b) (hm : m.natAbs < 2 ^ 100) (he : e.natAbs < 2 ^ 100) {a' b' : Int} (nm : Norm (a * e + m * b) (b * e) a' b') : Bd (k + 1) a' ∧ Bd (k + 1) b' := by
  have p1 : (a * e).natAbs < 2 ^ (102 * k + 101) := by
    have := wide_lt (a := 102 * k + 1) (b := 100) ha he
    rwa [show 102 * k + 1 + 100 = 102 * k + 101 by omega] at this
  have p2 : (m * b).natAbs < 2 ^ (102 * k + 101) := by
    have := wide_lt (a := 100) (b := 102 * k + 1) hm hb
    rwa [show 100 + (102 * k + 1) = 102 * k + 101 by omega] at this
  have p3 : (b * e).natAbs < 2 ^ (102 * k + 101) := by
    have := wide_lt (a := 102 * k + 1) (b := 100) hb he
    rwa [show 102 * k + 1 + 100 = 102 * k + 101 by omega] at this
  have q1 : 2 ^ (102 * k + 101) + 2 ^ (102 * k + 101) ≤ 2 ^ (102 * (k + 1) + 1) := by
    have : 2 ^ (102 * k + 101) + 2 ^ (102 * k + 101) = 2 ^ (102 * k + 102) := (Nat.two_mul _).symm.trans Nat.pow_succ'.symm
    rw [this]
    exact Nat.pow_le_pow_right (by decide) (by omega)
  have l1 := nm.2.2.2.1
  have l2 := nm.2.2.2.2
  constructor
  · show a'.natAbs < _
    generalize 2 ^ (102 * k + 101) = z at *
    generalize 2 ^ (102 * (k + 1) + 1) = y at *
    omega
  · show b'.natAbs < _
    generalize 2 ^ (102 * k + 101) = z at *
    generalize 2 ^ (102 * (k + 1) + 1) = y at *
    omega
theorem rd_at {C : Addr} {N D : Int} {H : Hp} {R : VK} {vs : List V} {x dx : Addr} (hx : H x = none) (hdx : H dx = none) (_ne : dx ≠ x) (e : vs = [.int N, .int D]) (hD : D ≠ 0) (lD : Lg D)
    (k : ∀ H3 n d, Same H H3 → Rt C H3 x n d → Norm N D n d → R .non H3) : spInit C (.ref x :: vs) (upd (upd H dx (.own x)) x (.ins C dx [])) R E0 := by
  subst e
  refine ⟨x, dx, N, D, rfl, upd_same, hD, lD, fun n d nm => k _ n d (fun b o e => ?_) ⟨dx, upd_same⟩ nm⟩
  rw [upd_ne (ne_of_none e hx), upd_ne (ne_of_none e hx), upd_ne (ne_of_none e hx), upd_ne (ne_of_none e hdx)]
  exact e
theorem SqT.same {K : PySem.W.Frag} {H H' : Hp} {a : Addr} {xs : List V} (s : Same H H') (h : SqT K H a xs) : SqT K H' a xs := L2.SqT.ext h s
def spTotal (K : PySem.W.Frag) (C : Addr) : Sp := fun vs H Q _ => ∃ a xs qs, vs = [.ref a] ∧ (SqL K H a xs ∨ SqT K H a xs) ∧ Nums C H xs qs ∧ qs.length ≤ 9 ∧ ∀ p H' n d, Same H H' → Rt C H' p n d → TotFrom 0 1 qs n d → Q (.ref p) H'
section
variable {P : Program} {w : World} {K : PySem.W.Frag} {mg : Str → Option Value} {base : Heap} {C : Addr}
theorem scTotal : FnScope ["numbers", "added", "number"] ["numbers"] (defScope (top 16)) := ⟨rfl, rfl, rfl, by decide +kernel, rfl, by decide +kernel, by decide +kernel⟩
theorem ok_total {f : Addr} {fd : FuncData} (F : L2.Fun K "total" "total" (top 16) f fd) (O : Ops P w K mg base C) : FnOk P w K mg base CX0 4 f fd ["numbers"] (spTotal K C) := by
  refine F.ok scTotal (fun vs H Q E h => ?_) (fun cdv A outer s H vs Q E hr h => ?_)
  · obtain ⟨a, xs, qs, rfl, _⟩ := h
    rfl
  · obtain ⟨a, xs, qs, rfl, hs, hn, hl, go⟩ := h
    have turn : ∀ (k : Nat) (v : V) (H1 : Hp) (p : Addr) (x y : Int), xs[k]? = some v → Same H H1 → Rt C H1 p x y → Bd k x → Bd k y → 0 < y → (∀ n d, TotFrom x y (qs.drop k) n d → TotFrom 0 1 qs n d) →
        ∀ Qv : VK, (∀ p' H' x' y', Same H H' → Rt C H' p' x' y' → Bd (k + 1) x' → Bd (k + 1) y' → 0 < y' → (∀ n d, TotFrom x' y' (qs.drop (k + 1)) n d → TotFrom 0 1 qs n d) → Qv (.ref p') H') →
        rNum C (fun n d m e => n * e + m * d) (fun _ d _ e => d * e) (.ref p) v H1 Qv := by
      intro k v H1 p x y hv s1 r bx by_ y0 cont Qv kk
      have hk : k < qs.length := by
        have := (List.getElem?_eq_some_iff.mp hv).1
        rw [hn.1] at this
        exact this
      obtain ⟨q, hq⟩ : ∃ q, qs[k]? = some q := ⟨_, List.getElem?_eq_getElem hk⟩
      obtain ⟨nu, b1, b2, q0⟩ := hn.2 k v q hv hq
      have sm : ∀ {z : Int}, z.natAbs < 2 ^ 100 → Sm z := fun h => Nat.lt_trans h (Nat.pow_lt_pow_right (by decide) (by decide))
      refine ⟨p, x, y, q.1, q.2, rfl, r, nu.same s1, bx.sm (by omega), by_.sm (by omega), sm b1, sm b2, Int.mul_ne_zero (by omega) (by omega), fun p' H' n' d' s2 r' nm => ?_⟩
      obtain ⟨c1, c2⟩ := bd_step bx by_ b1 b2 nm
      refine kk p' H' n' d' (s1.trans s2) r' c1 c2 nm.2.1 fun n d t => cont n d ?_
      have : qs.drop k = q :: qs.drop (k + 1) := by
        rw [List.drop_eq_getElem_cons hk]
        congr 1
        have := List.getElem?_eq_getElem hk
        rw [hq] at this
        exact (Option.some.inj this).symm
      rw [this]
      exact ⟨n', d', nm, t⟩
    have st0 : Bd 0 0 ∧ Bd 0 1 := ⟨by show (0 : Nat) < 2 ^ 1; decide, by show (1 : Nat) < 2 ^ 1; decide⟩
    rcases hs with hs | hs
    · refine ⟨_, pss_cons (ps_set (i := 1) scTotal.nd rfl (.inl rfl) (pe_rat1 O.us.mkr (hr.mono (by decide)) pe_int))
        (pss_cons (ps_for PassesOwn.never rfl (pi_list (pv 0)) (pg_name (i := 2) scTotal.nd rfl (.inl rfl)) (pss_one (ps_set (i := 1) scTotal.nd rfl (.inl rfl) (pe_op (op_addN O (hr.mono (by decide))) (pv 1) (pv 2)))))
        (pss_one (ps_ret (pv 1)))), ?_⟩
      intro p0 dx0 h0 hd0 ne0
      refine rd_at h0 hd0 ne0 rfl (by decide) (sm_lg sm1) fun H1 n d s1 r nm => ⟨rfl, ?_⟩
      obtain ⟨rfl, rfl⟩ := norm_int nm
      refine ⟨_, rfl, a, rfl, ⟨_, s1.seq hs⟩, ?_⟩
      refine for_list (K := K) (a := a) (xs := xs) (fun k σ H9 => ∃ p x y v, σ = [some (.ref a), some (.ref p), v] ∧ Same H H9 ∧ Rt C H9 p x y ∧ Bd k x ∧ Bd k y ∧ 0 < y ∧ (∀ n d, TotFrom x y (qs.drop k) n d → TotFrom 0 1 qs n d))
        ⟨_, _, _, _, rfl, s1, r, st0.1, st0.2, by decide, fun _ _ t => t⟩ (fun _ _ H9 _ h => by
          obtain ⟨_, _, _, _, _, s9, _⟩ := h
          exact s9.seq hs) ?_ ?_
      · rintro k v σ H9 hv ⟨p, x, y, v0, rfl, s9, r9, bx, by_, y0, ct⟩
        exact ⟨_, rfl, _, rfl, turn k v H9 p x y hv s9 r9 bx by_ y0 ct _ fun p' H' x' y' s' r' b1 b2 b3 ct' => ⟨p', x', y', _, rfl, s', r', b1, b2, b3, ct'⟩⟩
      · rintro σ H9 ⟨p, x, y, v0, rfl, s9, r9, bx, by_, y0, ct⟩
        refine ⟨_, rfl, go p H9 x y s9 r9 (ct x y ?_)⟩
        rw [List.drop_of_length_le (by rw [hn.1]; exact Nat.le_refl _)]
        exact ⟨rfl, rfl⟩
    · refine ⟨_, pss_cons (ps_set (i := 1) scTotal.nd rfl (.inl rfl) (pe_rat1 O.us.mkr (hr.mono (by decide)) pe_int))
        (pss_cons (ps_for PassesOwn.never rfl (pi_tup (pv 0)) (pg_name (i := 2) scTotal.nd rfl (.inl rfl)) (pss_one (ps_set (i := 1) scTotal.nd rfl (.inl rfl) (pe_op (op_addN O (hr.mono (by decide))) (pv 1) (pv 2)))))
        (pss_one (ps_ret (pv 1)))), ?_⟩
      intro p0 dx0 h0 hd0 ne0
      refine rd_at h0 hd0 ne0 rfl (by decide) (sm_lg sm1) fun H1 n d s1 r nm => ⟨rfl, ?_⟩
      obtain ⟨rfl, rfl⟩ := norm_int nm
      refine ⟨_, rfl, a, rfl, ⟨_, SqT.same s1 hs⟩, ?_⟩
      refine for_tup (K := K) (a := a) (xs := xs) (fun k σ H9 => ∃ p x y v, σ = [some (.ref a), some (.ref p), v] ∧ Same H H9 ∧ Rt C H9 p x y ∧ Bd k x ∧ Bd k y ∧ 0 < y ∧ (∀ n d, TotFrom x y (qs.drop k) n d → TotFrom 0 1 qs n d))
        ⟨_, _, _, _, rfl, s1, r, st0.1, st0.2, by decide, fun _ _ t => t⟩ (fun _ _ H9 _ h => by
          obtain ⟨_, _, _, _, _, s9, _⟩ := h
          exact SqT.same s9 hs) ?_ ?_
      · rintro k v σ H9 hv ⟨p, x, y, v0, rfl, s9, r9, bx, by_, y0, ct⟩
        exact ⟨_, rfl, _, rfl, turn k v H9 p x y hv s9 r9 bx by_ y0 ct _ fun p' H' x' y' s' r' b1 b2 b3 ct' => ⟨p', x', y', _, rfl, s', r', b1, b2, b3, ct'⟩⟩
      · rintro σ H9 ⟨p, x, y, v0, rfl, s9, r9, bx, by_, y0, ct⟩
        refine ⟨_, rfl, go p H9 x y s9 r9 (ct x y ?_)⟩
        rw [List.drop_of_length_le (by rw [hn.1]; exact Nat.le_refl _)]
        exact ⟨rfl, rfl⟩
end
end K03

set_option Elab.async false
set_option linter.all false
set_option maxRecDepth 100000
set_option maxHeartbeats 4000000
set_option exponentiation.threshold 3000
/-! The law over texts of Ratios: greatest, least. -/
namespace K03
open PySem PySem.Spec PyProof.Rows L2 Vx Vr
/-- the first of the greatest (least) numbers, the one in hand first -/
def MaxFrom : Int × Int → List (Int × Int) → Int × Int
  | b, [] => b
  | b, q :: r => MaxFrom (if b.1 * q.2 < q.1 * b.2 then q else b) r
def MinFrom : Int × Int → List (Int × Int) → Int × Int
  | b, [] => b
  | b, q :: r => MinFrom (if q.1 * b.2 < b.1 * q.2 then q else b) r
def spBest (K : PySem.W.Frag) (C : Addr) (best : Int × Int → List (Int × Int) → Int × Int) : Sp := fun vs H Q _ => ∃ a xs q0 qs, vs = [.ref a] ∧ (SqL K H a xs ∨ SqT K H a xs) ∧ Nums C H xs (q0 :: qs) ∧ ∀ p H', Same H H' → Rt C H' p (best q0 (q0 :: qs)).1 (best q0 (q0 :: qs)).2 → Q (.ref p) H'
theorem sm100 {z : Int} (h : z.natAbs < 2 ^ 100) : Sm z := Nat.lt_trans h (Nat.pow_lt_pow_right (by decide) (by decide))
theorem drop_at {α : Type} {qs : List α} {k : Nat} {q : α} (hq : qs[k]? = some q) : qs.drop k = q :: qs.drop (k + 1) := by
  have hk := (List.getElem?_eq_some_iff.mp hq).1
  rw [List.drop_eq_getElem_cons hk]
  congr 1
  rw [List.getElem?_eq_getElem hk] at hq
  exact Option.some.inj hq
theorem Nums.at {C : Addr} {H : Hp} {xs : List V} {qs : List (Int × Int)} (h : Nums C H xs qs) {k : Nat} {v : V} (hv : xs[k]? = some v) : ∃ q, qs[k]? = some q ∧ Nu C H v q.1 q.2 ∧ q.1.natAbs < 2 ^ 100 ∧ q.2.natAbs < 2 ^ 100 ∧ 0 < q.2 := by
  have hk : k < qs.length := by
    have := (List.getElem?_eq_some_iff.mp hv).1
    rwa [h.1] at this
  exact ⟨_, List.getElem?_eq_getElem hk, h.2 k v _ hv (List.getElem?_eq_getElem hk)⟩
theorem Nums.head {C : Addr} {H : Hp} {xs : List V} {q0 : Int × Int} {qs : List (Int × Int)} (h : Nums C H xs (q0 :: qs)) : ∃ v, xs[0]? = some v ∧ Nu C H v q0.1 q0.2 ∧ q0.1.natAbs < 2 ^ 100 ∧ q0.2.natAbs < 2 ^ 100 ∧ 0 < q0.2 := by
  have : 0 < xs.length := by rw [h.1]; simp
  exact ⟨_, List.getElem?_eq_getElem this, h.2 0 _ q0 (List.getElem?_eq_getElem this) rfl⟩
section
variable {P : Program} {w : World} {K : PySem.W.Frag} {mg : Str → Option Value} {base : Heap} {C : Addr}
theorem scGreat : FnScope ["numbers", "best", "number"] ["numbers"] (defScope (top 17)) := ⟨rfl, rfl, rfl, by decide +kernel, rfl, by decide +kernel, by decide +kernel⟩
theorem scLeast : FnScope ["numbers", "best", "number", "ratio"] ["numbers"] (defScope (top 18)) := ⟨rfl, rfl, rfl, by decide +kernel, rfl, by decide +kernel, by decide +kernel⟩
theorem ok_greatest {f fb : Addr} {fd fdb : FuncData} (F : L2.Fun K "greatest" "greatest" (top 17) f fd) (U : Us P w K mg base C) (A : Cal P w K mg base "as_ratio" 3 ["value"] (spAs C)) (Mb : Meth K C "below" fb) (Fb : FnOk P w K mg base CX0 3 fb fdb ["self", "number"] (spBelow C)) (bb : Binds K fdb ["self", "number"] []) :
    FnOk P w K mg base CX0 5 f fd ["numbers"] (spBest K C MaxFrom) := by
  refine F.ok scGreat (fun vs H Q E h => ?_) (fun cdv A' outer s H vs Q E hr h => ?_)
  · obtain ⟨a, xs, q0, qs, rfl, _⟩ := h
    rfl
  · obtain ⟨a, xs, q0, qs, rfl, hs, hn, go⟩ := h
    have h3 := hr.mono (show 3 ≤ 4 by decide)
    have cl := U.rc.own.cls
    obtain ⟨u0, hu0, nu0, c0, c1, c2⟩ := hn.head
    rcases hs with hs | hs
    · refine ⟨_, pss_cons (ps_set (i := 1) scGreat.nd rfl (.inl rfl) (pe_cal A h3 (pa_cons (pe_ix ix_list (pv 0) pe_int (fun _ _ => rfl)) pa_nil)))
        (pss_cons (ps_for PassesOwn.never rfl (pi_list (pv 0)) (pg_name (i := 2) scGreat.nd rfl (.inl rfl)) (pss_one (ps_if (pt_val (pe_meth (pv 1) cl Mb Fb h3 bb .nil pass0 (pa_cons (pv 2) pa_nil))) (pss_one (ps_set (i := 1) scGreat.nd rfl (.inl rfl) (pe_cal A h3 (pa_cons (pv 2) pa_nil)))) pss_nil)))
        (pss_one (ps_ret (pv 1)))), ?_⟩
      refine ⟨_, rfl, a, _, 0, u0, rfl, rfl, hs, atI_nat hu0, u0, q0.1, q0.2, rfl, nu0, fun p0 H1 s1 r1 => ?_⟩
      refine ⟨_, rfl, a, rfl, ⟨_, s1.seq hs⟩, ?_⟩
      refine for_list (K := K) (a := a) (xs := xs) (fun k σ H9 => ∃ p x y v2, σ = [some (.ref a), some (.ref p), v2] ∧ Same H H9 ∧ Rt C H9 p x y ∧ x.natAbs < 2 ^ 100 ∧ y.natAbs < 2 ^ 100 ∧ MaxFrom (x, y) ((q0 :: qs).drop k) = MaxFrom q0 (q0 :: qs))
        ⟨p0, q0.1, q0.2, _, rfl, s1, r1, c0, c1, rfl⟩ (fun _ _ H9 _ h => by
          obtain ⟨_, _, _, _, _, s9, _⟩ := h
          exact s9.seq hs) ?_ ?_
      · rintro k v σ H9 hv ⟨p, x, y, v2, rfl, s9, r9, bx, by_, ct⟩
        obtain ⟨q, hq, nu, d0, d1, d2⟩ := (hn.same s9).at hv
        rw [drop_at hq] at ct
        obtain ⟨dx, hp⟩ := r9
        refine ⟨_, rfl, p, dx, _, rfl, hp, rfl, _, rfl, p, x, y, v, q.1, q.2, rfl, ⟨dx, hp⟩, nu, sm100 bx, sm100 by_, sm100 d0, sm100 d1, fun H10 s10 => ⟨_, rfl, ?_⟩⟩
        by_cases hc : x * q.2 < q.1 * y
        · rw [decide_eq_true hc]
          refine iteT ⟨v, rfl, v, q.1, q.2, rfl, nu.same s10, fun p' H11 s11 r11 => ?_⟩
          refine ⟨p', q.1, q.2, _, rfl, (s9.trans s10).trans s11, r11, d0, d1, ?_⟩
          rw [← ct]
          show _ = MaxFrom (if x * q.2 < q.1 * y then q else (x, y)) _
          rw [if_pos hc]
        · rw [decide_eq_false hc]
          refine iteF ⟨p, x, y, _, rfl, s9.trans s10, (show Rt C H9 p x y from ⟨dx, hp⟩).same s10, bx, by_, ?_⟩
          rw [← ct]
          show _ = MaxFrom (if x * q.2 < q.1 * y then q else (x, y)) _
          rw [if_neg hc]
      · rintro σ H9 ⟨p, x, y, v2, rfl, s9, r9, bx, by_, ct⟩
        rw [List.drop_of_length_le (by rw [hn.1]; exact Nat.le_refl _)] at ct
        have e : (x, y) = MaxFrom q0 (q0 :: qs) := ct
        refine ⟨_, rfl, go p H9 s9 ?_⟩
        rw [← e]
        exact r9
    · refine ⟨_, pss_cons (ps_set (i := 1) scGreat.nd rfl (.inl rfl) (pe_cal A h3 (pa_cons (pe_ix ix_tup (pv 0) pe_int (fun _ _ => rfl)) pa_nil)))
        (pss_cons (ps_for PassesOwn.never rfl (pi_tup (pv 0)) (pg_name (i := 2) scGreat.nd rfl (.inl rfl)) (pss_one (ps_if (pt_val (pe_meth (pv 1) cl Mb Fb h3 bb .nil pass0 (pa_cons (pv 2) pa_nil))) (pss_one (ps_set (i := 1) scGreat.nd rfl (.inl rfl) (pe_cal A h3 (pa_cons (pv 2) pa_nil)))) pss_nil)))
        (pss_one (ps_ret (pv 1)))), ?_⟩
      refine ⟨_, rfl, a, _, 0, u0, rfl, rfl, hs, atI_nat hu0, u0, q0.1, q0.2, rfl, nu0, fun p0 H1 s1 r1 => ?_⟩
      refine ⟨_, rfl, a, rfl, ⟨_, SqT.same s1 hs⟩, ?_⟩
      refine for_tup (K := K) (a := a) (xs := xs) (fun k σ H9 => ∃ p x y v2, σ = [some (.ref a), some (.ref p), v2] ∧ Same H H9 ∧ Rt C H9 p x y ∧ x.natAbs < 2 ^ 100 ∧ y.natAbs < 2 ^ 100 ∧ MaxFrom (x, y) ((q0 :: qs).drop k) = MaxFrom q0 (q0 :: qs))
        ⟨p0, q0.1, q0.2, _, rfl, s1, r1, c0, c1, rfl⟩ (fun _ _ H9 _ h => by
          obtain ⟨_, _, _, _, _, s9, _⟩ := h
          exact SqT.same s9 hs) ?_ ?_
      · rintro k v σ H9 hv ⟨p, x, y, v2, rfl, s9, r9, bx, by_, ct⟩
        obtain ⟨q, hq, nu, d0, d1, d2⟩ := (hn.same s9).at hv
        rw [drop_at hq] at ct
        obtain ⟨dx, hp⟩ := r9
        refine ⟨_, rfl, p, dx, _, rfl, hp, rfl, _, rfl, p, x, y, v, q.1, q.2, rfl, ⟨dx, hp⟩, nu, sm100 bx, sm100 by_, sm100 d0, sm100 d1, fun H10 s10 => ⟨_, rfl, ?_⟩⟩
        by_cases hc : x * q.2 < q.1 * y
        · rw [decide_eq_true hc]
          refine iteT ⟨v, rfl, v, q.1, q.2, rfl, nu.same s10, fun p' H11 s11 r11 => ?_⟩
          refine ⟨p', q.1, q.2, _, rfl, (s9.trans s10).trans s11, r11, d0, d1, ?_⟩
          rw [← ct]
          show _ = MaxFrom (if x * q.2 < q.1 * y then q else (x, y)) _
          rw [if_pos hc]
        · rw [decide_eq_false hc]
          refine iteF ⟨p, x, y, _, rfl, s9.trans s10, (show Rt C H9 p x y from ⟨dx, hp⟩).same s10, bx, by_, ?_⟩
          rw [← ct]
          show _ = MaxFrom (if x * q.2 < q.1 * y then q else (x, y)) _
          rw [if_neg hc]
      · rintro σ H9 ⟨p, x, y, v2, rfl, s9, r9, bx, by_, ct⟩
        rw [List.drop_of_length_le (by rw [hn.1]; exact Nat.le_refl _)] at ct
        have e : (x, y) = MaxFrom q0 (q0 :: qs) := ct
        refine ⟨_, rfl, go p H9 s9 ?_⟩
        rw [← e]
        exact r9
theorem ok_least {f fb : Addr} {fd fdb : FuncData} (F : L2.Fun K "least" "least" (top 18) f fd) (U : Us P w K mg base C) (A : Cal P w K mg base "as_ratio" 3 ["value"] (spAs C)) (Mb : Meth K C "below" fb) (Fb : FnOk P w K mg base CX0 3 fb fdb ["self", "number"] (spBelow C)) (bb : Binds K fdb ["self", "number"] []) :
    FnOk P w K mg base CX0 5 f fd ["numbers"] (spBest K C MinFrom) := by
  refine F.ok scLeast (fun vs H Q E h => ?_) (fun cdv A' outer s H vs Q E hr h => ?_)
  · obtain ⟨a, xs, q0, qs, rfl, _⟩ := h
    rfl
  · obtain ⟨a, xs, q0, qs, rfl, hs, hn, go⟩ := h
    have h3 := hr.mono (show 3 ≤ 4 by decide)
    have cl := U.rc.own.cls
    obtain ⟨u0, hu0, nu0, c0, c1, c2⟩ := hn.head
    rcases hs with hs | hs
    · refine ⟨_, pss_cons (ps_set (i := 1) scLeast.nd rfl (.inl rfl) (pe_cal A h3 (pa_cons (pe_ix ix_list (pv 0) pe_int (fun _ _ => rfl)) pa_nil)))
        (pss_cons (ps_for PassesOwn.never rfl (pi_list (pv 0)) (pg_name (i := 2) scLeast.nd rfl (.inl rfl)) (pss_cons (ps_set (i := 3) scLeast.nd rfl (.inl rfl) (pe_cal A h3 (pa_cons (pv 2) pa_nil))) (pss_one (ps_if (pt_val (pe_meth (pv 3) cl Mb Fb h3 bb .nil pass0 (pa_cons (pv 1) pa_nil))) (pss_one (ps_set (i := 1) scLeast.nd rfl (.inl rfl) (pv 3))) pss_nil))))
        (pss_one (ps_ret (pv 1)))), ?_⟩
      refine ⟨_, rfl, a, _, 0, u0, rfl, rfl, hs, atI_nat hu0, u0, q0.1, q0.2, rfl, nu0, fun p0 H1 s1 r1 => ?_⟩
      refine ⟨_, rfl, a, rfl, ⟨_, s1.seq hs⟩, ?_⟩
      refine for_list (K := K) (a := a) (xs := xs) (fun k σ H9 => ∃ p x y v2 v3, σ = [some (.ref a), some (.ref p), v2, v3] ∧ Same H H9 ∧ Rt C H9 p x y ∧ x.natAbs < 2 ^ 100 ∧ y.natAbs < 2 ^ 100 ∧ MinFrom (x, y) ((q0 :: qs).drop k) = MinFrom q0 (q0 :: qs))
        ⟨p0, q0.1, q0.2, _, _, rfl, s1, r1, c0, c1, rfl⟩ (fun _ _ H9 _ h => by
          obtain ⟨_, _, _, _, _, _, s9, _⟩ := h
          exact s9.seq hs) ?_ ?_
      · rintro k v σ H9 hv ⟨p, x, y, v2, v3, rfl, s9, r9, bx, by_, ct⟩
        obtain ⟨q, hq, nu, d0, d1, d2⟩ := (hn.same s9).at hv
        rw [drop_at hq] at ct
        refine ⟨v, rfl, v, q.1, q.2, rfl, nu, fun p' H10 s10 r10 => ?_⟩
        obtain ⟨dx, hp⟩ := r10
        have r9' := r9.same s10
        refine ⟨_, rfl, p', dx, _, rfl, hp, rfl, _, rfl, p', q.1, q.2, .ref p, x, y, rfl, ⟨dx, hp⟩, .inr ⟨p, rfl, r9'⟩, sm100 d0, sm100 d1, sm100 bx, sm100 by_, fun H11 s11 => ⟨_, rfl, ?_⟩⟩
        by_cases hc : q.1 * y < x * q.2
        · rw [decide_eq_true hc]
          refine iteT ⟨_, rfl, p', q.1, q.2, _, _, rfl, (s9.trans s10).trans s11, (show Rt C H10 p' q.1 q.2 from ⟨dx, hp⟩).same s11, d0, d1, ?_⟩
          rw [← ct]
          show _ = MinFrom (if q.1 * y < x * q.2 then q else (x, y)) _
          rw [if_pos hc]
        · rw [decide_eq_false hc]
          refine iteF ⟨p, x, y, _, _, rfl, (s9.trans s10).trans s11, r9'.same s11, bx, by_, ?_⟩
          rw [← ct]
          show _ = MinFrom (if q.1 * y < x * q.2 then q else (x, y)) _
          rw [if_neg hc]
      · rintro σ H9 ⟨p, x, y, v2, v3, rfl, s9, r9, bx, by_, ct⟩
        rw [List.drop_of_length_le (by rw [hn.1]; exact Nat.le_refl _)] at ct
        have e : (x, y) = MinFrom q0 (q0 :: qs) := ct
        refine ⟨_, rfl, go p H9 s9 ?_⟩
        rw [← e]
        exact r9
    · refine ⟨_, pss_cons (ps_set (i := 1) scLeast.nd rfl (.inl rfl) (pe_cal A h3 (pa_cons (pe_ix ix_tup (pv 0) pe_int (fun _ _ => rfl)) pa_nil)))
        (pss_cons (ps_for PassesOwn.never rfl (pi_tup (pv 0)) (pg_name (i := 2) scLeast.nd rfl (.inl rfl)) (pss_cons (ps_set (i := 3) scLeast.nd rfl (.inl rfl) (pe_cal A h3 (pa_cons (pv 2) pa_nil))) (pss_one (ps_if (pt_val (pe_meth (pv 3) cl Mb Fb h3 bb .nil pass0 (pa_cons (pv 1) pa_nil))) (pss_one (ps_set (i := 1) scLeast.nd rfl (.inl rfl) (pv 3))) pss_nil))))
        (pss_one (ps_ret (pv 1)))), ?_⟩
      refine ⟨_, rfl, a, _, 0, u0, rfl, rfl, hs, atI_nat hu0, u0, q0.1, q0.2, rfl, nu0, fun p0 H1 s1 r1 => ?_⟩
      refine ⟨_, rfl, a, rfl, ⟨_, SqT.same s1 hs⟩, ?_⟩
      refine for_tup (K := K) (a := a) (xs := xs) (fun k σ H9 => ∃ p x y v2 v3, σ = [some (.ref a), some (.ref p), v2, v3] ∧ Same H H9 ∧ Rt C H9 p x y ∧ x.natAbs < 2 ^ 100 ∧ y.natAbs < 2 ^ 100 ∧ MinFrom (x, y) ((q0 :: qs).drop k) = MinFrom q0 (q0 :: qs))
        ⟨p0, q0.1, q0.2, _, _, rfl, s1, r1, c0, c1, rfl⟩ (fun _ _ H9 _ h => by
          obtain ⟨_, _, _, _, _, _, s9, _⟩ := h
          exact SqT.same s9 hs) ?_ ?_
      · rintro k v σ H9 hv ⟨p, x, y, v2, v3, rfl, s9, r9, bx, by_, ct⟩
        obtain ⟨q, hq, nu, d0, d1, d2⟩ := (hn.same s9).at hv
        rw [drop_at hq] at ct
        refine ⟨v, rfl, v, q.1, q.2, rfl, nu, fun p' H10 s10 r10 => ?_⟩
        obtain ⟨dx, hp⟩ := r10
        have r9' := r9.same s10
        refine ⟨_, rfl, p', dx, _, rfl, hp, rfl, _, rfl, p', q.1, q.2, .ref p, x, y, rfl, ⟨dx, hp⟩, .inr ⟨p, rfl, r9'⟩, sm100 d0, sm100 d1, sm100 bx, sm100 by_, fun H11 s11 => ⟨_, rfl, ?_⟩⟩
        by_cases hc : q.1 * y < x * q.2
        · rw [decide_eq_true hc]
          refine iteT ⟨_, rfl, p', q.1, q.2, _, _, rfl, (s9.trans s10).trans s11, (show Rt C H10 p' q.1 q.2 from ⟨dx, hp⟩).same s11, d0, d1, ?_⟩
          rw [← ct]
          show _ = MinFrom (if q.1 * y < x * q.2 then q else (x, y)) _
          rw [if_pos hc]
        · rw [decide_eq_false hc]
          refine iteF ⟨p, x, y, _, _, rfl, (s9.trans s10).trans s11, r9'.same s11, bx, by_, ?_⟩
          rw [← ct]
          show _ = MinFrom (if q.1 * y < x * q.2 then q else (x, y)) _
          rw [if_neg hc]
      · rintro σ H9 ⟨p, x, y, v2, v3, rfl, s9, r9, bx, by_, ct⟩
        rw [List.drop_of_length_le (by rw [hn.1]; exact Nat.le_refl _)] at ct
        have e : (x, y) = MinFrom q0 (q0 :: qs) := ct
        refine ⟨_, rfl, go p H9 s9 ?_⟩
        rw [← e]
        exact r9
end
end K03

set_option Elab.async false
set_option linter.all false
set_option maxRecDepth 100000
set_option maxHeartbeats 4000000
set_option exponentiation.threshold 3000
/-! Texts of quotients, as lists of signs. -/
namespace T3
open PySem TL NumText
def slash : Str := "/"
def minus : Str := "-"
theorem tl_slash : tl slash = [47] := by decide
theorem tl_minus : tl minus = [45] := by decide
/-- n / d, written -/
def textOf (n d : Int) : Str := if d = 1 then Str.ofString (toString n) else Str.ofString (toString n) ++ slash ++ Str.ofString (toString d)
/-- the signs of an int -/
def sgnL (n : Int) : List Nat := if n < 0 then 45 :: numL n.natAbs else numL n.natAbs
theorem tl_neg (m : Nat) : tl (Str.ofString (toString (Int.negSucc m))) = 45 :: numL (m + 1) := by
  have e : toString (Int.negSucc m) = "-" ++ toString ((m + 1 : Nat) : Int) := rfl
  rw [e, tl_ofString, String.toList_append, List.map_append, ← tl_num, tl_ofString]
  rfl
theorem tl_int (n : Int) : tl (Str.ofString (toString n)) = sgnL n := by
  cases n with
  | ofNat m =>
    have : ¬ (Int.ofNat m < 0) := by show ¬ ((m : Int) < 0); omega
    unfold sgnL
    rw [if_neg this]
    exact tl_num m
  | negSucc m =>
    have : Int.negSucc m < 0 := Int.negSucc_lt_zero m
    unfold sgnL
    rw [if_pos this]
    exact tl_neg m
theorem sgnL_pos {n : Int} (h : 0 ≤ n) : sgnL n = numL n.natAbs := if_neg (by omega)
def txtL (n d : Int) : List Nat := if d = 1 then sgnL n else sgnL n ++ 47 :: numL d.natAbs
theorem tl_text {n d : Int} (hd : 0 < d) : tl (textOf n d) = txtL n d := by
  unfold textOf txtL
  split
  · exact tl_int n
  · rw [tl_append, tl_append, tl_int, tl_int, tl_slash, sgnL_pos (n := d) (by omega)]
    simp
theorem sgnL_free (n : Int) : 47 ∉ sgnL n := by
  unfold sgnL
  have h : 47 ∉ numL n.natAbs := numL_free (by omega)
  split
  · simp [h]
  · exact h
theorem numL_45 (m : Nat) : 45 ∉ numL m := numL_free (by omega)
theorem sgnL_inj {n m : Int} (h : sgnL n = sgnL m) : n = m := by
  unfold sgnL at h
  split at h <;> split at h
  · injection h with _ h
    have := numL_inj h
    omega
  · exact absurd (by rw [← h]; simp) (numL_45 m.natAbs)
  · exact absurd (by rw [h]; simp) (numL_45 n.natAbs)
  · have := numL_inj h
    omega
theorem par_txt (n d : Int) : par [47] [] (txtL n d) = if d = 1 then none else some (sgnL n, numL d.natAbs) := by
  unfold txtL
  split
  · exact par_none1 (sgnL_free n)
  · have := par_part1 (S := []) (acc := []) (rest := numL d.natAbs) (sgnL_free n)
    simpa using this
/-- z is the text of n / d, in lowest terms -/
def IsT (z : Str) (n d : Int) : Prop := 0 < d ∧ Int.gcd n d = 1 ∧ z = textOf n d
theorem IsT.tl {z : Str} {n d : Int} (h : IsT z n d) : tl z = txtL n d := by
  rw [h.2.2]
  exact tl_text h.1
theorem IsT.uniq {z : Str} {n d n' d' : Int} (h : IsT z n d) (h' : IsT z n' d') : n = n' ∧ d = d' := by
  have e := h.tl.symm.trans h'.tl
  have p := par_txt n d
  rw [e, par_txt] at p
  have d0 := h.1
  have d0' := h'.1
  by_cases c : d = 1 <;> by_cases c' : d' = 1
  · subst c; subst c'
    exact ⟨sgnL_inj e, rfl⟩
  · rw [if_pos c, if_neg c'] at p
    cases p
  · rw [if_neg c, if_pos c'] at p
    cases p
  · rw [if_neg c, if_neg c'] at p
    injection p with p
    injection p with p1 p2
    have := numL_inj p2
    exact ⟨(sgnL_inj p1).symm, by omega⟩
/-! ### figures -/
def dig (z : Str) : Bool := Txt.isascii z && Txt.isdigit z
theorem dig_chr : ∀ n : _root_.Fin 128, Unicode.isDigit n.val = (decide (48 ≤ n.val) && decide (n.val ≤ 57)) := by decide +kernel
theorem dig_iff (z : Str) : dig z = true ↔ AllDigits (tl z) ∧ tl z ≠ [] := by
  unfold dig Txt.isascii Txt.isdigit
  rw [← Array.all_toList, ← Array.all_toList, Bool.and_eq_true, Bool.and_eq_true, List.all_eq_true, List.all_eq_true]
  have hl : (0 < z.length) ↔ tl z ≠ [] := by
    rw [len_tl, List.length_pos_iff]
  constructor
  · rintro ⟨h1, h2, h3⟩
    refine ⟨fun c hc => ?_, hl.mp (of_decide_eq_true h2)⟩
    have a := of_decide_eq_true (h1 c hc)
    have b := h3 c hc
    have k := dig_chr ⟨c, a⟩
    rw [show (⟨c, a⟩ : _root_.Fin 128).val = c from rfl] at k
    rw [k, Bool.and_eq_true] at b
    exact ⟨of_decide_eq_true b.1, of_decide_eq_true b.2⟩
  · rintro ⟨h1, h2⟩
    refine ⟨fun c hc => decide_eq_true ?_, decide_eq_true (hl.mpr h2), fun c hc => ?_⟩
    · have := h1 c hc
      omega
    · have := h1 c hc
      have k := dig_chr ⟨c, by omega⟩
      rw [show (⟨c, by omega⟩ : _root_.Fin 128).val = c from rfl] at k
      rw [k, decide_eq_true this.1, decide_eq_true this.2]
      rfl
/-- plain figures: no nought ahead -/
def Plain (l : List Nat) : Prop := AllDigits l ∧ l ≠ [] ∧ (l = [48] ∨ l.head? ≠ some 48)
instance (l : List Nat) : Decidable (AllDigits l) := inferInstanceAs (Decidable (∀ c ∈ l, 48 ≤ c ∧ c ≤ 57))
instance (l : List Nat) : Decidable (Plain l) := inferInstanceAs (Decidable (_ ∧ _ ∧ (_ ∨ _)))
theorem plain_num (n : Nat) : Plain (numL n) := by
  induction n using Nat.strongRecOn with
  | _ n ih =>
    refine ⟨numL_digits n, numL_ne n, ?_⟩
    by_cases h : n < 10
    · rw [numL_lt h]
      by_cases e : n = 0
      · subst e
        exact .inl rfl
      · refine .inr ?_
        simp
        omega
    · rw [numL_step (by omega)]
      right
      obtain ⟨a, b, c⟩ := ih (n / 10) (by omega)
      cases e : numL (n / 10) with
      | nil => exact absurd e b
      | cons x r =>
        rw [e] at c
        simp
        rcases c with c | c
        · exfalso
          have v := numL_val (n / 10)
          rw [e, c] at v
          have : digitsVal [48] = 0 := by decide
          omega
        · simpa using c
theorem plain_eq {l : List Nat} (h : Plain l) : numL (digitsVal l) = l := by
  obtain ⟨a, b, c⟩ := h
  have back : ∀ l : List Nat, AllDigits l → (l.map Char.ofNat).map Char.toNat = l := by
    intro l hl
    induction l with
    | nil => rfl
    | cons x r ih =>
      rw [List.map_cons, List.map_cons, ih hl.tail]
      have hx := hl.head
      have k : ∀ n : _root_.Fin 128, (Char.ofNat n.val).toNat = n.val := by decide +kernel
      have := k ⟨x, by omega⟩
      rw [show (⟨x, by omega⟩ : _root_.Fin 128).val = x from rfl] at this
      rw [this]
  unfold numL
  cases l with
  | nil => exact absurd rfl b
  | cons x r =>
    rcases c with c | c
    · rw [c]
      decide
    · have hx := a.head
      have x0 : x ≠ 48 := by simpa using c
      rw [toDigits_digitsVal r.length (x :: r) rfl a (.inr ⟨x, r, rfl, by omega⟩)]
      exact back _ a
theorem fold_lt : ∀ (l : List Nat) (a : Nat), AllDigits l → l.foldl (fun acc c => acc * 10 + (c - 48)) a < (a + 1) * 10 ^ l.length
  | [], a, _ => by simp
  | c :: r, a, h => by
    have h1 := fold_lt r (a * 10 + (c - 48)) h.tail
    have hc := h.head
    rw [List.foldl_cons, List.length_cons, Nat.pow_succ]
    have : (a * 10 + (c - 48) + 1) * 10 ^ r.length ≤ ((a + 1) * 10) * 10 ^ r.length := Nat.mul_le_mul_right _ (by omega)
    rw [Nat.mul_comm (10 ^ r.length) 10, ← Nat.mul_assoc]
    omega
theorem digitsVal_lt (l : List Nat) (h : AllDigits l) : digitsVal l < 10 ^ l.length := by
  have := fold_lt l 0 h
  simpa [digitsVal] using this
/-! ### what read_ratio takes apart -/
def rTop (z : Str) : Str := (Txt.partition z slash).1
def rSl (z : Str) : Str := (Txt.partition z slash).2.1
def rBot (z : Str) : Str := if (rSl z).length = 0 then "1" else (Txt.partition z slash).2.2
theorem tl_prefix (x : Str) : tl (Txt.removeprefix x minus) = if (tl x).head? = some 45 then (tl x).drop 1 else tl x := by
  rw [StrLaws.removeprefix_eq]
  have e : Builtin.Str.subAt x minus 0 = pre (tl minus) ((tl x).drop 0) := by
    rw [StrLaws.subAt_eq]
    rfl
  have l1 : minus.length = 1 := by decide
  rw [e, tl_minus, List.drop_zero, l1, len_tl x]
  show tl (if _ then (⟨(((tl x).drop 1).take ((tl x).length - 1)).toArray⟩ : Str) else x) = _
  cases h : tl x with
  | nil => rw [if_neg (by simp), if_neg (by simp), h]
  | cons c r =>
    by_cases hc : c = 45
    · subst hc
      rw [if_pos (by simp [pre]), if_pos (show (45 :: r : List Nat).head? = some 45 from rfl)]
      simp
    · have : pre [45] (c :: r) = false := pre_of_head _ _ hc
      rw [this, if_neg (by simp), if_neg (by simpa using hc), h]
structure Num (z : Str) : Prop where
  len : z.length ≤ 600
  len1 : (rTop z).length ≤ 600
  len2 : (rBot z).length ≤ 600
  lenS : (rSl z).length ≤ sizeLine
  top : dig (Txt.removeprefix (rTop z) minus) = true → ∃ m, PySem.intText? (rTop z) = some m ∧ m.natAbs < 2 ^ 1000
  bot : dig (rBot z) = true → ∃ e, PySem.intText? (rBot z) = some e ∧ e.natAbs < 2 ^ 1000
theorem small_of {l : List Nat} (h : AllDigits l) (hl : l.length ≤ 300) : digitsVal l < 2 ^ 1000 := by
  have h1 := digitsVal_lt l h
  have h2 : 10 ^ l.length ≤ 10 ^ 300 := Nat.pow_le_pow_right (by decide) hl
  have h3 : (10 : Nat) ^ 300 < 2 ^ 1000 := by decide +kernel
  omega
theorem num_top {x : Str} (hl : x.length ≤ 300) (h : dig (Txt.removeprefix x minus) = true) : ∃ m, PySem.intText? x = some m ∧ m.natAbs < 2 ^ 1000 := by
  obtain ⟨a, b⟩ := (dig_iff _).mp h
  rw [tl_prefix] at a b
  have hl' := hl
  rw [len_tl] at hl'
  by_cases c : (tl x).head? = some 45
  · rw [if_pos c] at a b
    cases e : tl x with
    | nil => rw [e] at c; cases c
    | cons y r =>
      rw [e] at c a b hl'
      have : y = 45 := by simpa using c
      subst this
      refine ⟨_, intText_neg e a b (by omega), ?_⟩
      have := small_of a (by simp at hl'; simp; omega)
      simp at this
      simp
      exact this
  · rw [if_neg c] at a b
    refine ⟨_, intText_digits a b (by omega), ?_⟩
    have := small_of a hl'
    simpa using this
theorem num_bot {x : Str} (hl : x.length ≤ 300) (h : dig x = true) : ∃ m, PySem.intText? x = some m ∧ m.natAbs < 2 ^ 1000 := by
  obtain ⟨a, b⟩ := (dig_iff _).mp h
  refine ⟨_, intText_digits a b (by omega), ?_⟩
  have := small_of a (by rwa [len_tl] at hl)
  simpa using this
theorem part_len (z : Str) : (Txt.partition z slash).1.length ≤ z.length ∧ (Txt.partition z slash).2.1.length ≤ 1 ∧ (Txt.partition z slash).2.2.length ≤ z.length := by
  have l1 : slash.length = 1 := by decide
  rcases PyProof.Rows.partition_whole z slash with ⟨e, _⟩ | ⟨i, e, hi, _⟩
  · rw [e]
    exact ⟨Nat.le_refl _, by show 0 ≤ 1; omega, by show 0 ≤ _; omega⟩
  · rw [e]
    refine ⟨?_, by rw [l1]; exact Nat.le_refl _, ?_⟩
    · rw [len_tl, tl_strSub, len_tl z, List.length_take, List.length_drop]
      omega
    · rw [len_tl, tl_strSub_end, len_tl z, List.length_drop]
      omega
theorem num_of {z : Str} (h : z.length ≤ 300) : Num z := by
  obtain ⟨h1, h2, h3⟩ := part_len z
  have t : (rTop z).length ≤ 300 := Nat.le_trans h1 h
  have b : (rBot z).length ≤ 300 := by
    unfold rBot
    split
    · show 1 ≤ 300
      decide
    · exact Nat.le_trans h3 h
  exact ⟨by omega, by omega, by omega, Nat.le_trans h2 (by decide), num_top t, num_bot b⟩
theorem tl_top {z : Str} {n d : Int} (h : IsT z n d) : tl (rTop z) = sgnL n := by
  unfold rTop
  rw [partition_par z slash (by rw [tl_slash]; simp), tl_slash, h.tl, par_txt]
  by_cases c : d = 1
  · rw [if_pos c]
    show tl z = _
    rw [h.tl]
    unfold txtL
    rw [if_pos c]
  · rw [if_neg c]
theorem tl_bot {z : Str} {n d : Int} (h : IsT z n d) : tl (rBot z) = numL d.natAbs := by
  unfold rBot rSl
  rw [partition_par z slash (by rw [tl_slash]; simp), tl_slash, h.tl, par_txt]
  by_cases c : d = 1
  · rw [if_pos c]
    subst c
    show tl (if Str.empty.length = 0 then ("1" : Str) else _) = _
    rw [if_pos (show Str.empty.length = 0 from rfl)]
    decide
  · rw [if_neg c]
    show tl (if slash.length = 0 then _ else _) = _
    rw [if_neg (by decide)]
theorem int_top {z : Str} {n d : Int} (h : IsT z n d) (hl : z.length ≤ 300) : dig (Txt.removeprefix (rTop z) minus) = true ∧ PySem.intText? (rTop z) = some n := by
  have e := tl_top h
  have l := Nat.le_trans (part_len z).1 hl
  rw [dig_iff, tl_prefix, e]
  unfold sgnL at e ⊢
  have nd := numL_digits n.natAbs
  have nn := numL_ne n.natAbs
  by_cases c : n < 0
  · rw [if_pos c] at e ⊢
    rw [if_pos (show (45 :: numL n.natAbs : List Nat).head? = some 45 from rfl)]
    refine ⟨⟨nd, nn⟩, ?_⟩
    rw [intText_neg e nd nn (by show (rTop z).length ≤ 4300; exact Nat.le_trans l (by decide)), numL_val]
    congr 1
    omega
  · rw [if_neg c] at e ⊢
    rw [if_neg (fun q => by
      cases k : numL n.natAbs with
      | nil => exact nn k
      | cons x r =>
        rw [k] at q nd
        have := nd.head
        simp at q
        omega)]
    refine ⟨⟨nd, nn⟩, ?_⟩
    rw [intText_digits (x := rTop z) (by show AllDigits (tl (rTop z)); rw [e]; exact nd) (by show tl (rTop z) ≠ []; rw [e]; exact nn) (Nat.le_trans l (by decide))]
    show some ((digitsVal (tl (rTop z)) : Nat) : Int) = _
    rw [e, numL_val]
    congr 1
    omega
theorem int_bot {z : Str} {n d : Int} (h : IsT z n d) (hl : z.length ≤ 300) : dig (rBot z) = true ∧ PySem.intText? (rBot z) = some d := by
  have e := tl_bot h
  have l := (num_of hl).len2
  have nd := numL_digits d.natAbs
  have nn := numL_ne d.natAbs
  rw [dig_iff, e]
  refine ⟨⟨nd, nn⟩, ?_⟩
  rw [intText_digits (x := rBot z) (by show AllDigits (tl (rBot z)); rw [e]; exact nd) (by show tl (rBot z) ≠ []; rw [e]; exact nn) (Nat.le_trans l (by decide))]
  show some ((digitsVal (tl (rBot z)) : Nat) : Int) = _
  have := h.1
  rw [e, numL_val]
  congr 1
  omega
/-! ### what the law takes apart -/
theorem joinL_spl : ∀ (l acc : List Nat), joinL [47] (spl [47] 0 acc l) = acc ++ l ∧ spl [47] 0 acc l ≠ []
  | [], acc => by rw [spl_nil]; simp [joinL]
  | c :: r, acc => by
    by_cases hc : c = 47
    · subst hc
      have hp : pre [47] (47 :: r) = true := by simp [pre]
      obtain ⟨h1, h2⟩ := joinL_spl r []
      rw [spl_hit hp]
      refine ⟨?_, by simp⟩
      show joinL [47] (acc :: spl [47] 0 [] r) = _
      cases e : spl [47] 0 [] r with
      | nil => exact absurd e h2
      | cons x y =>
        rw [e] at h1
        show acc ++ ([47] ++ joinL [47] (x :: y)) = _
        rw [h1]
        simp
    · obtain ⟨h1, h2⟩ := joinL_spl r (acc ++ [c])
      rw [spl_miss (pre_of_head _ _ hc)]
      exact ⟨by rw [h1]; simp, h2⟩
/-- the text behind a minus -/
def rest (z : Str) : List Nat := if (tl z).take 1 = [45] then (tl z).drop 1 else tl z
theorem isT_words {z : Str} {n d : Int} (h : IsT z n d) : ((tl z).take 1 = [45] ↔ n < 0) ∧ spl [47] 0 [] (rest z) = if d = 1 then [numL n.natAbs] else [numL n.natAbs, numL d.natAbs] := by
  have e := h.tl
  have nn := numL_ne n.natAbs
  have nd := numL_digits n.natAbs
  have f1 : 47 ∉ numL n.natAbs := numL_free (by omega)
  have f2 : 47 ∉ numL d.natAbs := numL_free (by omega)
  have key : spl [47] 0 [] (if d = 1 then numL n.natAbs else numL n.natAbs ++ 47 :: numL d.natAbs) = if d = 1 then [numL n.natAbs] else [numL n.natAbs, numL d.natAbs] := by
    split
    · have := spl_last1 (S := []) (acc := []) f1
      simpa using this
    · have k1 := spl_part1 (S := []) (acc := []) (rest := numL d.natAbs) f1
      have k2 := spl_last1 (S := []) (acc := []) f2
      simp only [List.nil_append, List.cons_append] at k1 k2
      rw [k1, k2]
  by_cases c : n < 0
  · have e2 : tl z = 45 :: (if d = 1 then numL n.natAbs else numL n.natAbs ++ 47 :: numL d.natAbs) := by
      rw [e]
      unfold txtL sgnL
      rw [if_pos c]
      split <;> simp
    refine ⟨⟨fun _ => c, fun _ => by rw [e2]; rfl⟩, ?_⟩
    unfold rest
    rw [e2, if_pos (by rfl)]
    exact key
  · have e2 : tl z = (if d = 1 then numL n.natAbs else numL n.natAbs ++ 47 :: numL d.natAbs) := by
      rw [e]
      unfold txtL sgnL
      rw [if_neg c]
    have no : (tl z).take 1 ≠ [45] := by
      rw [e2]
      cases k : numL n.natAbs with
      | nil => exact absurd k nn
      | cons x r =>
        rw [k] at nd
        have := nd.head
        split <;> simp <;> omega
    refine ⟨⟨fun q => absurd q no, fun q => absurd q c⟩, ?_⟩
    unfold rest
    rw [if_neg no, e2]
    exact key
theorem isT_one {z : Str} {l : List Nat} (hw : spl [47] 0 [] (rest z) = [l]) (hp : Plain l) (hz : (tl z).take 1 = [45] → digitsVal l ≠ 0) :
    IsT z ((digitsVal l : Int) * (if (tl z).take 1 = [45] then -1 else 1)) 1 := by
  have j := (joinL_spl (rest z) []).1
  rw [hw] at j
  have j' : l = rest z := by simpa [joinL] using j
  refine ⟨by decide, by simp, ext_tl ?_⟩
  rw [tl_text (by decide)]
  unfold txtL sgnL
  rw [if_pos rfl]
  have pe := plain_eq hp
  unfold rest at j'
  by_cases c : (tl z).take 1 = [45]
  · have := hz c
    rw [if_pos c] at j'
    rw [if_pos c, if_pos (by omega)]
    have : ((digitsVal l : Int) * -1).natAbs = digitsVal l := by omega
    rw [this, pe, j']
    cases k : tl z with
    | nil => rw [k] at c; cases c
    | cons x r =>
      rw [k] at c
      simp at c
      rw [c]
      rfl
  · rw [if_neg c] at j'
    rw [if_neg c, if_neg (by omega)]
    have : ((digitsVal l : Int) * 1).natAbs = digitsVal l := by omega
    rw [this, pe, j']
theorem isT_two {z : Str} {l m : List Nat} (hw : spl [47] 0 [] (rest z) = [l, m]) (hp : Plain l) (hq : Plain m) (hz : (tl z).take 1 = [45] → digitsVal l ≠ 0) (h2 : 2 ≤ digitsVal m) (hg : Nat.gcd (digitsVal l) (digitsVal m) = 1) :
    IsT z ((digitsVal l : Int) * (if (tl z).take 1 = [45] then -1 else 1)) (digitsVal m) := by
  have j := (joinL_spl (rest z) []).1
  rw [hw] at j
  have j' : l ++ 47 :: m = rest z := by simpa [joinL] using j
  refine ⟨by omega, ?_, ext_tl ?_⟩
  · show Nat.gcd (Int.natAbs _) (Int.natAbs _) = 1
    have e1 : ((digitsVal l : Int) * (if (tl z).take 1 = [45] then -1 else 1)).natAbs = digitsVal l := by
      split <;> omega
    rw [e1, Int.natAbs_natCast]
    exact hg
  rw [tl_text (by omega)]
  unfold txtL sgnL
  rw [if_neg (by omega), Int.natAbs_natCast]
  have pe := plain_eq hp
  have qe := plain_eq hq
  unfold rest at j'
  by_cases c : (tl z).take 1 = [45]
  · have := hz c
    rw [if_pos c] at j'
    rw [if_pos c, if_pos (by omega)]
    have : ((digitsVal l : Int) * -1).natAbs = digitsVal l := by omega
    rw [this, pe, qe]
    cases k : tl z with
    | nil => rw [k] at c; cases c
    | cons x r =>
      rw [k] at c j'
      simp at c
      rw [c]
      show 45 :: r = _
      simp at j'
      rw [← j']
      rfl
  · rw [if_neg c] at j'
    rw [if_neg c, if_neg (by omega)]
    have : ((digitsVal l : Int) * 1).natAbs = digitsVal l := by omega
    rw [this, pe, qe, j']
end T3

set_option Elab.async false
set_option linter.all false
set_option maxRecDepth 100000
set_option maxHeartbeats 4000000
set_option exponentiation.threshold 3000
/-! Texts of quotients: what is no such text. -/
namespace T3
open PySem TL NumText
theorem spl_parts : ∀ (l acc : List Nat), (spl [47] 0 acc l).length ≤ l.length + 1 ∧ ∀ w ∈ spl [47] 0 acc l, w.length ≤ acc.length + l.length ∧ ∀ c ∈ w, c ∈ acc ∨ c ∈ l
  | [], acc => by
    rw [spl_nil]
    simp
  | c :: r, acc => by
    by_cases hc : c = 47
    · subst hc
      have hp : pre [47] (47 :: r) = true := by simp [pre]
      obtain ⟨h1, h2⟩ := spl_parts r []
      rw [spl_hit hp]
      refine ⟨by simp; simpa using h1, fun w hw => ?_⟩
      rcases List.mem_cons.mp hw with e | hw
      · subst e
        exact ⟨by simp, fun c hc => .inl hc⟩
      · obtain ⟨a, b⟩ := h2 w hw
        refine ⟨by simp at a ⊢; omega, fun c hc => ?_⟩
        rcases b c hc with q | q
        · cases q
        · exact .inr (List.mem_cons_of_mem _ q)
    · obtain ⟨h1, h2⟩ := spl_parts r (acc ++ [c])
      rw [spl_miss (pre_of_head _ _ hc)]
      refine ⟨by simp at h1 ⊢; omega, fun w hw => ?_⟩
      obtain ⟨a, b⟩ := h2 w hw
      refine ⟨by simp at a ⊢; omega, fun d hd => ?_⟩
      rcases b d hd with q | q
      · rcases List.mem_append.mp q with q | q
        · exact .inl q
        · exact .inr (by rw [List.mem_singleton.mp q]; exact List.mem_cons_self ..)
      · exact .inr (List.mem_cons_of_mem _ q)
theorem rest_len (z : Str) : (rest z).length ≤ (tl z).length ∧ ∀ c ∈ rest z, c ∈ tl z := by
  unfold rest
  split
  · exact ⟨by rw [List.length_drop]; omega, fun c hc => List.mem_of_mem_drop hc⟩
  · exact ⟨Nat.le_refl _, fun c hc => hc⟩
section
variable {z : Str} {n d : Int}
theorem noT_many (h : 2 < (spl [47] 0 [] (rest z)).length) : ¬ IsT z n d := fun t => by
  rw [(isT_words t).2] at h
  split at h <;> simp at h
theorem noT_plain (h : ¬ ∀ l ∈ spl [47] 0 [] (rest z), Plain l) : ¬ IsT z n d := fun t => h (by
  rw [(isT_words t).2]
  intro l hl
  split at hl
  · rw [List.mem_singleton.mp hl]
    exact plain_num _
  · rcases List.mem_cons.mp hl with e | hl
    · rw [e]
      exact plain_num _
    · rw [List.mem_singleton.mp hl]
      exact plain_num _)
theorem noT_minus {l : List Nat} {r : List (List Nat)} (hw : spl [47] 0 [] (rest z) = l :: r) (hm : (tl z).take 1 = [45]) (h0 : digitsVal l = 0) : ¬ IsT z n d := fun t => by
  obtain ⟨a, b⟩ := isT_words t
  have hn := a.mp hm
  rw [hw] at b
  have e : l = numL n.natAbs := by
    split at b
    · exact (List.cons.inj b).1
    · exact (List.cons.inj b).1
  rw [e, numL_val] at h0
  omega
theorem noT_two {l m : List Nat} (hw : spl [47] 0 [] (rest z) = [l, m]) (h : digitsVal m < 2 ∨ Nat.gcd (digitsVal l) (digitsVal m) ≠ 1) : ¬ IsT z n d := fun t => by
  obtain ⟨_, b⟩ := isT_words t
  rw [hw] at b
  have d0 := t.1
  split at b
  · have := (List.cons.inj b).2
    cases this
  · have e1 := (List.cons.inj b).1
    have e2 := (List.cons.inj (List.cons.inj b).2).1
    rw [e1, e2, numL_val, numL_val] at h
    rcases h with h | h
    · omega
    · exact h t.2.1
end
theorem int_plain {x : Str} (hl : x.length ≤ 400) (h : Plain (tl x)) : PySem.intText? x = some ((digitsVal (tl x) : Nat) : Int) := intText_digits h.1 h.2.1 (by omega)
theorem small_plain {l : List Nat} (hl : l.length ≤ 300) (h : Plain l) : digitsVal l < 2 ^ 1000 := small_of h.1 hl
end T3

set_option Elab.async false
set_option linter.all false
set_option maxRecDepth 100000
set_option maxHeartbeats 4000000
set_option exponentiation.threshold 3000
/-! The law over texts of Ratios: the very text of a Ratio; the law's own low, plus, less, written. -/
namespace K03
open PySem PySem.Spec PyProof.Rows L2 Vx Vr
open T3 (slash textOf)
theorem empty_app (x : Str) : Str.empty ++ x = x := by
  cases x with
  | mk c =>
    show Str.mk (#[] ++ c) = _
    simp
def spTextX (C : Addr) : Sp := fun vs H Q _ => ∃ a n d, vs = [.ref a] ∧ Rt C H a n d ∧ Sm n ∧ Sm d ∧ Q (.str (textOf n d)) H
theorem len3 {n d : Int} (sn : Sm n) (sd : Sm d) : (Str.ofString (toString n)).length + 1 + (Str.ofString (toString d)).length ≤ sizeLine ∧ (Str.ofString (toString n)).length + 1 ≤ sizeLine ∧ (Str.ofString (toString n)).length ≤ sizeLine := by
  have l1 := int_text_len_1921 (sm_log sn)
  have l2 := int_text_len_1921 (sm_log sd)
  have z : (1921 + 1 + 1921 : Nat) ≤ sizeLine := by decide
  omega
theorem slash_len : slash.length = 1 := by decide
section
variable {P : Program} {w : World} {K : PySem.W.Frag} {mg : Str → Option Value} {base : Heap} {C : Addr}
theorem ok_textX {f : Addr} {fd : FuncData} (F : L2.Fun K "text" "Ratio.text" (mth 14) f fd) (U : Us P w K mg base C) : FnOk P w K mg base CX0 1 f fd ["self"] (spTextX C) := by
  refine F.ok scText (fun vs H Q E h => ?_) (fun cdv A outer s H vs Q E hr h => ?_)
  · obtain ⟨a, n, d, rfl, _⟩ := h
    rfl
  · obtain ⟨a, n, d, rfl, ⟨dx, ha⟩, sn, sd, go⟩ := h
    refine ⟨_, pss_cons (ps_if (pt_cmpR op_eq (pe_fld (pv 0) rfl) pe_int (nomark _)) (pss_one (ps_ret (pe_callTy call_str_int (by rfl) U.bt.str (by decide +kernel) (pa_cons (pe_fld (pv 0) rfl) pa_nil)))) pss_nil)
      (pss_one (ps_ret (pe_joined (.cons (pe_fmt (pe_fld (pv 0) rfl)) (.cons pe_str (.cons (pe_fmt (pe_fld (pv 0) rfl)) .nil)))))), ?_⟩
    refine ⟨_, rfl, a, C, dx, _, _, rfl, ha, U.rc.own.cls, U.rc.noB, lkB n d, (by trivial), _, rfl, ?_⟩
    obtain ⟨l1, l2, l3⟩ := len3 sn sd
    have sl := slash_len
    refine ite2 (fun c => ?_) (fun c => ?_)
    · have c' : d = 1 := V.int.inj (of_decide_eq_true c)
      refine ⟨_, rfl, a, C, dx, _, _, rfl, ha, U.rc.own.cls, U.rc.noT, lkT n d, _, rfl, sm_log sn, ?_⟩
      unfold textOf at go
      rw [if_pos c'] at go
      exact go
    · have c' : d ≠ 1 := fun z => c (decide_eq_true (by rw [z]))
      unfold textOf at go
      rw [if_neg c'] at go
      refine ⟨_, rfl, a, C, dx, _, _, rfl, ha, U.rc.own.cls, U.rc.noT, lkT n d, .inr ⟨n, rfl, sm_log sn, _, rfl, ?_, ?_⟩⟩
      · rw [empty_app]
        exact l3
      refine ⟨_, rfl, ?_, _, rfl, a, C, dx, _, _, rfl, ha, U.rc.own.cls, U.rc.noB, lkB n d, .inr ⟨d, rfl, sm_log sd, _, rfl, ?_, ?_⟩⟩
      · rw [empty_app]
        show (Str.ofString (toString n) ++ slash).length ≤ _
        rw [PySem.Str.length_append, sl]
        exact l2
      · rw [empty_app]
        show (Str.ofString (toString n) ++ slash ++ Str.ofString (toString d)).length ≤ _
        rw [PySem.Str.length_append, PySem.Str.length_append, sl]
        exact l1
      · rw [empty_app]
        exact go
theorem scStr : FnScope ["self"] ["self"] (defScope (mth 11)) := ⟨rfl, rfl, rfl, by decide +kernel, rfl, by decide +kernel, by decide +kernel⟩
theorem ok_strX {f g : Addr} {fd gd : FuncData} (F : L2.Fun K "__str__" "Ratio.__str__" (mth 11) f fd) (U : Us P w K mg base C) (M : Meth K C "text" g) (G : FnOk P w K mg base CX0 1 g gd ["self"] (spTextX C)) (hb : Binds K gd ["self"] []) :
    FnOk P w K mg base CX0 3 f fd ["self"] (spTextX C) := by
  refine F.ok scStr (fun vs H Q E h => ?_) (fun cdv A outer s H vs Q E hr h => ?_)
  · obtain ⟨a, n, d, rfl, _⟩ := h
    rfl
  · obtain ⟨a, n, d, rfl, ⟨dx, ha⟩, sn, sd, go⟩ := h
    refine ⟨_, pss_one (ps_ret (pe_callTy SkE.call_str_str (by rfl) U.bt.str (by decide +kernel) (pa_cons (pe_meth0 (pv 0) U.rc.own.cls M G (hr.mono (by decide)) hb .nil pass0) pa_nil))), ?_⟩
    exact ⟨_, rfl, a, dx, _, rfl, ha, rfl, a, n, d, rfl, ⟨dx, ha⟩, sn, sd, _, rfl, go⟩
/-- a pair of ints as the law hands them on -/
def Pr (H : Hp) (v : V) (n d : Int) : Prop := ∃ t, v = .ref t ∧ H t = some (.tup [.int n, .int d])
theorem Pr.same {H H' : Hp} {v : V} {n d : Int} (s : Same H H') (h : Pr H v n d) : Pr H' v n d := by
  obtain ⟨t, e, h⟩ := h
  exact ⟨t, e, s _ _ h⟩
/-- whether one pair is less than another one -/
def spLess : Sp := fun vs H Q _ => ∃ u v n d m e, vs = [u, v] ∧ Pr H u n d ∧ Pr H v m e ∧ Sm n ∧ Sm d ∧ Sm m ∧ Sm e ∧ Q (.bl (decide (n * e < m * d))) H
theorem scLess : FnScope ["_law_one", "_law_other"] ["_law_one", "_law_other"] (defScope (top 25)) := ⟨rfl, rfl, rfl, by decide +kernel, rfl, by decide +kernel, by decide +kernel⟩
theorem ok_less {f : Addr} {fd : FuncData} (F : L2.Fun K "_law_less" "_law_less" (top 25) f fd) : FnOk P w K mg base CX0 1 f fd ["_law_one", "_law_other"] spLess := by
  refine F.ok scLess (fun vs H Q E h => ?_) (fun cdv A outer s H vs Q E hr h => ?_)
  · obtain ⟨u, v, n, d, m, e, rfl, _⟩ := h
    rfl
  · obtain ⟨_, _, n, d, m, e, rfl, ⟨t, rfl, ht⟩, ⟨t', rfl, ht'⟩, sn, sd, sm, se, go⟩ := h
    refine ⟨_, pss_one (ps_ret (pe_cmpR op_lt (pe_op op_mulW (pe_ix ix_tup (pv 0) pe_int (fun _ _ => rfl)) (pe_ix ix_tup (pv 1) pe_int (fun _ _ => rfl))) (pe_op op_mulW (pe_ix ix_tup (pv 1) pe_int (fun _ _ => rfl)) (pe_ix ix_tup (pv 0) pe_int (fun _ _ => rfl))) (nomark _))), ?_⟩
    refine ⟨_, rfl, t, _, 0, .int n, rfl, rfl, SqT.of ht, rfl, _, rfl, t', _, 1, .int e, rfl, rfl, SqT.of ht', rfl, _, _, rfl, rfl, cmul sn se, ?_⟩
    refine ⟨_, rfl, t', _, 0, .int m, rfl, rfl, SqT.of ht', rfl, _, rfl, t, _, 1, .int d, rfl, rfl, SqT.of ht, rfl, _, _, rfl, rfl, cmul sm sd, _, _, rfl, rfl, go⟩
end
end K03

set_option Elab.async false
set_option linter.all false
set_option maxRecDepth 100000
set_option maxHeartbeats 4000000
set_option exponentiation.threshold 3000
/-! The law over Ratios: its drawing of numbers. -/
namespace K03
open PySem PySem.Spec PyProof.Rows L2 Vx Vr
abbrev sCell : Stmt := top 20
abbrev sBox : Stmt := top 21
abbrev sTake : Stmt := top 22
def spCell (K : PySem.W.Frag) : Sp := fun vs H Q _ => ∃ (a : Addr) (ns : List Int) (k : Nat), vs = [.ref a, .int k] ∧ SqL K H a (ns.map V.int) ∧ ns.length ≤ 63 ∧ k < 100 ∧
  ∀ z H', Same H H' → Q (.int z) H'
def spBox : Sp := fun vs H Q _ => ∃ c : Int, vs = [.int c] ∧ ∀ b x y, H b = none → 0 ≤ x → 0 ≤ y → y ≤ 2147483629 → Q (.ref b) (upd H b (.lst [.int x, .int y, .int 0]))
def spTake : Sp := fun vs H Q _ => ∃ (b : Addr) (n x y z : Int), vs = [.ref b, .int n] ∧ H b = some (.lst [.int x, .int y, .int z]) ∧ 0 < n ∧ n.natAbs.log2 < 9000 ∧ 0 ≤ y ∧ y ≤ 2147483629 ∧ 0 ≤ z ∧ z ≤ 1000000 ∧
  ∀ r x' z', 0 ≤ r → r < n → z ≤ z' → z' ≤ z + 1 → Q (.int r) (upd H b (.lst [.int x', .int y, .int z']))
section
variable {P : Program} {w : World} {K : PySem.W.Frag} {mg : Str → Option Value} {base : Heap}
theorem scCell : FnScope ["_law_script", "_law_k"] ["_law_script", "_law_k"] (defScope sCell) := ⟨rfl, rfl, rfl, by decide +kernel, rfl, by decide +kernel, by decide +kernel⟩
theorem ok_cell {f : Addr} {fd : FuncData} (F : Fun K "_law_cell" "_law_cell" sCell f fd) (T : Bt mg) : FnOk P w K mg base CX0 1 f fd ["_law_script", "_law_k"] (spCell K) := by
  refine F.ok scCell (fun vs H Q E h => ?_) (fun cdv A outer s H vs Q E hr h => ?_)
  · obtain ⟨a, ns, k, rfl, _⟩ := h
    rfl
  · obtain ⟨a, ns, k, rfl, hS, hl, hk, go⟩ := h
    refine ⟨_, pss_cons (ps_if (pt_cmpR op_lt (pv 1) (pe_callB call_len_seq (by rfl) T.len PySem.boot_len (pa_cons (pv 0) pa_nil)) (nomark _))
        (pss_one (ps_ret (pe_ix ix_list (pv 0) (pv 1) (fun _ _ => rfl)))) pss_nil)
      (pss_one (ps_ret (pe_op op_add (pe_op op_add (pe_op op_mul pe_int (pv 1)) pe_int)
        (pe_op op_mod (pe_callB (cr_sum rfl) (by rfl) T.sum (by decide +kernel) (pa_cons (pe_slice sl_list (pv 0) po_none (po_some pe_int)) pa_nil)) pe_int)))), ?_⟩
    refine ⟨_, rfl, _, rfl, a, _, rfl, .inl hS, _, _, rfl, rfl, _, rfl, ?_⟩
    refine ite2 (fun c => ?_) (fun c => ?_)
    · have c' : k < ns.length := by
        have c2 := of_decide_eq_true c
        rw [List.length_map] at c2
        omega
      refine ⟨_, rfl, _, rfl, a, _, _, .int (ns[k]'c'), rfl, rfl, hS, atI_nat (by rw [List.getElem?_map, List.getElem?_eq_getElem c']; rfl), ?_⟩
      exact go _ _ (Same.refl _)
    · refine ⟨_, rfl, _, _, rfl, rfl, .inl ⟨by decide, by decide⟩, _, _, rfl, rfl, _, rfl, _, rfl, a, _, rfl, hS, fun p hp => ?_⟩
      refine ⟨p, ns.take 1, rfl, ?_, _, _, rfl, rfl, (by show (0 : Int) < 1000003; decide), _, _, rfl, rfl, go _ _ fun b o e => by rw [upd_ne (ne_of_none e hp)]; exact e⟩
      refine .inl (.inl (upd_same.trans ?_))
      congr 1
      show HO.lst (cutV (ns.map V.int) none (some 1)) = _
      congr 1
      cases ns with
      | nil => rfl
      | cons n r =>
        simp [cutV, HT.sIx]
theorem scBox : FnScope ["_law_cell_here"] ["_law_cell_here"] (defScope sBox) := ⟨rfl, rfl, rfl, by decide +kernel, rfl, by decide +kernel, by decide +kernel⟩
theorem ok_box {f : Addr} {fd : FuncData} (F : Fun K "_law_box" "_law_box" sBox f fd) (T : Bt mg) : FnOk P w K mg base CX0 1 f fd ["_law_cell_here"] spBox := by
  refine F.ok scBox (fun vs H Q E h => ?_) (fun cdv A outer s H vs Q E hr h => ?_)
  · obtain ⟨c, rfl, _⟩ := h
    rfl
  · obtain ⟨c, rfl, go⟩ := h
    refine ⟨_, pss_one (ps_ret (pe_lst (pa_cons
        (pe_op op_mul (pe_callB call_abs (by rfl) T.abs (by decide +kernel) (pa_cons (pv 0) pa_nil))
          (pe_callTy call_int1 (by rfl) T.int (by decide +kernel) (pa_cons (pe_cmpR op_ge (pe_callB call_abs (by rfl) T.abs (by decide +kernel) (pa_cons (pv 0) pa_nil)) (pe_op op_pow pe_int pe_int) (nomark _)) pa_nil)))
        (pa_cons (pe_op op_add (pe_op op_mod (pe_callTy call_int1 (by rfl) T.int (by decide +kernel) (pa_cons (pe_callB call_abs (by rfl) T.abs (by decide +kernel) (pa_cons (pv 0) pa_nil)) pa_nil)) pe_int)
            (pe_callTy call_int1 (by rfl) T.int (by decide +kernel) (pa_cons (pe_cmpR op_lt (pv 0) pe_int (nomark _)) pa_nil)))
        (pa_cons pe_int pa_nil))))), ?_⟩
    generalize ea : (if c < 0 then -c else c) = a
    have ha : 0 ≤ a := by
      rw [← ea]
      split <;> omega
    refine ⟨_, rfl, c, rfl, ?_⟩
    rw [ea]
    refine ⟨_, rfl, c, rfl, ?_⟩
    rw [ea]
    refine ⟨_, _, rfl, rfl, ⟨by decide, by decide, by decide⟩, _, _, rfl, rfl, .inr ⟨_, rfl, _, _, rfl, rfl, .inr ?_, ?_⟩⟩
    · split <;> decide
    refine ⟨_, rfl, c, rfl, .inl ⟨_, rfl, _, _, rfl, rfl, (by show (0 : Int) < 2147483629; decide), _, rfl, _, _, rfl, rfl, .inr ⟨_, rfl, _, _, rfl, rfl, (by show 3 ≤ sizeLine; decide), fun b hb => ?_⟩⟩⟩
    rw [ea]
    have hm0 := Int.emod_nonneg a (show (2147483629 : Int) ≠ 0 by decide)
    have hm1 := Int.emod_lt_of_pos a (show (0 : Int) < 2147483629 by decide)
    refine go b _ _ hb ?_ ?_ ?_
    · split <;> simp [ha]
    · split <;> omega
    · split <;> omega
theorem scTake : FnScope ["_law_box_here", "_law_many", "_law_digit", "_law_mixed"] ["_law_box_here", "_law_many"] (defScope sTake) := ⟨rfl, rfl, rfl, by decide +kernel, rfl, by decide +kernel, by decide +kernel⟩
theorem ok_take {f : Addr} {fd : FuncData} (F : Fun K "_law_take" "_law_take" sTake f fd) (T : Bt mg) : FnOk P w K mg base CX0 1 f fd ["_law_box_here", "_law_many"] spTake := by
  refine F.ok scTake (fun vs H Q E h => ?_) (fun cdv A outer s H vs Q E hr h => ?_)
  · obtain ⟨b, n, x, y, z, rfl, _⟩ := h
    rfl
  · obtain ⟨b, n, x, y, z, rfl, hb, n0, n1, y0, y1, z0, z1, go⟩ := h
    refine ⟨_, pss_cons (ps_if (pt_cmpR op_gt (pe_ix ix_list (pv 0) pe_int (fun _ _ => rfl)) pe_int (nomark _))
        (pss_cons (ps_set (i := 2) scTake.nd rfl (.inl rfl) (pe_op op_mod (pe_callTy call_int1 (by rfl) T.int (by decide +kernel) (pa_cons (pe_ix ix_list (pv 0) pe_int (fun _ _ => rfl)) pa_nil)) (pv 1)))
        (pss_cons (ps_asg (pe_op op_fdivW (pe_ix ix_list (pv 0) pe_int (fun _ _ => rfl)) (pv 1)) (pg_sub (pv 0) pe_int set_list))
        (pss_one (ps_ret (pv 2))))) pss_nil)
      (pss_cons (ps_asg (pe_op op_add (pe_ix ix_list (pv 0) pe_int (fun _ _ => rfl)) pe_int) (pg_sub (pv 0) pe_int set_list))
      (pss_cons (ps_set (i := 3) scTake.nd rfl (.inl rfl) (pe_op op_mod (pe_op op_pow (pe_callTy call_int1 (by rfl) T.int (by decide +kernel) (pa_cons (pe_op op_add (pe_op op_add (pe_ix ix_list (pv 0) pe_int (fun _ _ => rfl)) (pe_op op_mul pe_int (pe_ix ix_list (pv 0) pe_int (fun _ _ => rfl)))) pe_int) pa_nil)) pe_int) pe_int))
      (pss_cons (ps_set (i := 3) scTake.nd rfl (.inl rfl) (pe_op op_mod (pe_op op_pow (pe_callTy call_int1 (by rfl) T.int (by decide +kernel) (pa_cons (pe_op op_add (pe_op op_add (pe_op op_fdiv (pv 3) pe_int) (pe_op op_mul pe_int (pe_ix ix_list (pv 0) pe_int (fun _ _ => rfl)))) (pe_ix ix_list (pv 0) pe_int (fun _ _ => rfl))) pa_nil)) pe_int) pe_int))
      (pss_one (ps_ret (pe_op op_mod (pe_op op_fdiv (pv 3) pe_int) (pv 1))))))), ?_⟩
    refine ⟨_, rfl, b, _, 0, .int x, rfl, rfl, SqL.of hb, rfl, _, _, rfl, rfl, _, rfl, ?_⟩
    refine ite2 (fun c => ?_) (fun c => ?_)
    · refine ⟨_, rfl, b, _, 0, .int x, rfl, rfl, SqL.of hb, rfl, .inl ⟨_, rfl, _, rfl, _, _, rfl, rfl, n0, ?_⟩⟩
      refine ⟨_, rfl, b, _, 0, .int x, rfl, rfl, SqL.of hb, rfl, _, rfl, _, _, rfl, rfl, ⟨n0, n1⟩, _, rfl, b, _, 0, 0, rfl, rfl, hb, rfl, _, rfl, ?_⟩
      exact go _ _ z (Int.emod_nonneg x (by omega)) (Int.emod_lt_of_pos x n0) (Int.le_refl _) (by omega)
    · refine ⟨_, rfl, b, _, 2, .int z, rfl, rfl, SqL.of hb, rfl, _, _, rfl, rfl, _, rfl, b, _, 2, 2, rfl, rfl, hb, rfl, ?_⟩
      show tSeq _ _ _ _ (upd H b (.lst [.int x, .int y, .int (z + 1)]))
      generalize eH : upd H b (.lst [.int x, .int y, .int (z + 1)]) = H1
      have hb1 : H1 b = some (.lst [.int x, .int y, .int (z + 1)]) := by
        rw [← eH]
        exact upd_same
      have p5 : ∀ q : Int, q ^ (5 : Int).toNat = q ^ 5 := fun _ => rfl
      refine ⟨_, rfl, b, _, 1, .int y, rfl, rfl, SqL.of hb1, rfl, _, rfl, b, _, 2, .int (z + 1), rfl, rfl, SqL.of hb1, rfl, _, _, rfl, rfl, .inl ⟨by decide, by decide⟩,
        _, _, rfl, rfl, _, _, rfl, rfl, .inl ⟨_, rfl, _, _, rfl, rfl, ⟨by decide, by decide, by omega⟩, _, _, rfl, rfl, (by show (0 : Int) < 2147483647; decide), ?_⟩⟩
      generalize em : (y + 48271 * (z + 1) + 11) ^ (5 : Int).toNat % 2147483647 = m
      have m0 : 0 ≤ m := by
        rw [← em]
        exact Int.emod_nonneg _ (by decide)
      have m1 : m < 2147483647 := by
        rw [← em]
        exact Int.emod_lt_of_pos _ (by decide)
      refine ⟨_, rfl, _, _, rfl, rfl, ⟨by decide, by decide⟩, _, rfl, b, _, 2, .int (z + 1), rfl, rfl, SqL.of hb1, rfl, _, _, rfl, rfl, .inl ⟨by decide, by decide⟩,
        _, _, rfl, rfl, _, rfl, b, _, 1, .int y, rfl, rfl, SqL.of hb1, rfl, _, _, rfl, rfl, .inl ⟨_, rfl, _, _, rfl, rfl, ⟨by decide, by decide, by omega⟩, _, _, rfl, rfl, (by show (0 : Int) < 2147483587; decide), ?_⟩⟩
      refine ⟨_, rfl, _, _, rfl, rfl, ⟨by decide, by decide⟩, _, rfl, _, _, rfl, rfl, n0, ?_⟩
      rw [← eH]
      exact go _ x (z + 1) (Int.emod_nonneg _ (by omega)) (Int.emod_lt_of_pos _ n0) (by omega) (Int.le_refl _)
end
end K03

set_option Elab.async false
set_option linter.all false
set_option maxRecDepth 100000
set_option maxHeartbeats 4000000
set_option exponentiation.threshold 3000
/-! The law over texts of Ratios: low, plus, written, is. -/
namespace K03
open PySem PySem.Spec PyProof.Rows L2 Vx Vr
open T3 (slash textOf)
theorem abs_if (a : Int) : (if a < 0 then -a else a) = ((a.natAbs : Nat) : Int) := by
  split <;> omega
def spLow : Sp := fun vs H Q _ => ∃ N D, vs = [.int N, .int D] ∧ 0 < D ∧ Lg D ∧ ∀ t n d, Norm N D n d → H t = none → Q (.ref t) (upd H t (.tup [.int n, .int d]))
section
variable {P : Program} {w : World} {K : PySem.W.Frag} {mg : Str → Option Value} {base : Heap} {C : Addr}
abbrev NLow : List Str := ["_law_top", "_law_bottom", "_law_one", "_law_other"]
theorem scLow : FnScope NLow ["_law_top", "_law_bottom"] (defScope (top 23)) := ⟨rfl, rfl, rfl, by decide +kernel, rfl, by decide +kernel, by decide +kernel⟩
theorem ok_low {f : Addr} {fd : FuncData} (F : L2.Fun K "_law_low" "_law_low" (top 23) f fd) (T : Bt mg) : FnOk P w K mg base CX0 1 f fd ["_law_top", "_law_bottom"] spLow := by
  refine F.ok scLow (fun vs H Q E h => ?_) (fun cdv A outer s H vs Q E hr h => ?_)
  · obtain ⟨N, D, rfl, _⟩ := h
    rfl
  · obtain ⟨N, D, rfl, dp, lD, go⟩ := h
    refine ⟨_, pss_cons (ps_par (i := 2) (j := 3) (by rfl) scLow.nd rfl rfl (by decide) rfl rfl (pa_cons (pe_callB call_abs (by rfl) T.abs (by decide +kernel) (pa_cons (pv 0) pa_nil)) (pa_cons (pv 1) pa_nil)) (by rfl))
      (pss_cons (ps_while PassesOwn.never (pt_cmpR op_ne (pv 3) pe_int (nomark _))
        (pss_one (ps_par (i := 2) (j := 3) (by rfl) scLow.nd rfl rfl (by decide) rfl rfl (pa_cons (pv 3) (pa_cons (pe_op op_mod (pv 2) (pv 3)) pa_nil)) (by rfl))))
      (pss_one (ps_ret (pe_tup (pa_cons (pe_op op_fdivZ (pv 0) (pv 2)) (pa_cons (pe_op op_fdivZ (pv 1) (pv 2)) pa_nil)))))), ?_⟩
    refine ⟨_, rfl, N, rfl, _, rfl, _, _, rfl, ?_⟩
    dsimp only
    rw [abs_if]
    have eD : D = ((D.natAbs : Nat) : Int) := by omega
    refine while_by (fun σ H' => H' = H ∧ ∃ x y : Nat, σ = [some (.int N), some (.int D), some (.int (x : Int)), some (.int (y : Int))] ∧ Nat.gcd x y = Nat.gcd N.natAbs D.natAbs)
      (fun σ _ => match σ with | [_, _, _, some (.int y)] => y.toNat | _ => 0) ⟨rfl, N.natAbs, D.natAbs, ?_, rfl⟩ ?_ ?_
    · show [some (V.int N), some (V.int D), some (V.int (N.natAbs : Int)), some (V.int D)] = _
      rw [← eD]
    · rintro σ H1 ⟨rfl, x, y, rfl, e⟩
      refine ⟨_, rfl, (by trivial), _, rfl, ?_⟩
      by_cases hy : (y : Int) = 0
      · have : (!decide (V.int (y : Int) = V.int 0)) = false := by rw [hy]; rfl
        rw [this]
        have y0 : y = 0 := by omega
        subst y0
        rw [Nat.gcd_zero_right] at e
        have gp := gcd_pos (N := N) (D := D) (by omega)
        obtain ⟨c0, nm⟩ := norm_of (N := N) (D := D) (c := (x : Int)) (by omega) (by rw [if_neg (by omega), e])
        have lx : CDivZ N (x : Int) := by
          refine ⟨c0, ?_⟩
          have l1 : x ≤ D.natAbs := by
            rw [e]
            exact Nat.gcd_le_right _ (by omega)
          have l2 : ((x : Int)).natAbs < 2 ^ 2100 := Nat.lt_of_le_of_lt (by omega) lD
          exact Nat.lt_of_lt_of_le (PySem.Flt.log2_lt_of (by decide) l2) (by decide)
        refine iteF ⟨_, rfl, _, rfl, _, _, rfl, rfl, lx, ?_⟩
        refine ⟨_, rfl, _, rfl, _, _, rfl, rfl, ⟨lx.1, lx.2⟩, (by show 2 ≤ sizeLine; decide), fun t ht => ?_⟩
        exact go t _ _ nm ht
      · have : (!decide (V.int (y : Int) = V.int 0)) = true := by
          rw [Bool.not_eq_true', decide_eq_false_iff_not]
          exact fun z => hy (V.int.inj z)
        rw [this]
        refine iteT ?_
        have yp : 0 < (y : Int) := by omega
        refine ⟨_, rfl, _, rfl, _, rfl, _, _, rfl, rfl, yp, _, _, rfl, ⟨rfl, y, x % y, ?_, ?_⟩, ?_⟩
        · show [some (V.int N), some (V.int D), some (V.int (y : Int)), some (V.int ((x : Int) % (y : Int)))] = _
          simp
        · rw [← e, Nat.gcd_comm x y, Nat.gcd_rec y x, Nat.gcd_comm]
        · show ((x : Int) % (y : Int)).toNat < ((y : Int)).toNat
          have h1 := Int.emod_lt_of_pos (x : Int) yp
          have h2 := Int.emod_nonneg (x : Int) (show (y : Int) ≠ 0 by omega)
          omega
    · rintro σ H1 Q1 Q2 hq ⟨v, h1, h2, k, h3, h4⟩
      exact ⟨v, h1, h2, k, h3, hq _ _ h4⟩
def spPlus : Sp := fun vs H Q _ => ∃ u v n d m e, vs = [u, v] ∧ Pr H u n d ∧ Pr H v m e ∧ Sm n ∧ Sm d ∧ Sm m ∧ Sm e ∧ 0 < d ∧ 0 < e ∧ ∀ t n' d', Norm (n * e + m * d) (d * e) n' d' → H t = none → Q (.ref t) (upd H t (.tup [.int n', .int d']))
theorem scPlus : FnScope ["_law_one", "_law_other"] ["_law_one", "_law_other"] (defScope (top 24)) := ⟨rfl, rfl, rfl, by decide +kernel, rfl, by decide +kernel, by decide +kernel⟩
theorem ok_plus {f : Addr} {fd : FuncData} (F : L2.Fun K "_law_plus" "_law_plus" (top 24) f fd) (L : Cal P w K mg base "_law_low" 1 ["_law_top", "_law_bottom"] spLow) : FnOk P w K mg base CX0 2 f fd ["_law_one", "_law_other"] spPlus := by
  refine F.ok scPlus (fun vs H Q E h => ?_) (fun cdv A outer s H vs Q E hr h => ?_)
  · obtain ⟨u, v, n, d, m, e, rfl, _⟩ := h
    rfl
  · obtain ⟨_, _, n, d, m, e, rfl, ⟨t, rfl, ht⟩, ⟨t', rfl, ht'⟩, sn, sd, sm, se, dp, ep, go⟩ := h
    refine ⟨_, pss_one (ps_ret (pe_cal L (hr.mono (by decide)) (pa_cons (pe_op op_add (pe_op op_mulW (pe_ix ix_tup (pv 0) pe_int (fun _ _ => rfl)) (pe_ix ix_tup (pv 1) pe_int (fun _ _ => rfl))) (pe_op op_mulW (pe_ix ix_tup (pv 1) pe_int (fun _ _ => rfl)) (pe_ix ix_tup (pv 0) pe_int (fun _ _ => rfl))))
      (pa_cons (pe_op op_mulW (pe_ix ix_tup (pv 0) pe_int (fun _ _ => rfl)) (pe_ix ix_tup (pv 1) pe_int (fun _ _ => rfl))) pa_nil)))), ?_⟩
    refine ⟨_, rfl, t, _, 0, .int n, rfl, rfl, SqT.of ht, rfl, _, rfl, t', _, 1, .int e, rfl, rfl, SqT.of ht', rfl, _, _, rfl, rfl, cmul sn se, ?_⟩
    refine ⟨_, rfl, t', _, 0, .int m, rfl, rfl, SqT.of ht', rfl, _, rfl, t, _, 1, .int d, rfl, rfl, SqT.of ht, rfl, _, _, rfl, rfl, cmul sm sd, _, _, rfl, rfl, ?_⟩
    refine ⟨_, rfl, t, _, 1, .int d, rfl, rfl, SqT.of ht, rfl, _, rfl, t', _, 1, .int e, rfl, rfl, SqT.of ht', rfl, _, _, rfl, rfl, cmul sd se, ?_⟩
    exact ⟨_, _, rfl, Int.mul_pos dp ep, lg_of (lg_mul sd se), fun t2 n' d' nm h2 => go t2 n' d' nm h2⟩
/-- the pair, written -/
def spWritten : Sp := fun vs H Q _ => ∃ v n d, vs = [v] ∧ Pr H v n d ∧ Sm n ∧ Sm d ∧ Q (.str (textOf n d)) H
theorem scWritten : FnScope ["_law_pair_here"] ["_law_pair_here"] (defScope (top 28)) := ⟨rfl, rfl, rfl, by decide +kernel, rfl, by decide +kernel, by decide +kernel⟩
theorem ok_written {f : Addr} {fd : FuncData} (F : L2.Fun K "_law_written" "_law_written" (top 28) f fd) (T : Bt mg) : FnOk P w K mg base CX0 1 f fd ["_law_pair_here"] spWritten := by
  refine F.ok scWritten (fun vs H Q E h => ?_) (fun cdv A outer s H vs Q E hr h => ?_)
  · obtain ⟨v, n, d, rfl, _⟩ := h
    rfl
  · obtain ⟨_, n, d, rfl, ⟨t, rfl, ht⟩, sn, sd, go⟩ := h
    refine ⟨_, pss_one (ps_ret (pe_ifExp (pt_cmpR op_eq (pe_ix ix_tup (pv 0) pe_int (fun _ _ => rfl)) pe_int (nomark _)) (pe_callTy call_str_int (by rfl) T.str (by decide +kernel) (pa_cons (pe_ix ix_tup (pv 0) pe_int (fun _ _ => rfl)) pa_nil))
      (pe_op op_add_str (pe_op op_add_str (pe_callTy call_str_int (by rfl) T.str (by decide +kernel) (pa_cons (pe_ix ix_tup (pv 0) pe_int (fun _ _ => rfl)) pa_nil)) pe_str) (pe_callTy call_str_int (by rfl) T.str (by decide +kernel) (pa_cons (pe_ix ix_tup (pv 0) pe_int (fun _ _ => rfl)) pa_nil))))), ?_⟩
    obtain ⟨l1, l2, l3⟩ := len3 sn sd
    have sl := slash_len
    refine ⟨_, rfl, t, _, 1, .int d, rfl, rfl, SqT.of ht, rfl, (by trivial), _, rfl, ?_⟩
    refine ite2 (fun c => ?_) (fun c => ?_)
    · have c' : d = 1 := V.int.inj (of_decide_eq_true c)
      unfold textOf at go
      rw [if_pos c'] at go
      exact ⟨_, rfl, t, _, 0, .int n, rfl, rfl, SqT.of ht, rfl, _, rfl, sm_log sn, go⟩
    · have c' : d ≠ 1 := fun z => c (decide_eq_true (by rw [z]))
      unfold textOf at go
      rw [if_neg c'] at go
      refine ⟨_, rfl, t, _, 0, .int n, rfl, rfl, SqT.of ht, rfl, _, rfl, sm_log sn, _, _, rfl, rfl, ?_, ?_⟩
      · show (Str.ofString (toString n)).length + slash.length ≤ _
        rw [sl]
        exact l2
      refine ⟨_, rfl, t, _, 1, .int d, rfl, rfl, SqT.of ht, rfl, _, rfl, sm_log sd, _, _, rfl, rfl, ?_, go⟩
      show (Str.ofString (toString n) ++ slash).length + (Str.ofString (toString d)).length ≤ _
      rw [PySem.Str.length_append, sl]
      exact l1
end
end K03

set_option Elab.async false
set_option linter.all false
set_option maxRecDepth 100000
set_option maxHeartbeats 4000000
set_option exponentiation.threshold 3000
/-! The law over texts of Ratios: a pair drawn, the look at a Ratio. -/
namespace K03
open PySem PySem.Spec PyProof.Rows L2 Vx Vr
open T3 (slash textOf)
def Chg (b : Addr) (H H' : Hp) : Prop := ∀ q o, q ≠ b → H q = some o → H' q = some o
theorem Chg.trans {b : Addr} {H1 H2 H3 : Hp} (h : Chg b H1 H2) (g : Chg b H2 H3) : Chg b H1 H3 := fun q o ne e => g q o ne (h q o ne e)
theorem Chg.of {b : Addr} {H H' : Hp} (s : Same H H') : Chg b H H' := fun q o _ e => s q o e
theorem Chg.at_ {b : Addr} {H : Hp} {o : HO} : Chg b H (upd H b o) := fun q o' ne e => by rw [upd_ne ne]; exact e
theorem at4 (a b c d : V) {r : Int} (h0 : 0 ≤ r) (h1 : r < 4) : ∃ v, atI [a, b, c, d] r = some v ∧ (v = a ∨ v = b ∨ v = c ∨ v = d) := by
  obtain h | h | h | h : r = 0 ∨ r = 1 ∨ r = 2 ∨ r = 3 := by omega
  · subst h; exact ⟨a, rfl, .inl rfl⟩
  · subst h; exact ⟨b, rfl, .inr (.inl rfl)⟩
  · subst h; exact ⟨c, rfl, .inr (.inr (.inl rfl))⟩
  · subst h; exact ⟨d, rfl, .inr (.inr (.inr rfl))⟩
theorem lsz {sz : Int} (p0 : 0 < sz) (p1 : sz ≤ 10 ^ 29) : sz.natAbs.log2 < 9000 := by
  have : sz.natAbs < 2 ^ 100 := by
    have : (10 : Int) ^ 29 < 2 ^ 100 := by decide
    omega
  exact Nat.lt_of_lt_of_le (PySem.Flt.log2_lt_of (by decide) this) (by decide)
def spPair : Sp := fun vs H Q _ => ∃ b x y z, vs = [.ref b] ∧ H b = some (.lst [.int x, .int y, .int z]) ∧ 0 ≤ y ∧ y ≤ 2147483629 ∧ 0 ≤ z ∧ z ≤ 900000 ∧
  ∀ t n d x' z' H', H t = none → n.natAbs < 2 ^ 100 → d.natAbs < 2 ^ 100 → 0 < d → Int.gcd n d = 1 → z ≤ z' → z' ≤ z + 5 → Chg b H H' → H' b = some (.lst [.int x', .int y, .int z']) → H' t = some (.tup [.int n, .int d]) → Q (.ref t) H'
section
variable {P : Program} {w : World} {K : PySem.W.Frag} {mg : Str → Option Value} {base : Heap} {C : Addr}
abbrev NPair : List Str := ["_law_box_here", "_law_size", "_law_top"]
theorem scPair : FnScope NPair ["_law_box_here"] (defScope (top 27)) := ⟨rfl, rfl, rfl, by decide +kernel, rfl, by decide +kernel, by decide +kernel⟩
theorem ok_pair {f : Addr} {fd : FuncData} (F : L2.Fun K "_law_pair" "_law_pair" (top 27) f fd) (T : Bt mg) (TK : Cal P w K mg base "_law_take" 1 ["_law_box_here", "_law_many"] spTake) (L : Cal P w K mg base "_law_low" 1 ["_law_top", "_law_bottom"] spLow) :
    FnOk P w K mg base CX0 2 f fd ["_law_box_here"] spPair := by
  refine F.ok scPair (fun vs H Q E h => ?_) (fun cdv A outer s H vs Q E hr h => ?_)
  · obtain ⟨b, x, y, z, rfl, _⟩ := h
    rfl
  · obtain ⟨b, x, y, z, rfl, hb, y0, y1, z0, z1, go⟩ := h
    have h1 := hr.mono (show 1 ≤ 1 by decide)
    refine ⟨_, pss_cons (ps_set (i := 1) scPair.nd rfl (.inl rfl) (pe_ix ix_list (pe_lst (pa_cons pe_int (pa_cons pe_int (pa_cons (pe_op op_pow pe_int pe_int) (pa_cons (pe_op op_pow pe_int pe_int) pa_nil)))))
        (pe_cal TK h1 (pa_cons (pv 0) (pa_cons pe_int pa_nil))) (fun _ _ => rfl)))
      (pss_cons (ps_set (i := 2) scPair.nd rfl (.inl rfl) (pe_op op_mulW (pe_cal TK h1 (pa_cons (pv 0) (pa_cons (pv 1) pa_nil)))
        (pe_ix ix_list (pe_lst (pa_cons pe_int (pa_cons (pe_un un_neg pe_int) (pa_cons pe_int (pa_cons pe_int pa_nil))))) (pe_cal TK h1 (pa_cons (pv 0) (pa_cons pe_int pa_nil))) (fun _ _ => rfl))))
      (pss_one (ps_ret (pe_cal L h1 (pa_cons (pv 2) (pa_cons (pe_op op_add pe_int (pe_cal TK h1 (pa_cons (pv 0) (pa_cons (pe_ix ix_list (pe_lst (pa_cons pe_int (pa_cons pe_int (pa_cons pe_int (pa_cons (pe_op op_pow pe_int pe_int) pa_nil)))))
        (pe_cal TK h1 (pa_cons (pv 0) (pa_cons pe_int pa_nil))) (fun _ _ => rfl)) pa_nil)))) pa_nil)))))), ?_⟩
    refine ⟨_, _, rfl, rfl, ⟨by decide, by decide, by decide⟩, _, _, rfl, rfl, ⟨by decide, by decide, by decide⟩, (by show 4 ≤ sizeLine; decide), fun l hl => ?_⟩
    have nlb : l ≠ b := fun e => by
      rw [e, hb] at hl
      cases hl
    have s1 := same_new (o := .lst [.int 10, .int 1000, .int (10 ^ (15 : Int).toNat), .int (10 ^ (29 : Int).toNat)]) hl
    refine ⟨_, rfl, b, 4, x, y, z, rfl, s1 _ _ hb, by decide, by decide, y0, y1, z0, by omega, fun r x1 z1' r0 r1 za zb => ?_⟩
    obtain ⟨v, hv, cs⟩ := at4 (.int 10) (.int 1000) (.int (10 ^ (15 : Int).toNat)) (.int (10 ^ (29 : Int).toNat)) r0 r1
    have hv2 : ∃ sz : Int, v = .int sz ∧ 0 < sz ∧ sz ≤ 10 ^ 29 := by
      rcases cs with h | h | h | h <;> subst h <;> exact ⟨_, rfl, by decide, by decide⟩
    obtain ⟨sz, rfl, p0, p1⟩ := hv2
    refine ⟨l, _, r, _, rfl, rfl, SqL.of ((upd_ne nlb).trans upd_same), hv, ?_⟩
    have c1 : Chg b H (upd (upd H l (.lst [.int 10, .int 1000, .int (10 ^ (15 : Int).toNat), .int (10 ^ (29 : Int).toNat)])) b (.lst [.int x1, .int y, .int z1'])) := (Chg.of s1).trans Chg.at_
    have b1 : upd (upd H l (.lst [.int 10, .int 1000, .int (10 ^ (15 : Int).toNat), .int (10 ^ (29 : Int).toNat)])) b (.lst [.int x1, .int y, .int z1']) b = some (.lst [.int x1, .int y, .int z1']) := upd_same
    dsimp only
    generalize upd (upd H l (.lst [.int 10, .int 1000, .int (10 ^ (15 : Int).toNat), .int (10 ^ (29 : Int).toNat)])) b (.lst [.int x1, .int y, .int z1']) = H1 at c1 b1 ⊢
    refine ⟨_, rfl, _, rfl, b, sz, x1, y, z1', rfl, b1, p0, lsz p0 p1, y0, y1, by omega, by omega, fun r2 x2 z2 r20 r21 zc zd => ?_⟩
    have c2 : Chg b H (upd H1 b (.lst [.int x2, .int y, .int z2])) := c1.trans Chg.at_
    have b2 : upd H1 b (.lst [.int x2, .int y, .int z2]) b = some (.lst [.int x2, .int y, .int z2]) := upd_same
    generalize upd H1 b (.lst [.int x2, .int y, .int z2]) = H2 at c2 b2 ⊢
    refine ⟨_, rfl, (by show 4 ≤ sizeLine; decide), fun l2 hl2 => ?_⟩
    have nlb2 : l2 ≠ b := fun e => by
      rw [e, b2] at hl2
      cases hl2
    have s3 := same_new (o := .lst [.int 1, .int (-1), .int 1, .int 0]) hl2
    refine ⟨_, rfl, b, 4, x2, y, z2, rfl, s3 _ _ b2, by decide, by decide, y0, y1, by omega, by omega, fun r3 x3 z3 r30 r31 ze zf => ?_⟩
    obtain ⟨v, hv, cs⟩ := at4 (.int 1) (.int (-1)) (.int 1) (.int 0) r30 r31
    have hv2 : ∃ sg : Int, v = .int sg ∧ sg.natAbs ≤ 1 := by
      rcases cs with h | h | h | h <;> subst h <;> exact ⟨_, rfl, by decide⟩
    obtain ⟨sg, rfl, p2⟩ := hv2
    refine ⟨l2, _, r3, _, rfl, rfl, SqL.of ((upd_ne nlb2).trans upd_same), hv, ?_⟩
    have r2b : r2.natAbs < 10 ^ 29 := by omega
    refine ⟨_, _, rfl, rfl, wide_mul (a := 100) (b := 1) (Nat.lt_trans r2b (by decide)) (by show sg.natAbs < 2; omega) (by decide) (by decide) (by decide), ?_⟩
    have c3 : Chg b H (upd (upd H2 l2 (.lst [.int 1, .int (-1), .int 1, .int 0])) b (.lst [.int x3, .int y, .int z3])) := (c2.trans (Chg.of s3)).trans Chg.at_
    have b3 : upd (upd H2 l2 (.lst [.int 1, .int (-1), .int 1, .int 0])) b (.lst [.int x3, .int y, .int z3]) b = some (.lst [.int x3, .int y, .int z3]) := upd_same
    dsimp only
    generalize upd (upd H2 l2 (.lst [.int 1, .int (-1), .int 1, .int 0])) b (.lst [.int x3, .int y, .int z3]) = H3 at c3 b3 ⊢
    have tb : (r2 * sg).natAbs < 10 ^ 29 := by
      rw [Int.natAbs_mul]
      have : r2.natAbs * sg.natAbs ≤ r2.natAbs * 1 := Nat.mul_le_mul_left _ p2
      omega
    generalize r2 * sg = tp at tb ⊢
    refine ⟨_, rfl, _, rfl, _, _, rfl, rfl, ⟨by decide, by decide, by decide⟩, (by show 4 ≤ sizeLine; decide), fun l3 hl3 => ?_⟩
    have nlb3 : l3 ≠ b := fun e => by
      rw [e, b3] at hl3
      cases hl3
    have s4 := same_new (o := .lst [.int 1, .int 9, .int 1000, .int (10 ^ (29 : Int).toNat)]) hl3
    refine ⟨_, rfl, b, 4, x3, y, z3, rfl, s4 _ _ b3, by decide, by decide, y0, y1, by omega, by omega, fun r4 x4 z4 r40 r41 zg zh => ?_⟩
    obtain ⟨v, hv, cs⟩ := at4 (.int 1) (.int 9) (.int 1000) (.int (10 ^ (29 : Int).toNat)) r40 r41
    have hv2 : ∃ sz : Int, v = .int sz ∧ 0 < sz ∧ sz ≤ 10 ^ 29 := by
      rcases cs with h | h | h | h <;> subst h <;> exact ⟨_, rfl, by decide, by decide⟩
    obtain ⟨sz2, rfl, q0, q1⟩ := hv2
    refine ⟨l3, _, r4, _, rfl, rfl, SqL.of ((upd_ne nlb3).trans upd_same), hv, ?_⟩
    have c4 : Chg b H (upd (upd H3 l3 (.lst [.int 1, .int 9, .int 1000, .int (10 ^ (29 : Int).toNat)])) b (.lst [.int x4, .int y, .int z4])) := (c3.trans (Chg.of s4)).trans Chg.at_
    have b4 : upd (upd H3 l3 (.lst [.int 1, .int 9, .int 1000, .int (10 ^ (29 : Int).toNat)])) b (.lst [.int x4, .int y, .int z4]) b = some (.lst [.int x4, .int y, .int z4]) := upd_same
    dsimp only
    generalize upd (upd H3 l3 (.lst [.int 1, .int 9, .int 1000, .int (10 ^ (29 : Int).toNat)])) b (.lst [.int x4, .int y, .int z4]) = H4 at c4 b4 ⊢
    refine ⟨b, sz2, x4, y, z4, rfl, b4, q0, lsz q0 q1, y0, y1, by omega, by omega, fun r5 x5 z5 r50 r51 zi zj => ⟨_, _, rfl, rfl, ?_⟩⟩
    have c5 : Chg b H (upd H4 b (.lst [.int x5, .int y, .int z5])) := c4.trans Chg.at_
    have b5 : upd H4 b (.lst [.int x5, .int y, .int z5]) b = some (.lst [.int x5, .int y, .int z5]) := upd_same
    dsimp only
    generalize upd H4 b (.lst [.int x5, .int y, .int z5]) = H5 at c5 b5 ⊢
    have db : (1 + r5).natAbs < 2 ^ 100 := by
      have : (10 : Int) ^ 29 < 2 ^ 99 := by decide
      omega
    refine ⟨tp, 1 + r5, rfl, by omega, Nat.lt_trans db (Nat.pow_lt_pow_right (by decide) (by decide)), fun t n d nm ht => ?_⟩
    obtain ⟨_, dp, g, n1, n2⟩ := nm
    have ntb : t ≠ b := fun e => by
      rw [e, b5] at ht
      cases ht
    have fresh : H t = none := by
      cases e : H t with
      | none => rfl
      | some o =>
        have := c5 t o ntb e
        rw [this] at ht
        cases ht
    exact go t n d x5 z5 _ fresh (Nat.lt_of_le_of_lt n1 (Nat.lt_trans tb (by decide))) (Nat.lt_of_le_of_lt n2 db) dp g (by omega) (by omega) (c5.trans (Chg.of (same_new ht))) ((upd_ne (Ne.symm ntb)).trans b5) upd_same
end
end K03

set_option Elab.async false
set_option linter.all false
set_option maxRecDepth 100000
set_option maxHeartbeats 4000000
set_option exponentiation.threshold 3000
/-! The law over texts of Ratios: its look at a Ratio. -/
namespace K03
open PySem PySem.Spec PyProof.Rows L2 Vx Vr
open T3 (slash textOf)
/-- the class's two properties -/
structure Tb (P : Program) (w : World) (K : PySem.W.Frag) (mg : Str → Option Value) (base : Heap) (C : Addr) : Prop where
  rc : Rc K C
  top : ∃ p g fd, PropOf K C "top" p g ∧ FnOk P w K mg base CX0 1 g fd ["self"] (getSp C "_top") ∧ Binds K fd ["self"] []
  bot : ∃ p g fd, PropOf K C "bottom" p g ∧ FnOk P w K mg base CX0 1 g fd ["self"] (getSp C "_bottom") ∧ Binds K fd ["self"] []
section
variable {X : Cx} {C : Addr}
theorem pe_top {e : Expr} {ta : TE} {pos : Pos} (T : Tb X.prog X.w X.K X.mg X.base C) (hr : Room 2 X.A) (he : PE X e ta) (hab : attributeBase e "top" X.env (eval e X.env) = eval e X.env := by rfl) : PE X (.Attribute e "top" pos) (tProp C (getSp C "_top") [] E0 ta) := by
  obtain ⟨p, g, fd, P, F, b⟩ := T.top
  exact pe_prop he T.rc.own.cls P F hr b .nil pass0 hab
theorem pe_bot {e : Expr} {ta : TE} {pos : Pos} (T : Tb X.prog X.w X.K X.mg X.base C) (hr : Room 2 X.A) (he : PE X e ta) (hab : attributeBase e "bottom" X.env (eval e X.env) = eval e X.env := by rfl) : PE X (.Attribute e "bottom" pos) (tProp C (getSp C "_bottom") [] E0 ta) := by
  obtain ⟨p, g, fd, P, F, b⟩ := T.bot
  exact pe_prop he T.rc.own.cls P F hr b .nil pass0 hab
end
def spIsP (C : Addr) : Sp := fun vs H Q _ => ∃ p n d v, vs = [.ref p, v] ∧ Rt C H p n d ∧ Pr H v n d ∧ ∀ H', Same H H' → Q (.bl true) H'
section
variable {P : Program} {w : World} {K : PySem.W.Frag} {mg : Str → Option Value} {base : Heap} {C : Addr}
theorem scIsP : FnScope ["_law_ratio", "_law_pair_here"] ["_law_ratio", "_law_pair_here"] (defScope (top 26)) := ⟨rfl, rfl, rfl, by decide +kernel, rfl, by decide +kernel, by decide +kernel⟩
theorem ok_isP {f : Addr} {fd : FuncData} (F : L2.Fun K "_law_is" "_law_is" (top 26) f fd) (B : Bt mg) (T : Tb P w K mg base C) (gC : mg "Ratio" = some (.ref C)) : FnOk P w K mg base CX0 3 f fd ["_law_ratio", "_law_pair_here"] (spIsP C) := by
  refine F.ok scIsP (fun vs H Q E h => ?_) (fun cdv A outer s H vs Q E hr h => ?_)
  · obtain ⟨p, n, d, v, rfl, _⟩ := h
    rfl
  · obtain ⟨p, n, d, _, rfl, ⟨dx, hp⟩, ⟨t, rfl, ht⟩, go⟩ := h
    refine ⟨_, pss_one (ps_ret (pe_and (pe_callB call_isi (by rfl) B.isi (by decide +kernel) (pa_cons (pv 0) (pa_cons (pe_glob (v := .ref C) (by rfl) gC rfl) pa_nil)))
      (pe_one (pe_cmpR (op_eqD hr.units) (pe_tup (pa_cons (pe_top T hr (pv 0)) (pa_cons (pe_bot T hr (pv 0)) pa_nil))) (pv 1) (nomark _))))), ?_⟩
    refine ⟨_, rfl, .ref p, .ref C, .ref C, _, _, rfl, .own C, T.rc.ty hp, T.rc.one, _, rfl, iteT ?_⟩
    refine ⟨_, rfl, p, dx, _, rfl, hp, p, dx, _, _, rfl, hp, lkT n d, ?_⟩
    refine ⟨_, rfl, p, dx, _, rfl, hp, p, dx, _, _, rfl, hp, lkB n d, (by show 2 ≤ sizeLine; decide), fun t2 h2 => ?_⟩
    have s2 := same_new (o := .tup [.int n, .int d]) h2
    refine ⟨_, rfl, _, _, dp_pair upd_same, dp_pair (s2 _ _ ht), shaped_pair n d, shaped_pair n d, ?_⟩
    rw [eqv_pair, decide_eq_true rfl, decide_eq_true rfl]
    exact go _ s2
end
end K03

set_option Elab.async false
set_option linter.all false
set_option maxRecDepth 100000
set_option maxHeartbeats 4000000
set_option exponentiation.threshold 3000
/-! The law over texts of Ratios: as_ratio of what is no number. -/
namespace K03
open PySem PySem.Spec PyProof.Rows L2 Vx Vr
open T3 (slash textOf)
/-- an error of the program that keeps what was given -/
structure Gv (P : Program) (w : World) (K : PySem.W.Frag) (mg : Str → Option Value) (base : Heap) (x : Str) (B : Addr) : Prop where
  gB : mg x = some (.ref B)
  xf : XfC K B
  raises : PySem.W.subIn K (.ref B) (.type "BaseException") = some true ∧ PySem.W.typeIn K (.ref B) = some (.type "type")
  eB : PySem.W.exmOne K (.ref B) (.ref B) = some true
  made : ∃ fI fd, ErC K B fI "given" ∧ FnOk P w K mg base CX0 1 fI fd ["self", "given"] (spE K B "given") ∧ Binds K fd ["self", "given"] []
/-- what raising it asks -/
def tGv (B : Addr) (te : TE) : L2.St → Hp → XK → Prop := tMkO B (fun vs H Q _ => ∃ (a : Addr) (v : V), vs = [.ref a, v] ∧ H a = some (exo a B none) ∧ ∀ d, H d = none → d ≠ a → Q .non (upd (upd H d (exd d [("given", v)])) a (exo a B (some d)))) [] (tCons te tNil)
section
variable {X : Cx} {x : Str} {B : Addr} {e : Expr} {te : TE} {p pos : Pos}
theorem pmk_gv (T : Gv X.prog X.w X.K X.mg X.base x B) (hr : Room 2 X.A) (he : PE X e te) (hg : Gl X x) (hdb : (x == ("__debug__" : Str)) = false := by decide)
    (hs : starEach [e] X.env = (false, eval e X.env) :: starEach [] X.env := by rfl) : PMk X (.Call (.Name x p) [e] [] pos) (tGv B te) := by
  obtain ⟨fI, fd, E, F, bs⟩ := T.made
  exact pmk_oex E.ox E.iC E.tI F hr bs .nil pass0 hg T.gB (pa_cons he pa_nil hs) hdb hs (by rfl)
theorem rd_gv {σ : L2.St} {H : Hp} {v : V} {Q : XK} (hte : ∀ Qv : VK, Qv v H → te σ H Qv) (go : ∀ d H', Same H H' → H d = none → H' d = some (.xd [("given", v)]) → Q (.ref B) (some d) H') : tGv B te σ H Q := by
  refine hte _ ⟨by show 1 ≤ 1000; decide, fun a ha => ⟨a, v, rfl, upd_same, fun d hd ne => ⟨rfl, d, _, upd_same, (upd_ne ne).trans upd_same, ?_, ?_⟩⟩⟩
  · rw [upd_ne ne] at hd
    exact hd
  · have hd' : H d = none := by
      rw [upd_ne ne] at hd
      exact hd
    refine go d _ (fun q o h => ?_) hd' upd_same
    have n1 : q ≠ a := ne_of_none h ha
    have n2 : q ≠ d := ne_of_none h hd'
    rw [upd_ne n2, del_ne n1, upd_ne n1, upd_ne n2, upd_ne n1]
    exact h
end
def spAsX (K : PySem.W.Frag) (B : Addr) : Sp := fun vs H _ E => ∃ v T, vs = [v] ∧ Oth K H v T ∧ T ≠ "int" ∧ ∀ d H', Same H H' → H d = none → H' d = some (.xd [("given", v)]) → E (.ref B) (some d) H'
section
variable {P : Program} {w : World} {K : PySem.W.Frag} {mg : Str → Option Value} {base : Heap} {C B : Addr}
theorem ok_asX {f : Addr} {fd : FuncData} (F : L2.Fun K "as_ratio" "as_ratio" (top 13) f fd) (T : Bt mg) (R : Rc K C) (gC : mg "Ratio" = some (.ref C)) (W : Cal P w K mg base "is_whole" 1 ["value"] (spWhole K)) (G : Gv P w K mg base "BadNumber" B) :
    FnOk P w K mg base (L2.CX P w) 3 f fd ["value"] (spAsX K B) := by
  refine F.okX scAs (fun vs H Q E h => ?_) (fun cdv A outer s H vs Q E hr h => ?_)
  · obtain ⟨v, U, rfl, _⟩ := h
    rfl
  · obtain ⟨v, U, rfl, o, ne, go⟩ := h
    refine ⟨_, pss_cons (ps_if (pt_val (pe_callB call_isi (by rfl) T.isi (by decide +kernel) (pa_cons (pv 0) (pa_cons (pe_glob (v := .ref C) (by rfl) gC rfl) pa_nil)))) (pss_one (ps_ret (pv 0))) pss_nil)
      (pss_cons (ps_if (pt_not (pt_val (pe_cal W (hr.mono (by decide)) (pa_cons (pv 0) pa_nil)))) (pss_one (ps_raise rfl (takes_of rfl rfl rfl rfl) (pmk_gv G hr (pv 0) (by rfl)))) pss_nil)
      (pss_one ps_never)), ?_⟩
    refine ⟨_, rfl, v, .ref C, .type U, _, _, rfl, .own C, ty_oth o, R.oth U o.mem, _, rfl, iteF ?_⟩
    refine ⟨_, rfl, v, U, rfl, o, _, rfl, ?_⟩
    rw [beq_false_of_ne ne]
    refine iteT ?_
    exact rd_gv (te := tVar 0) (fun Qv q => ⟨_, rfl, q⟩) go
end
end K03

set_option Elab.async false
set_option linter.all false
set_option maxRecDepth 100000
set_option maxHeartbeats 4000000
set_option exponentiation.threshold 3000
/-! The law over texts of Ratios: _are_digits. -/
namespace K03
open PySem PySem.Spec PyProof.Rows L2 Vx Vr
open T3 (slash textOf)
/-- all signs are figures, and there is one -/
def spDig : Sp := fun vs H Q _ => ∃ z : Str, vs = [.str z] ∧ Q (.bl (Txt.isascii z && Txt.isdigit z)) H
section
variable {P : Program} {w : World} {K : PySem.W.Frag} {mg : Str → Option Value} {base : Heap}
theorem scDig : FnScope ["text"] ["text"] (defScope (top 15)) := ⟨rfl, rfl, rfl, by decide +kernel, rfl, by decide +kernel, by decide +kernel⟩
theorem ok_dig {f : Addr} {fd : FuncData} (F : L2.Fun K "_are_digits" "_are_digits" (top 15) f fd) : FnOk P w K mg base CX0 1 f fd ["text"] spDig := by
  refine F.ok scDig (fun vs H Q E h => ?_) (fun cdv A outer s H vs Q E hr h => ?_)
  · obtain ⟨z, rfl, _⟩ := h
    rfl
  · obtain ⟨z, rfl, go⟩ := h
    refine ⟨_, pss_one (ps_ret (pe_and (pe_m0 PySem.F.slot_str_isascii PySem.F.type_str_isascii mt_isascii (pv 0)) (pe_one (pe_m0 PySem.F.slot_str_isdigit PySem.F.type_str_isdigit mt_isdigit (pv 0))))), ?_⟩
    refine ⟨_, rfl, ⟨_, rfl⟩, z, rfl, rfl, trivial, _, rfl, ?_⟩
    by_cases c : Txt.isascii z = true
    · rw [c]
      rw [c, Bool.true_and] at go
      exact iteT ⟨_, rfl, ⟨_, rfl⟩, z, rfl, rfl, trivial, go⟩
    · rw [Bool.not_eq_true] at c
      rw [c]
      rw [c, Bool.false_and] at go
      exact iteF go
end
end K03

set_option Elab.async false
set_option linter.all false
set_option maxRecDepth 100000
set_option maxHeartbeats 4000000
set_option exponentiation.threshold 3000
/-! The law over texts of Ratios: read_ratio. -/
namespace K03
open PySem PySem.Spec PyProof.Rows L2 Vx Vr
open T3 (slash textOf minus rTop rSl rBot dig Num)
/-- the text is no Ratio's -/
def Bad (z : Str) : Prop := dig (Txt.removeprefix (rTop z) minus) = false ∨ dig (rBot z) = false ∨ PySem.intText? (rBot z) = some 0 ∨
  ∃ m e n d, PySem.intText? (rTop z) = some m ∧ PySem.intText? (rBot z) = some e ∧ e ≠ 0 ∧ Norm m e n d ∧ textOf n d ≠ z
theorem kit_str {K : PySem.W.Frag} : ∀ T ∈ ["NoneType", "bool", "int", "str", "list", "tuple", "dict"], PySem.W.kitOne K (.type T) (.type "str") = some (T == "str") := by
  intro T h
  simp only [List.mem_cons, List.not_mem_nil, or_false] at h
  rcases h with h | h | h | h | h | h | h <;> subst h <;> exact kit_ty (by decide +kernel)
def spReadX (K : PySem.W.Frag) (B : Addr) : Sp := fun vs H _ E => ∃ v T, vs = [v] ∧ Oth K H v T ∧ T ≠ "str" ∧ ∀ d H', Same H H' → H' d = some (.xd [("given", v)]) → E (.ref B) (some d) H'
def spReadT (C B : Addr) : Sp := fun vs H Q E => ∃ z, vs = [.str z] ∧ Num z ∧
  (∀ m e n d p H', dig (Txt.removeprefix (rTop z) minus) = true → dig (rBot z) = true → PySem.intText? (rTop z) = some m → PySem.intText? (rBot z) = some e → e ≠ 0 → Norm m e n d → textOf n d = z → Same H H' → Rt C H' p n d → Q (.ref p) H') ∧
  (Bad z → ∀ d H', Same H H' → H' d = some (.xd [("given", .str z)]) → E (.ref B) (some d) H')
def spRead (K : PySem.W.Frag) (C B : Addr) : Sp := fun vs H Q E => spReadT C B vs H Q E ∨ spReadX K B vs H Q E
section
variable {P : Program} {w : World} {K : PySem.W.Frag} {mg : Str → Option Value} {base : Heap} {C B : Addr}
abbrev NRead : List Str := ["text", "top", "slash", "bottom", "ratio"]
theorem scRead : FnScope NRead ["text"] (defScope (top 14)) := ⟨rfl, rfl, rfl, by decide +kernel, rfl, by decide +kernel, by decide +kernel⟩
theorem ok_read {f ft : Addr} {fd fdt : FuncData} (F : L2.Fun K "read_ratio" "read_ratio" (top 14) f fd) (U : Us P w K mg base C) (D : Cal P w K mg base "_are_digits" 1 ["text"] spDig) (G : Gv P w K mg base "BadText" B)
    (Mt : Meth K C "text" ft) (Ft : FnOk P w K mg base CX0 1 ft fdt ["self"] (spTextX C)) (bt : Binds K fdt ["self"] []) :
    FnOk P w K mg base (L2.CX P w) 3 f fd ["text"] (spRead K C B) := by
  refine F.okX scRead (fun vs H Q E h => ?_) (fun cdv A outer s H vs Q E hr h => ?_)
  · rcases h with ⟨z, rfl, _⟩ | ⟨v, T, rfl, _⟩ <;> rfl
  · have T := U.bt
    have h1 := hr.mono (show 1 ≤ 2 by decide)
    refine ⟨_, pss_cons (ps_if (pt_not (pt_val (pe_callB call_isi (by rfl) T.isi (by decide +kernel) (pa_cons (pv 0) (pa_cons (pe_bltn (v := .ty "str") (by rfl) T.str (by decide +kernel) rfl) pa_nil))))) (pss_one (ps_raise rfl (takes_of rfl rfl rfl rfl) (pmk_gv G hr (pv 0) (by rfl)))) pss_nil)
      (pss_cons (ps_asg (pe_partition (pv 0) pe_str) (pg_tup (by rfl) (pgs_cons (pg_name (i := 1) scRead.nd rfl (.inl rfl)) (pgs_cons (pg_name (i := 2) scRead.nd rfl (.inl rfl)) (pgs_cons (pg_name (i := 3) scRead.nd rfl (.inl rfl)) pgs_nil)))))
      (pss_cons (ps_if (pt_not (pt_truth (pv 2) (by intro _; rfl))) (pss_one (ps_set (i := 3) scRead.nd rfl (.inl rfl) pe_str)) pss_nil)
      (pss_cons (ps_if (PW.pt (pw_or (pt_not (pt_val (pe_cal D h1 (pa_cons (pe_m1 PySem.F.slot_str_removeprefix PySem.F.type_str_removeprefix mt_removeprefix (pv 1) pe_str) pa_nil))))
          (pw_or (pt_not (pt_val (pe_cal D h1 (pa_cons (pv 3) pa_nil)))) (pw_or1 (pt_cmpR op_eq (pe_callTy call_int_str (by rfl) T.int (by decide +kernel) (pa_cons (pv 3) pa_nil)) pe_int (nomark _))))))
        (pss_one (ps_raise rfl (takes_of rfl rfl rfl rfl) (pmk_gv G hr (pv 0) (by rfl)))) pss_nil)
      (pss_cons (ps_set (i := 4) scRead.nd rfl (.inl rfl) (pe_rat U.mkr hr (pe_callTy call_int_str (by rfl) T.int (by decide +kernel) (pa_cons (pv 1) pa_nil)) (pe_callTy call_int_str (by rfl) T.int (by decide +kernel) (pa_cons (pv 3) pa_nil))))
      (pss_cons (ps_if (pt_cmpR op_ne (pe_meth0 (pv 4) U.rc.own.cls Mt Ft h1 bt .nil pass0) (pv 0) (nomark _)) (pss_one (ps_raise rfl (takes_of rfl rfl rfl rfl) (pmk_gv G hr (pv 0) (by rfl)))) pss_nil)
      (pss_one (ps_ret (pv 4)))))))), ?_⟩
    rcases h with ⟨z, rfl, hz, good, bad⟩ | ⟨v, TT, rfl, o, ne, go⟩
    case inr =>
      refine ⟨_, rfl, v, .ty "str", .type TT, _, _, rfl, .ty "str", ty_oth o, kit_str TT o.mem, _, rfl, ?_⟩
      rw [beq_false_of_ne ne]
      exact iteT (rd_gv (te := tVar 0) (fun Qv q => ⟨_, rfl, q⟩) fun d H' s _ r => go d H' s r)
    refine ⟨_, rfl, .str z, .ty "str", .type "str", _, true, rfl, .ty "str", ty_oth (.str z), kit_ty (by decide +kernel), _, rfl, iteF ?_⟩
    refine ⟨_, rfl, ⟨_, rfl⟩, z, slash, rfl, rfl, by decide, Nat.le_trans hz.len (by decide), fun t ht => ⟨t, _, rfl, SqT.of upd_same, rfl, _, _, rfl, _, _, rfl, _, _, rfl, rfl, ?_⟩⟩
    have s1 := same_new (o := .tup [.str (Txt.partition z slash).1, .str (Txt.partition z slash).2.1, .str (Txt.partition z slash).2.2]) ht
    show tSeq _ _ _ _ (upd H t (.tup [.str (Txt.partition z slash).1, .str (Txt.partition z slash).2.1, .str (Txt.partition z slash).2.2]))
    generalize upd H t (.tup [.str (Txt.partition z slash).1, .str (Txt.partition z slash).2.1, .str (Txt.partition z slash).2.2]) = H1 at s1 ⊢
    by_cases hs : (rSl z).length = 0
    · have e : ("1" : Str) = rBot z := by
        unfold rBot
        rw [if_pos hs]
      have k0 : (((rSl z).length : Int) != 0) = false := by rw [hs]; rfl
      refine ⟨_, rfl, false, ⟨hz.lenS, k0.symm⟩, iteT ?_⟩
      show tSeq _ _ _ (List.set _ 3 (some (.str "1"))) _
      rw [e]
      have raise : ∀ {σ : L2.St} {H' : Hp}, σ[0]? = some (some (.str z)) → Same H H' → Bad z → tGv B (tVar 0) σ H' E := fun h0 s b => rd_gv (fun Qv q => ⟨_, h0, q⟩) fun d H2 s2 _ r => bad b d H2 (s.trans s2) r
      refine ⟨_, rfl, ⟨_, rfl⟩, rTop z, minus, rfl, rfl, Nat.le_trans hz.len1 (by decide), Txt.removeprefix (rTop z) minus, rfl, _, rfl, ?_⟩
      by_cases d1 : dig (Txt.removeprefix (rTop z) minus) = true
      · rw [show (Txt.isascii (Txt.removeprefix (rTop z) minus) && Txt.isdigit (Txt.removeprefix (rTop z) minus)) = true from d1]
        refine iteF ⟨_, rfl, rBot z, rfl, _, rfl, ?_⟩
        by_cases d2 : dig (rBot z) = true
        · rw [show (Txt.isascii (rBot z) && Txt.isdigit (rBot z)) = true from d2]
          obtain ⟨m, hm, sm⟩ := hz.top d1
          obtain ⟨e, he, se⟩ := hz.bot d2
          refine iteF ⟨_, rfl, rBot z, e, rfl, he, Nat.le_trans hz.len2 (by decide), (by trivial), _, rfl, ?_⟩
          by_cases e0 : e = 0
          · subst e0
            exact iteT (raise rfl s1 (.inr (.inr (.inl he))))
          · rw [show decide (V.int e = V.int 0) = false from decide_eq_false fun q => e0 (V.int.inj q)]
            refine iteF ⟨_, rfl, rTop z, m, rfl, hm, Nat.le_trans hz.len1 (by decide), _, rfl, rBot z, e, rfl, he, Nat.le_trans hz.len2 (by decide), ?_⟩
            intro p dx hp hdx ne
            refine rd_at hp hdx ne rfl e0 (sm_lg se) fun H2 n d s2 r nm => ⟨rfl, ?_⟩
            obtain ⟨dy, hy⟩ := r
            refine ⟨_, rfl, p, dy, _, rfl, hy, rfl, p, n, d, rfl, ⟨dy, hy⟩, Nat.lt_of_le_of_lt nm.2.2.2.1 sm, Nat.lt_of_le_of_lt nm.2.2.2.2 se, _, rfl, (by trivial), _, rfl, ?_⟩
            by_cases tx : textOf n d = z
            · rw [show (!decide (V.str (textOf n d) = V.str z)) = false from by rw [tx, decide_eq_true rfl]; rfl]
              exact iteF ⟨_, rfl, good m e n d p H2 d1 d2 hm he e0 nm tx (s1.trans s2) ⟨dy, hy⟩⟩
            · rw [show (!decide (V.str (textOf n d) = V.str z)) = true from by rw [decide_eq_false fun q => tx (V.str.inj q)]; rfl]
              exact iteT (raise rfl (s1.trans s2) (.inr (.inr (.inr ⟨m, e, n, d, hm, he, e0, nm, tx⟩))))
        · rw [Bool.not_eq_true] at d2
          rw [show (Txt.isascii (rBot z) && Txt.isdigit (rBot z)) = false from d2]
          exact iteT (raise rfl s1 (.inr (.inl d2)))
      · rw [Bool.not_eq_true] at d1
        rw [show (Txt.isascii (Txt.removeprefix (rTop z) minus) && Txt.isdigit (Txt.removeprefix (rTop z) minus)) = false from d1]
        exact iteT (raise rfl s1 (.inl d1))
    · have e : (Txt.partition z slash).2.2 = rBot z := by
        unfold rBot
        rw [if_neg hs]
      have k0 : (((rSl z).length : Int) != 0) = true := by rw [bne_iff_ne]; omega
      refine ⟨_, rfl, true, ⟨hz.lenS, k0.symm⟩, iteF ?_⟩
      rw [e]
      have raise : ∀ {σ : L2.St} {H' : Hp}, σ[0]? = some (some (.str z)) → Same H H' → Bad z → tGv B (tVar 0) σ H' E := fun h0 s b => rd_gv (fun Qv q => ⟨_, h0, q⟩) fun d H2 s2 _ r => bad b d H2 (s.trans s2) r
      refine ⟨_, rfl, ⟨_, rfl⟩, rTop z, minus, rfl, rfl, Nat.le_trans hz.len1 (by decide), Txt.removeprefix (rTop z) minus, rfl, _, rfl, ?_⟩
      by_cases d1 : dig (Txt.removeprefix (rTop z) minus) = true
      · rw [show (Txt.isascii (Txt.removeprefix (rTop z) minus) && Txt.isdigit (Txt.removeprefix (rTop z) minus)) = true from d1]
        refine iteF ⟨_, rfl, rBot z, rfl, _, rfl, ?_⟩
        by_cases d2 : dig (rBot z) = true
        · rw [show (Txt.isascii (rBot z) && Txt.isdigit (rBot z)) = true from d2]
          obtain ⟨m, hm, sm⟩ := hz.top d1
          obtain ⟨e, he, se⟩ := hz.bot d2
          refine iteF ⟨_, rfl, rBot z, e, rfl, he, Nat.le_trans hz.len2 (by decide), (by trivial), _, rfl, ?_⟩
          by_cases e0 : e = 0
          · subst e0
            exact iteT (raise rfl s1 (.inr (.inr (.inl he))))
          · rw [show decide (V.int e = V.int 0) = false from decide_eq_false fun q => e0 (V.int.inj q)]
            refine iteF ⟨_, rfl, rTop z, m, rfl, hm, Nat.le_trans hz.len1 (by decide), _, rfl, rBot z, e, rfl, he, Nat.le_trans hz.len2 (by decide), ?_⟩
            intro p dx hp hdx ne
            refine rd_at hp hdx ne rfl e0 (sm_lg se) fun H2 n d s2 r nm => ⟨rfl, ?_⟩
            obtain ⟨dy, hy⟩ := r
            refine ⟨_, rfl, p, dy, _, rfl, hy, rfl, p, n, d, rfl, ⟨dy, hy⟩, Nat.lt_of_le_of_lt nm.2.2.2.1 sm, Nat.lt_of_le_of_lt nm.2.2.2.2 se, _, rfl, (by trivial), _, rfl, ?_⟩
            by_cases tx : textOf n d = z
            · rw [show (!decide (V.str (textOf n d) = V.str z)) = false from by rw [tx, decide_eq_true rfl]; rfl]
              exact iteF ⟨_, rfl, good m e n d p H2 d1 d2 hm he e0 nm tx (s1.trans s2) ⟨dy, hy⟩⟩
            · rw [show (!decide (V.str (textOf n d) = V.str z)) = true from by rw [decide_eq_false fun q => tx (V.str.inj q)]; rfl]
              exact iteT (raise rfl (s1.trans s2) (.inr (.inr (.inr ⟨m, e, n, d, hm, he, e0, nm, tx⟩))))
        · rw [Bool.not_eq_true] at d2
          rw [show (Txt.isascii (rBot z) && Txt.isdigit (rBot z)) = false from d2]
          exact iteT (raise rfl s1 (.inr (.inl d2)))
      · rw [Bool.not_eq_true] at d1
        rw [show (Txt.isascii (Txt.removeprefix (rTop z) minus) && Txt.isdigit (Txt.removeprefix (rTop z) minus)) = false from d1]
        exact iteT (raise rfl s1 (.inl d1))
end
end K03

set_option Elab.async false
set_option linter.all false
set_option maxRecDepth 100000
set_option maxHeartbeats 4000000
set_option exponentiation.threshold 3000
/-! The law over texts of Ratios: _law_plain. -/
namespace K03
open PySem PySem.Spec PyProof.Rows L2 Vx Vr NumText
open TL (tl)
open T3 (slash textOf minus Plain)
theorem same_upd {H G : Hp} {b : Addr} {o : HO} (s : Same H G) (n : H b = none) : Same H (upd G b o) := fun q o' e => by
  rw [upd_ne (ne_of_none e n)]
  exact s q o' e
def Asc (z : Str) : Prop := ∀ c ∈ tl z, c < 128
theorem strOk_of {z : Str} (h : Asc z) : PyData.strOk z = true := by
  unfold PyData.strOk
  rw [← Array.all_toList, List.all_eq_true]
  intro c hc
  have := h c hc
  exact decide_eq_true (by omega)
theorem canLay_strs : ∀ ys : List Str, (∀ y ∈ ys, Asc y) → PyData.canLayAll0 (ys.map PyData.str) = true
  | [], _ => by simp [PyData.canLayAll0]
  | y :: ys, h => by
    have h1 := strOk_of (h y (List.mem_cons_self ..))
    have h2 := canLay_strs ys fun z hz => h z (List.mem_cons_of_mem _ hz)
    simp [PyData.canLayAll0, PyData.canLay0, h1, h2]
theorem depth_strs : ∀ ys : List Str, PyData.depthAll (ys.map PyData.str) = 0
  | [] => by simp [PyData.depthAll]
  | y :: ys => by
    have := depth_strs ys
    simp [PyData.depthAll, PyData.depth, this]
theorem shaped_strs (ys : List Str) (h : ∀ y ∈ ys, Asc y) : SeqAt.shaped (.list (ys.map PyData.str)) = true := by
  have := depth_strs ys
  unfold SeqAt.shaped
  simp [PyData.canLay0, canLay_strs ys h, PyData.depth, this]
theorem dp_strs {K : PySem.W.Frag} {H : Hp} : ∀ ys : List Str, DpAll K H (ys.map V.str) (ys.map PyData.str)
  | [] => .nil
  | y :: ys => .cons (.str y) (dp_strs ys)
theorem eqv_strs_nil (ys : List Str) : PyData.eqv (.list (ys.map PyData.str)) (.list []) = ys.isEmpty := by
  cases ys with
  | nil => simp [PyData.eqv, PyData.eqvAll]
  | cons y ys => simp [PyData.eqv, PyData.eqvAll]
theorem figs (c : Nat) : c ∈ tl (Str.ofString "0123456789") ↔ 48 ≤ c ∧ c ≤ 57 := by
  have e : tl (Str.ofString "0123456789") = [48, 49, 50, 51, 52, 53, 54, 55, 56, 57] := by decide
  rw [e]
  simp only [List.mem_cons, List.not_mem_nil, or_false]
  omega
def spPlain : Sp := fun vs H Q _ => ∃ z : Str, vs = [.str z] ∧ z.length ≤ 400 ∧ Asc z ∧ ∀ H', Same H H' → Q (.bl (decide (Plain (tl z)))) H'
abbrev NPlain : List Str := ["_law_word", "_law_sign"]
section
variable {P : Program} {w : World} {K : PySem.W.Frag} {mg : Str → Option Value} {base : Heap}
theorem scPlain : FnScope NPlain ["_law_word"] (defScope (top 29)) := ⟨rfl, rfl, rfl, by decide +kernel, rfl, by decide +kernel, by decide +kernel⟩
theorem ok_plain {f : Addr} {fd : FuncData} (F : L2.Fun K "_law_plain" "_law_plain" (top 29) f fd) : FnOk P w K mg base CX0 1 f fd ["_law_word"] spPlain := by
  refine F.ok scPlain (fun vs H Q E h => ?_) (fun cdv A outer s H vs Q E hr h => ?_)
  · obtain ⟨z, rfl, _⟩ := h
    rfl
  · obtain ⟨z, rfl, hl, ha, go⟩ := h
    refine ⟨_, pss_cons (ps_if (PW.pt (pw_or (pt_cmpR op_eq (pv 0) pe_str (nomark _))
        (pw_or1 (pt_cmpR (op_neD hr.units) (pe_lc (own := [("_law_sign", 1)]) (g := gName 1) (tt := tTest (tOp (fun x y H Q => ∃ (c : Nat) (z : Str), x = .str ⟨#[c]⟩ ∧ y = .str z ∧ Q (.bl (!decide (c ∈ z.cps.toList))) H) (tVar 1) (tC (.str "0123456789")))) rfl scPlain.nd (pi_str (pv 0)) (blkOk_by (N := NPlain) (sc := defScope (top 29)) (by decide +kernel))
          (fun _ _ _ _ _ => pg_name (i := 1) scPlain.nd rfl (Or.inl rfl)) (fun _ _ _ _ _ => pts_one (pt_cmpR op_notIn_sign (pv 1) pe_str rfl)) (fun _ _ _ _ _ => pv 1)) (pe_lst pa_nil) (nomark _)))))
        (pss_one (ps_ret pe_bl)) pss_nil)
      (pss_one (ps_ret (pe_or (pe_cmpR op_eq (pv 0) pe_str (nomark _)) (pe_one (pe_cmpR op_ne (pe_item_str (pv 0) pe_int (fun _ _ => rfl)) pe_str (nomark _)))))), ?_⟩
    refine ⟨_, rfl, rfl, _, rfl, ?_⟩
    by_cases e0 : z = Str.ofString ""
    · subst e0
      have : decide (Plain (tl (Str.ofString ""))) = false := by decide
      rw [this] at go
      exact iteT (iteT (go H (Same.refl _)))
    · rw [show decide (V.str z = V.str (Str.ofString "")) = false from decide_eq_false fun q => e0 (V.str.inj q)]
      refine iteF ?_
      have ne : tl z ≠ [] := fun q => e0 (TL.ext_tl (by rw [q]; rfl))
      have hz : z.cps.size = (tl z).length := by simp [tl]
      refine ⟨_, rfl, z, rfl, fun D hD => lc_it walk_str (fun i H1 => ∃ ys : List Str, H1 D = some (.lst (ys.map V.str)) ∧ ys.length ≤ i ∧ i ≤ z.cps.size ∧ Same H H1 ∧ (∀ y ∈ ys, Asc y) ∧ (ys = [] ↔ ∀ c ∈ (tl z).take i, 48 ≤ c ∧ c ≤ 57))
        ⟨[], upd_same, Nat.le_refl _, Nat.zero_le _, same_new hD, by simp, by simp⟩ (fun _ _ _ _ => trivial) ?_ ?_⟩
      · rintro i x H1 H2 hi ⟨ys, h1, h2, h3, h4, h5, h6⟩ ⟨rfl, c, hc, rfl⟩
        have hc' : (tl z)[i]? = some c := by
          show z.cps.toList[i]? = _
          rw [Array.getElem?_toList]
          exact hc
        have hm : c ∈ tl z := List.mem_of_getElem? hc'
        have tk : (tl z).take (i + 1) = (tl z).take i ++ [c] := by
          rw [List.take_add_one, hc']
          rfl
        refine ⟨rfl, _, rfl, c, _, rfl, rfl, _, rfl, ?_⟩
        by_cases cf : 48 ≤ c ∧ c ≤ 57
        · rw [show (!decide (c ∈ (Str.ofString "0123456789").cps.toList)) = false from by rw [decide_eq_true ((figs c).mpr cf)]; rfl]
          refine iteF ⟨ys, h1, by omega, by omega, h4, h5, h6.trans ?_⟩
          rw [tk]
          constructor
          · intro q d hd
            rcases List.mem_append.mp hd with hd | hd
            · exact q d hd
            · rw [List.mem_singleton.mp hd]
              exact cf
          · exact fun q d hd => q d (List.mem_append_left _ hd)
        · rw [show (!decide (c ∈ (Str.ofString "0123456789").cps.toList)) = true from by rw [decide_eq_false (fun q => cf ((figs c).mp q))]; rfl]
          refine iteT ⟨_, rfl, ys.map V.str, h1, ?_, ys ++ [⟨#[c]⟩], ?_, ?_, by omega, same_upd h4 hD, ?_, ?_⟩
          · rw [List.length_map]
            have : (400 : Nat) < sizeLine := by decide
            have := hl
            rw [TL.len_tl] at this
            omega
          · rw [List.map_append]
            exact upd_same
          · rw [List.length_append]
            simp
            omega
          · intro y hy
            rcases List.mem_append.mp hy with hy | hy
            · exact h5 y hy
            · rw [List.mem_singleton.mp hy]
              intro d hd
              have : d = c := by simpa using hd
              rw [this]
              exact ha c hm
          · refine ⟨fun q => absurd q (by simp), fun q => absurd (q c ?_) cf⟩
            rw [tk]
            exact List.mem_append_right _ (List.mem_singleton.mpr rfl)
      · rintro H1 ⟨ys, h1, h2, h3, h4, h5, h6⟩
        rw [hz, List.take_length] at h6
        refine ⟨by show 0 ≤ sizeLine; exact Nat.zero_le _, fun l hl2 => ?_⟩
        have nD : D ≠ l := ne_of_none h1 hl2
        refine ⟨_, _, .lst (SqL.of ((upd_ne nD).trans h1)) (dp_strs ys), .lst (SqL.of upd_same) .nil, shaped_strs ys h5, shaped_strs [] (by simp), _, rfl, ?_⟩
        show if (!PyData.eqv _ _) = true then _ else _
        rw [eqv_strs_nil]
        have S1 := h4.trans (same_new (o := .lst []) hl2)
        by_cases ey : ys = []
        · have all := h6.mp ey
          subst ey
          refine iteF ?_
          refine ⟨_, rfl, rfl, _, rfl, ?_⟩
          by_cases e1 : z = Str.ofString "0"
          · subst e1
            rw [show decide (Plain (tl (Str.ofString "0"))) = true from by decide] at go
            exact iteT (go _ S1)
          · rw [show decide (V.str z = V.str (Str.ofString "0")) = false from decide_eq_false fun q => e1 (V.str.inj q)]
            refine iteF ?_
            cases k : tl z with
            | nil => exact absurd k ne
            | cons c r =>
              have hc : z.cps[(0 : Int).toNat]? = some c := by
                show z.cps[0]? = _
                rw [← Array.getElem?_toList]
                show (tl z)[0]? = _
                rw [k]
                rfl
              refine ⟨_, rfl, z, 0, c, rfl, rfl, by decide, by decide, ?_, hc, rfl, ?_⟩
              · rw [TL.len_tl, k]
                simp
              · have e2 : (!decide (V.str (⟨#[c]⟩ : Str) = V.str (Str.ofString "0"))) = decide (Plain (tl z)) := by
                  have n48 : tl z ≠ [48] := fun q => e1 (TL.ext_tl (by rw [q]; rfl))
                  rw [k] at n48 all
                  rw [k]
                  by_cases c48 : c = 48
                  · subst c48
                    have : ¬ Plain (48 :: r) := fun q => by
                      rcases q.2.2 with q | q
                      · exact n48 q
                      · exact q rfl
                    rw [decide_eq_false this]
                    rw [show decide (V.str (⟨#[48]⟩ : Str) = V.str (Str.ofString "0")) = true from by decide]
                    rfl
                  · have p : Plain (c :: r) := ⟨all, by simp, .inr (by simpa using c48)⟩
                    rw [decide_eq_true p]
                    rw [show decide (V.str (⟨#[c]⟩ : Str) = V.str (Str.ofString "0")) = false from decide_eq_false fun q => c48 (by
                      have := congrArg tl (V.str.inj q)
                      have e3 : tl (Str.ofString "0") = [48] := by decide
                      rw [e3] at this
                      exact (List.cons.inj (show [c] = [48] from this)).1)]
                    rfl
                rw [e2]
                exact go _ S1
        · have : ys.isEmpty = false := by
            cases ys with
            | nil => exact absurd rfl ey
            | cons _ _ => rfl
          rw [this]
          have np : ¬ Plain (tl z) := fun q => ey (h6.mpr q.1)
          rw [decide_eq_false np] at go
          exact iteT (go _ S1)
end
end K03

set_option Elab.async false
set_option linter.all false
set_option maxRecDepth 100000
set_option maxHeartbeats 8000000
set_option exponentiation.threshold 3000
/-! The law over texts of Ratios: _law_due. -/
namespace K03
open PySem PySem.Spec PyProof.Rows L2 Vx Vr NumText
open TL (tl spl)
open T3 (slash textOf minus Plain IsT rest)
def spDue (K : PySem.W.Frag) : Sp := fun vs H Q _ => (∃ z, vs = [.str z] ∧ z.length ≤ 300 ∧ Asc z ∧ (∀ H', Same H H' → (∀ n d, ¬ IsT z n d) → Q .non H') ∧ ∀ t n d H', Same H H' → IsT z n d → H' t = some (.tup [.int n, .int d]) → Q (.ref t) H') ∨
  ∃ v T, vs = [v] ∧ Oth K H v T ∧ T ≠ "str" ∧ Q .non H
abbrev NDue : List Str := ["_law_text", "_law_minus", "_law_words", "_law_numbers", "_law_word"]
def wordV (w : Str) : V := .int ((digitsVal (tl w) : Nat) : Int)
theorem asc_of {z w : Str} (h : Asc z) (hw : ∀ c ∈ tl w, c ∈ tl z) : Asc w := fun c hc => h c (hw c hc)
theorem norm_self {a b : Nat} (hb : 0 < b) (g : Nat.gcd a b = 1) : Norm (a : Int) (b : Int) (a : Int) (b : Int) := ⟨rfl, by omega, by simpa using g, Nat.le_refl _, Nat.le_refl _⟩
section
variable {P : Program} {w : World} {K : PySem.W.Frag} {mg : Str → Option Value} {base : Heap}
theorem scDue : FnScope NDue ["_law_text"] (defScope (top 30)) := ⟨rfl, rfl, rfl, by decide +kernel, rfl, by decide +kernel, by decide +kernel⟩
theorem ok_due {f : Addr} {fd : FuncData} (F : L2.Fun K "_law_due" "_law_due" (top 30) f fd) (T : Bt mg) (PL : Cal P w K mg base "_law_plain" 1 ["_law_word"] spPlain) (LW : Cal P w K mg base "_law_low" 1 ["_law_top", "_law_bottom"] spLow) :
    FnOk P w K mg base CX0 2 f fd ["_law_text"] (spDue K) := by
  refine F.ok scDue (fun vs H Q E h => ?_) (fun cdv A outer s H vs Q E hr h => ?_)
  · rcases h with ⟨z, rfl, _⟩ | ⟨v, T, rfl, _⟩ <;> rfl
  · have h1 := hr.mono (show 1 ≤ 1 by decide)
    refine ⟨_, pss_cons (ps_if (pt_not (pt_val (pe_callB call_isi (by rfl) T.isi (by decide +kernel) (pa_cons (pv 0) (pa_cons (pe_bltn (v := .ty "str") (by rfl) T.str (by decide +kernel) rfl) pa_nil))))) (pss_one (ps_ret pe_non)) pss_nil)
      (pss_cons (ps_set (i := 1) scDue.nd rfl (.inl rfl) (pe_cmpR op_eq (pe_slice C8.sl_txt (pv 0) po_none (po_some pe_int)) pe_str (nomark _)))
      (pss_cons (ps_set (i := 2) scDue.nd rfl (.inl rfl) (pe_split (pe_slice C8.sl_txt (pv 0) (po_some (pe_callTy call_int1 (by rfl) T.int (by decide +kernel) (pa_cons (pv 1) pa_nil))) po_none) pe_str))
      (pss_cons (ps_if (PW.pt (pw_or (pt_cmpR op_gt (pe_callB call_len_seq (by rfl) T.len PySem.boot_len (pa_cons (pv 2) pa_nil)) pe_int (nomark _))
          (pw_or1 (pt_cmpR (op_neD hr.units) (pe_lc (own := [("_law_word", 4)]) (g := gName 4) (tt := tNot (tB (tCall spPlain [] E0 (tCons (tVar 4) tNil)))) rfl scDue.nd (pi_list (pv 2)) (blkOk_by (N := NDue) (sc := defScope (top 30)) (by decide +kernel))
            (fun _ _ _ _ _ => pg_name (i := 4) scDue.nd rfl (Or.inl rfl)) (fun _ _ _ _ _ => pts_one (pt_not (pt_val (pe_cal PL h1 (pa_cons (pv 4) pa_nil))))) (fun _ _ _ _ _ => pv 4)) (pe_lst pa_nil) (nomark _)))))
          (pss_one (ps_ret pe_non)) pss_nil)
      (pss_cons (ps_setLc (i := 3) (own := [("_law_word", 4)]) (g := gName 4) (tt := tYes) rfl scDue.nd rfl rfl (sw_true rfl rfl rfl (by decide +kernel)) (pi_list (pv 2)) (blkOk_by (N := NDue) (sc := defScope (top 30)) (by decide +kernel))
            (fun _ _ _ _ _ => pg_name (i := 4) scDue.nd rfl (Or.inl rfl)) (fun _ _ _ _ _ => pts_nil) (fun _ _ _ _ _ => pe_callTy call_int_str (by rfl) T.int (by decide +kernel) (pa_cons (pv 4) pa_nil)))
      (pss_cons (ps_if (PW.pt (pw_and (pt_val (pv 1)) (pw_and1 (pt_cmpR op_eq (pe_ix ix_list (pv 3) pe_int (fun _ _ => rfl)) pe_int (nomark _))))) (pss_one (ps_ret pe_non)) pss_nil)
      (pss_cons (ps_if (pt_cmpR op_eq (pe_callB call_len_seq (by rfl) T.len PySem.boot_len (pa_cons (pv 2) pa_nil)) pe_int (nomark _))
          (pss_one (ps_ret (pe_tup (pa_cons (pe_op op_mulW (pe_ix ix_list (pv 3) pe_int (fun _ _ => rfl)) (pe_op op_sub pe_int (pe_op op_mul pe_int (pe_callTy call_int1 (by rfl) T.int (by decide +kernel) (pa_cons (pv 1) pa_nil))))) (pa_cons pe_int pa_nil))))) pss_nil)
      (pss_cons (ps_if (PW.pt (pw_or (pt_cmpR op_lt (pe_ix ix_list (pv 3) pe_int (fun _ _ => rfl)) pe_int (nomark _))
          (pw_or1 (pt_cmpR (op_neD hr.units) (pe_cal LW h1 (pa_cons (pe_ix ix_list (pv 3) pe_int (fun _ _ => rfl)) (pa_cons (pe_ix ix_list (pv 3) pe_int (fun _ _ => rfl)) pa_nil))) (pe_tup (pa_cons (pe_ix ix_list (pv 3) pe_int (fun _ _ => rfl)) (pa_cons (pe_ix ix_list (pv 3) pe_int (fun _ _ => rfl)) pa_nil))) (nomark _)))))
          (pss_one (ps_ret pe_non)) pss_nil)
      (pss_one (ps_ret (pe_tup (pa_cons (pe_op op_mulW (pe_ix ix_list (pv 3) pe_int (fun _ _ => rfl)) (pe_op op_sub pe_int (pe_op op_mul pe_int (pe_callTy call_int1 (by rfl) T.int (by decide +kernel) (pa_cons (pv 1) pa_nil))))) (pa_cons (pe_ix ix_list (pv 3) pe_int (fun _ _ => rfl)) pa_nil)))))))))))), ?_⟩
    rcases h with ⟨z, rfl, hl, ha, no, yes⟩ | ⟨v, TT, rfl, o, ne, go⟩
    case inr =>
      refine ⟨_, rfl, v, .ty "str", .type TT, _, _, rfl, .ty "str", ty_oth o, kit_str TT o.mem, _, rfl, ?_⟩
      rw [beq_false_of_ne ne]
      exact iteT go
    have zl : (300 : Nat) + 2 ≤ sizeLine := by decide
    have zS : z = SX.S (tl z) := (SX.S_tl z).symm
    refine ⟨_, rfl, .str z, .ty "str", .type "str", _, true, rfl, .ty "str", ty_oth (.str z), kit_ty (by decide +kernel), _, rfl, iteF ?_⟩
    refine ⟨_, rfl, _, rfl, z, rfl, by omega, rfl, ?_⟩
    have sl1 : Txt.slice z none (some 1) = SX.S ((tl z).take 1) := by
      conv => lhs; rw [zS]
      exact SX.slice_to (by decide)
    rw [sl1]
    have hmb : decide (V.str (SX.S ((tl z).take 1)) = V.str (Str.ofString "-")) = decide ((tl z).take 1 = [45]) := by
      have e45 : (Str.ofString "-") = SX.S [45] := by decide
      rw [e45]
      by_cases c : (tl z).take 1 = [45]
      · rw [decide_eq_true c, c]
        exact decide_eq_true rfl
      · rw [decide_eq_false c]
        exact decide_eq_false fun q => c (SX.S_inj (V.str.inj q))
    rw [hmb]
    generalize hmd : decide ((tl z).take 1 = [45]) = mb
    have body : Txt.slice z (some (if mb = true then 1 else 0)) none = SX.S (rest z) := by
      conv => lhs; rw [zS]
      unfold T3.rest
      by_cases c : (tl z).take 1 = [45]
      · rw [decide_eq_true c] at hmd
        subst hmd
        rw [if_pos rfl, if_pos c]
        exact SX.slice_from (by decide)
      · rw [decide_eq_false c] at hmd
        subst hmd
        rw [if_neg (by decide), if_neg c]
        exact SX.slice_from (by decide)
    refine ⟨_, rfl, _, rfl, .inr ⟨mb, rfl, _, rfl, z, rfl, by omega, ?_⟩⟩
    rw [body]
    obtain ⟨rl, rm⟩ := T3.rest_len z
    have zl2 : (tl z).length ≤ 300 := by rw [← TL.len_tl]; exact hl
    refine ⟨⟨_, rfl⟩, SX.S (rest z), slash, rfl, rfl, by decide, (by rw [SX.S_len]; omega), fun W hW => ?_⟩
    generalize hws : Txt.split (SX.S (rest z)) slash = ws
    have ews : ws.map tl = spl [47] 0 [] (rest z) := by
      rw [← hws, TL.split_spl _ _ (by rw [T3.tl_slash]; simp) (TL.kind_ok (by decide +kernel)), T3.tl_slash]
    have parts : ∀ w ∈ ws, w.length ≤ 300 ∧ Asc w := fun x hx => by
      have hx' : tl x ∈ spl [47] 0 [] (rest z) := by
        rw [← ews]
        exact List.mem_map_of_mem hx
      obtain ⟨a, b⟩ := (T3.spl_parts (rest z) []).2 _ hx'
      refine ⟨by rw [TL.len_tl]; have a' : (tl x).length ≤ 0 + (T3.rest z).length := a; omega, asc_of ha fun c hc => ?_⟩
      rcases b c hc with q | q
      · cases q
      · exact rm c q
    have wl : ws.length ≤ 301 := by
      have := (T3.spl_parts (rest z) []).1
      rw [← ews, List.length_map] at this
      omega
    have wne : ws ≠ [] := fun q => (T3.joinL_spl (rest z) []).2 (by rw [← ews, q]; rfl)
    have S1 := same_new (o := .lst (ws.map V.str)) hW
    have at1 := upd_same (H := H) (a := W) (o := .lst (ws.map V.str))
    show tSeq _ _ _ _ (upd H W (.lst (ws.map V.str)))
    generalize upd H W (.lst (ws.map V.str)) = H1 at S1 at1 ⊢
    refine ⟨_, rfl, W, _, rfl, .inl (SqL.of at1), _, _, rfl, rfl, _, rfl, ?_⟩
    by_cases many : 2 < ws.length
    · rw [show decide (((ws.map V.str).length : Int) > 2) = true from decide_eq_true (by rw [List.length_map]; omega)]
      refine iteT (iteT ?_)
      exact no _ S1 fun n d => T3.noT_many (by rw [← ews, List.length_map]; exact many)
    rw [show decide (((ws.map V.str).length : Int) > 2) = false from decide_eq_false (by rw [List.length_map]; omega)]
    refine iteF ⟨_, rfl, W, rfl, ⟨_, SqL.of at1⟩, fun D hD => ?_⟩
    refine lc_list (K := K) (a := W) (xs := ws.map V.str) (fun i H2 => ∃ ys : List Str, H2 D = some (.lst (ys.map V.str)) ∧ ys.length ≤ i ∧ Same H1 H2 ∧ (∀ y ∈ ys, Asc y) ∧ (ys = [] ↔ ∀ x ∈ ws.take i, Plain (tl x)))
      ⟨[], upd_same, Nat.le_refl _, same_new hD, by simp, by simp⟩ (fun i H2 _ ⟨ys, q1, q2, q3, q4⟩ => SqL.of (q3 _ _ at1)) ?_ ?_
    · rintro i x H2 hx ⟨ys, q1, q2, q3, q4, q5⟩
      rw [List.getElem?_map] at hx
      obtain ⟨y, hy, rfl⟩ := Option.map_eq_some_iff.mp hx
      have hm : y ∈ ws := List.mem_of_getElem? hy
      have hi : i < ws.length := (List.getElem?_eq_some_iff.mp hy).1
      obtain ⟨p1, p2⟩ := parts y hm
      have tk : ws.take (i + 1) = ws.take i ++ [y] := by
        rw [List.take_add_one, hy]
        rfl
      refine ⟨rfl, _, rfl, y, rfl, by omega, p2, fun H3 s3 => ⟨_, rfl, ?_⟩⟩
      by_cases pl : Plain (tl y)
      · rw [decide_eq_true pl]
        refine iteF ⟨ys, s3 _ _ q1, by omega, q3.trans s3, q4, q5.trans ?_⟩
        rw [tk]
        constructor
        · intro q d hd
          rcases List.mem_append.mp hd with hd | hd
          · exact q d hd
          · rw [List.mem_singleton.mp hd]
            exact pl
        · exact fun q d hd => q d (List.mem_append_left _ hd)
      · rw [decide_eq_false pl]
        refine iteT ⟨_, rfl, ys.map V.str, s3 _ _ q1, (by rw [List.length_map]; omega), ys ++ [y], ?_, ?_, same_upd (q3.trans s3) hD, ?_, ?_⟩
        · rw [List.map_append]
          exact upd_same
        · rw [List.length_append]
          simp
          omega
        · intro x hx
          rcases List.mem_append.mp hx with hx | hx
          · exact q4 x hx
          · rw [List.mem_singleton.mp hx]
            exact p2
        · refine ⟨fun q => absurd q (by simp), fun q => absurd (q y ?_) pl⟩
          rw [tk]
          exact List.mem_append_right _ (List.mem_singleton.mpr rfl)
    rintro H2 ⟨ys, q1, q2, q3, q4, q5⟩
    rw [List.length_map, List.take_length] at q5
    refine ⟨by show 0 ≤ sizeLine; exact Nat.zero_le _, fun l hl2 => ?_⟩
    have nD : D ≠ l := ne_of_none q1 hl2
    refine ⟨_, _, .lst (SqL.of ((upd_ne nD).trans q1)) (dp_strs ys), .lst (SqL.of upd_same) .nil, shaped_strs ys q4, shaped_strs [] (by simp), _, rfl, ?_⟩
    show if (!PyData.eqv _ _) = true then _ else _
    rw [eqv_strs_nil]
    have S2 := (S1.trans q3).trans (same_new (o := .lst []) hl2)
    have at2 := (q3.trans (same_new (o := .lst []) hl2)) _ _ at1
    by_cases ey : ys = []
    case neg =>
      have : ys.isEmpty = false := by
        cases ys with
        | nil => exact absurd rfl ey
        | cons _ _ => rfl
      rw [this]
      refine iteT (no _ S2 fun n d => T3.noT_plain fun all => ey (q5.mpr fun x hx => all (tl x) ?_))
      rw [← ews]
      exact List.mem_map_of_mem hx
    have all := q5.mp ey
    subst ey
    clear q5 q4 q3 q2
    refine iteF ?_
    show tSeq _ _ _ _ (upd H2 l (.lst []))
    generalize upd H2 l (.lst []) = H3 at S2 at2 ⊢
    refine ⟨_, rfl, W, rfl, ⟨_, SqL.of at2⟩, fun D2 hD2 => ?_⟩
    refine lc_list (K := K) (a := W) (xs := ws.map V.str) (fun i H4 => H4 D2 = some (.lst ((ws.take i).map wordV)) ∧ Same H3 H4)
      ⟨upd_same, same_new hD2⟩ (fun i H4 _ q => SqL.of (q.2 _ _ at2)) ?_ ?_
    · rintro i x H4 hx ⟨r1, r2⟩
      rw [List.getElem?_map] at hx
      obtain ⟨y, hy, rfl⟩ := Option.map_eq_some_iff.mp hx
      have hm : y ∈ ws := List.mem_of_getElem? hy
      obtain ⟨p1, p2⟩ := parts y hm
      have tk : ws.take (i + 1) = ws.take i ++ [y] := by
        rw [List.take_add_one, hy]
        rfl
      refine ⟨rfl, iteT (B := True) ?_⟩
      refine ⟨_, rfl, y, _, rfl, T3.int_plain (by omega) (all y hm), by omega, _, r1, ?_, ?_, same_upd r2 hD2⟩
      · rw [List.length_map, List.length_take]
        omega
      · rw [tk, List.map_append]
        exact upd_same
    rintro H4 ⟨r1, r2⟩
    rw [List.length_map, List.take_length] at r1
    have S4 := S2.trans r2
    have at4 := r2 _ _ at2
    clear S2 at2 S1 at1 r2 hD2 q1 nD hD hl2
    have mcase : ∀ v0 : Nat, v0 < 2 ^ 1000 → ∃ sg : Int, (v0 : Int) * (1 - 2 * (if mb = true then 1 else 0)) = sg ∧ sg = (v0 : Int) * (if (tl z).take 1 = [45] then -1 else 1) ∧ CMulW (v0 : Int) (1 - 2 * (if mb = true then 1 else 0)) := fun v0 hv => by
      refine ⟨_, rfl, ?_, ?_⟩
      · by_cases c : (tl z).take 1 = [45]
        · rw [decide_eq_true c] at hmd
          subst hmd
          rw [if_pos rfl, if_pos c]
          omega
        · rw [decide_eq_false c] at hmd
          subst hmd
          rw [if_neg (by decide), if_neg c]
          omega
      · refine wide_mul (a := 1000) (b := 1) (by simpa using hv) ?_ (by decide) (by decide) (by decide)
        cases mb <;> decide
    have mcond : mb = true ↔ (tl z).take 1 = [45] := by
      rw [← hmd]
      exact decide_eq_true_iff
    cases ws with
    | nil => exact absurd rfl wne
    | cons w0 wr =>
      have p0 := all w0 (List.mem_cons_self ..)
      obtain ⟨l0, _⟩ := parts w0 (List.mem_cons_self ..)
      have v0s := T3.small_plain (by rw [← TL.len_tl]; exact l0) p0
      have e0 := ews
      rw [List.map_cons] at e0
      obtain ⟨sg, es1, es2, es3⟩ := mcase _ v0s
      have first : ∀ (Y N : Prop), (mb = true → digitsVal (tl w0) = 0 → Y) → ((mb = true → digitsVal (tl w0) ≠ 0) → N) →
          (if mb = true then (if decide (V.int ((digitsVal (tl w0) : Nat) : Int) = V.int 0) = true then Y else N) else N) := fun Y N hY hN => by
        cases mb with
        | false => exact iteF (hN fun q => nomatch q)
        | true =>
          refine iteT (ite2 (fun c => hY rfl ?_) fun c => hN fun _ q => c (decide_eq_true (by rw [q]; rfl)))
          have := V.int.inj (of_decide_eq_true c)
          omega
      have zero : mb = true → digitsVal (tl w0) = 0 → ∀ n d, ¬ IsT z n d := fun q1 q2 n d => T3.noT_minus e0.symm (mcond.mp q1) q2
      cases wr with
      | nil =>
        have hw : spl [47] 0 [] (rest z) = [tl w0] := e0.symm
        refine ⟨_, rfl, mb, rfl, ?_⟩
        cases hmb2 : mb with
        | true =>
          subst hmb2
          refine iteT ⟨_, rfl, D2, _, 0, wordV w0, rfl, rfl, SqL.of r1, rfl, rfl, _, rfl, ?_⟩
          refine ite2 (fun c => ?_) (fun c => ?_)
          · have : digitsVal (tl w0) = 0 := by
              have := V.int.inj (of_decide_eq_true c)
              omega
            exact no _ S4 (zero rfl this)
          · have nz : digitsVal (tl w0) ≠ 0 := fun q => c (decide_eq_true (by show V.int _ = _; rw [q]; rfl))
            refine ⟨_, rfl, W, _, rfl, .inl (SqL.of at4), rfl, _, rfl, iteT ?_⟩
            refine ⟨_, rfl, D2, _, 0, wordV w0, rfl, rfl, SqL.of r1, rfl, _, rfl, .inr ⟨true, rfl, _, _, rfl, rfl, .inl ⟨by decide, by decide⟩, _, _, rfl, rfl, _, _, rfl, rfl, es3, (by show 2 ≤ sizeLine; decide), fun t ht => ?_⟩⟩
            refine yes t sg 1 _ (S4.trans (same_new ht)) ?_ (by rw [← es1]; exact upd_same)
            rw [es2]
            exact T3.isT_one hw p0 fun _ => nz
        | false =>
          subst hmb2
          refine iteF ⟨_, rfl, W, _, rfl, .inl (SqL.of at4), rfl, _, rfl, iteT ?_⟩
          refine ⟨_, rfl, D2, _, 0, wordV w0, rfl, rfl, SqL.of r1, rfl, _, rfl, .inr ⟨false, rfl, _, _, rfl, rfl, .inl ⟨by decide, by decide⟩, _, _, rfl, rfl, _, _, rfl, rfl, es3, (by show 2 ≤ sizeLine; decide), fun t ht => ?_⟩⟩
          refine yes t sg 1 _ (S4.trans (same_new ht)) ?_ (by rw [← es1]; exact upd_same)
          rw [es2]
          exact T3.isT_one hw p0 fun q => nomatch (mcond.mpr q)
      | cons w1 wr2 =>
        cases wr2 with
        | cons w2 wr3 => exact absurd (show 2 < (w0 :: w1 :: w2 :: wr3).length by simp) many
        | nil =>
          have hw : spl [47] 0 [] (rest z) = [tl w0, tl w1] := e0.symm
          have p1 := all w1 (by simp)
          obtain ⟨l1, _⟩ := parts w1 (by simp)
          have v1s := T3.small_plain (by rw [← TL.len_tl]; exact l1) p1
          have rest2 : (mb = true → digitsVal (tl w0) ≠ 0) → ∀ (R : Prop), R → R := fun _ _ r => r
          have fin : (mb = true → digitsVal (tl w0) ≠ 0) → 2 ≤ digitsVal (tl w1) → Nat.gcd (digitsVal (tl w0)) (digitsVal (tl w1)) = 1 → IsT z sg (digitsVal (tl w1)) := fun q a b => by
            rw [es2]
            exact T3.isT_two hw p0 p1 (fun c => q (mcond.mpr c)) a b
          refine ⟨_, rfl, mb, rfl, ?_⟩
          cases hmb2 : mb with
          | true =>
            subst hmb2
            refine iteT ⟨_, rfl, D2, _, 0, wordV w0, rfl, rfl, SqL.of r1, rfl, rfl, _, rfl, ?_⟩
            refine ite2 (fun c => ?_) (fun c => ?_)
            · have : digitsVal (tl w0) = 0 := by
                have := V.int.inj (of_decide_eq_true c)
                omega
              exact no _ S4 (zero rfl this)
            · have nz : digitsVal (tl w0) ≠ 0 := fun q => c (decide_eq_true (by show V.int _ = _; rw [q]; rfl))
              refine ⟨_, rfl, W, _, rfl, .inl (SqL.of at4), rfl, _, rfl, iteF ?_⟩
              refine ⟨_, rfl, D2, _, 1, wordV w1, rfl, rfl, SqL.of r1, rfl, _, _, rfl, rfl, _, rfl, ?_⟩
              refine ite2 (fun c2 => iteT ?_) (fun c2 => ?_)
              · exact no _ S4 fun n d => T3.noT_two hw (.inl (by have := of_decide_eq_true c2; omega))
              · have g2 : 2 ≤ digitsVal (tl w1) := by
                  have : ¬ ((digitsVal (tl w1) : Int) < 2) := fun q => c2 (decide_eq_true q)
                  omega
                refine ⟨_, rfl, D2, _, 0, wordV w0, rfl, rfl, SqL.of r1, rfl, _, rfl, D2, _, 1, wordV w1, rfl, rfl, SqL.of r1, rfl, _, _, rfl, by omega, sm_lg (show Sm _ from (by show Int.natAbs _ < _; rw [Int.natAbs_natCast]; exact v1s)), fun t n d nm ht => ?_⟩
                have s5 := same_new (o := .tup [.int n, .int d]) ht
                refine ⟨_, rfl, D2, _, 0, wordV w0, rfl, rfl, SqL.of (s5 _ _ r1), rfl, _, rfl, D2, _, 1, wordV w1, rfl, rfl, SqL.of (s5 _ _ r1), rfl, (by show 2 ≤ sizeLine; decide), fun t2 ht2 => ?_⟩
                have ntt : t ≠ t2 := fun q => by
                  rw [← q, upd_same] at ht2
                  cases ht2
                refine ⟨_, _, dp_pair ((upd_ne ntt).trans upd_same), dp_pair upd_same, shaped_pair _ _, shaped_pair _ _, _, rfl, ?_⟩
                show if (!PyData.eqv _ _) = true then _ else _
                rw [eqv_pair]
                have S6 := (S4.trans s5).trans (same_new (o := .tup [wordV w0, wordV w1]) ht2)
                have r6 := (same_new (o := .tup [wordV w0, wordV w1]) ht2) _ _ (s5 _ _ r1)
                by_cases g : Nat.gcd (digitsVal (tl w0)) (digitsVal (tl w1)) = 1
                · obtain ⟨a, b⟩ := norm_eq (by omega) nm (norm_self (by omega) g)
                  subst a b
                  rw [decide_eq_true rfl, decide_eq_true rfl]
                  refine iteF ?_
                  refine ⟨_, rfl, D2, _, 0, wordV w0, rfl, rfl, SqL.of r6, rfl, _, rfl, .inr ⟨true, rfl, _, _, rfl, rfl, .inl ⟨by decide, by decide⟩, _, _, rfl, rfl, _, _, rfl, rfl, es3, _, rfl, D2, _, 1, wordV w1, rfl, rfl, SqL.of r6, rfl, (by show 2 ≤ sizeLine; decide), fun t3 ht3 => ?_⟩⟩
                  exact yes t3 sg _ _ (S6.trans (same_new ht3)) (fin (fun _ => nz) g2 g) (by rw [← es1]; exact upd_same)
                · have : (decide (n = ((digitsVal (tl w0) : Nat) : Int)) && decide (d = ((digitsVal (tl w1) : Nat) : Int))) = false := by
                    rw [Bool.and_eq_false_iff]
                    by_cases a : n = ((digitsVal (tl w0) : Nat) : Int)
                    · right
                      refine decide_eq_false fun b => g ?_
                      have := nm.2.2.1
                      rw [a, b] at this
                      simpa using this
                    · left
                      exact decide_eq_false a
                  rw [this]
                  exact iteT (no _ S6 fun n d => T3.noT_two hw (.inr g))
          | false =>
            subst hmb2
            refine iteF ⟨_, rfl, W, _, rfl, .inl (SqL.of at4), rfl, _, rfl, iteF ?_⟩
            refine ⟨_, rfl, D2, _, 1, wordV w1, rfl, rfl, SqL.of r1, rfl, _, _, rfl, rfl, _, rfl, ?_⟩
            refine ite2 (fun c2 => iteT ?_) (fun c2 => ?_)
            · exact no _ S4 fun n d => T3.noT_two hw (.inl (by have := of_decide_eq_true c2; omega))
            · have g2 : 2 ≤ digitsVal (tl w1) := by
                have : ¬ ((digitsVal (tl w1) : Int) < 2) := fun q => c2 (decide_eq_true q)
                omega
              refine ⟨_, rfl, D2, _, 0, wordV w0, rfl, rfl, SqL.of r1, rfl, _, rfl, D2, _, 1, wordV w1, rfl, rfl, SqL.of r1, rfl, _, _, rfl, by omega, sm_lg (show Sm _ from (by show Int.natAbs _ < _; rw [Int.natAbs_natCast]; exact v1s)), fun t n d nm ht => ?_⟩
              have s5 := same_new (o := .tup [.int n, .int d]) ht
              refine ⟨_, rfl, D2, _, 0, wordV w0, rfl, rfl, SqL.of (s5 _ _ r1), rfl, _, rfl, D2, _, 1, wordV w1, rfl, rfl, SqL.of (s5 _ _ r1), rfl, (by show 2 ≤ sizeLine; decide), fun t2 ht2 => ?_⟩
              have ntt : t ≠ t2 := fun q => by
                rw [← q, upd_same] at ht2
                cases ht2
              refine ⟨_, _, dp_pair ((upd_ne ntt).trans upd_same), dp_pair upd_same, shaped_pair _ _, shaped_pair _ _, _, rfl, ?_⟩
              show if (!PyData.eqv _ _) = true then _ else _
              rw [eqv_pair]
              have S6 := (S4.trans s5).trans (same_new (o := .tup [wordV w0, wordV w1]) ht2)
              have r6 := (same_new (o := .tup [wordV w0, wordV w1]) ht2) _ _ (s5 _ _ r1)
              by_cases g : Nat.gcd (digitsVal (tl w0)) (digitsVal (tl w1)) = 1
              · obtain ⟨a, b⟩ := norm_eq (by omega) nm (norm_self (by omega) g)
                subst a b
                rw [decide_eq_true rfl, decide_eq_true rfl]
                refine iteF ?_
                refine ⟨_, rfl, D2, _, 0, wordV w0, rfl, rfl, SqL.of r6, rfl, _, rfl, .inr ⟨false, rfl, _, _, rfl, rfl, .inl ⟨by decide, by decide⟩, _, _, rfl, rfl, _, _, rfl, rfl, es3, _, rfl, D2, _, 1, wordV w1, rfl, rfl, SqL.of r6, rfl, (by show 2 ≤ sizeLine; decide), fun t3 ht3 => ?_⟩⟩
                exact yes t3 sg _ _ (S6.trans (same_new ht3)) (fin (fun q => nomatch q) g2 g) (by rw [← es1]; exact upd_same)
              · have : (decide (n = ((digitsVal (tl w0) : Nat) : Int)) && decide (d = ((digitsVal (tl w1) : Nat) : Int))) = false := by
                  rw [Bool.and_eq_false_iff]
                  by_cases a : n = ((digitsVal (tl w0) : Nat) : Int)
                  · right
                    refine decide_eq_false fun b => g ?_
                    have := nm.2.2.1
                    rw [a, b] at this
                    simpa using this
                  · left
                    exact decide_eq_false a
                rw [this]
                exact iteT (no _ S6 fun n d => T3.noT_two hw (.inr g))
end
end K03

set_option Elab.async false
set_option linter.all false
set_option maxRecDepth 100000
set_option maxHeartbeats 8000000
set_option exponentiation.threshold 3000
/-! The law over texts of Ratios: _law_near. -/
namespace K03
open PySem PySem.Spec PyProof.Rows L2 Vx Vr
open TL (tl)
open T3 (slash textOf minus)
theorem asc_app {a b : Str} (ha : Asc a) (hb : Asc b) : Asc (a ++ b) := fun c hc => by
  rw [TL.tl_append] at hc
  rcases List.mem_append.mp hc with h | h
  · exact ha c h
  · exact hb c h
theorem slice_to_asc {z : Str} {i : Int} (h0 : 0 ≤ i) (h : Asc z) : Asc (Txt.slice z none (some i)) ∧ (Txt.slice z none (some i)).length = min i.toNat z.length := by
  have e : Txt.slice z none (some i) = SX.S ((tl z).take i.toNat) := by
    conv => lhs; rw [← SX.S_tl z]
    exact SX.slice_to h0
  rw [e]
  refine ⟨fun c hc => h c (List.mem_of_mem_take (show c ∈ (tl z).take i.toNat by simpa [tl] using hc)), ?_⟩
  rw [SX.S_len, List.length_take, TL.len_tl]
theorem slice_from_asc {z : Str} {i : Int} (h0 : 0 ≤ i) (h : Asc z) : Asc (Txt.slice z (some i) none) ∧ (Txt.slice z (some i) none).length = z.length - i.toNat := by
  have e : Txt.slice z (some i) none = SX.S ((tl z).drop i.toNat) := by
    conv => lhs; rw [← SX.S_tl z]
    exact SX.slice_from h0
  rw [e]
  refine ⟨fun c hc => h c (List.mem_of_mem_drop (show c ∈ (tl z).drop i.toNat by simpa [tl] using hc)), ?_⟩
  rw [SX.S_len, List.length_drop, TL.len_tl]
theorem asc_one {c : Nat} (h : c < 128) : Asc (⟨#[c]⟩ : Str) := fun d hd => by
  have : d = c := by simpa [tl] using hd
  omega
def signs : Str := Str.ofString "0123456789/-+ .a,"
theorem signs_at : ∀ k : _root_.Fin 17, ∃ c : _root_.Fin 128, signs.cps[k.val]? = some c.val := by decide
theorem signs_len : signs.length = 17 := by decide
def spNear : Sp := fun vs H Q _ => ∃ (b : Addr) (t : Str) (x y z : Int), vs = [.ref b, .str t] ∧ H b = some (.lst [.int x, .int y, .int z]) ∧ 0 ≤ y ∧ y ≤ 2147483629 ∧ 0 ≤ z ∧ z ≤ 900000 ∧ t.length ≤ 200 ∧ Asc t ∧
  ∀ u x' z' H', z ≤ z' → z' ≤ z + 9 → Chg b H H' → H' b = some (.lst [.int x', .int y, .int z']) → u.length ≤ t.length + 2 → Asc u → Q (.str u) H'
abbrev NNear : List Str := ["_law_box_here", "_law_text", "_law_signs", "_law_turn", "_law_at", "_law_sign"]
section
variable {P : Program} {w : World} {K : PySem.W.Frag} {mg : Str → Option Value} {base : Heap}
theorem scNear : FnScope NNear ["_law_box_here", "_law_text"] (defScope (top 31)) := ⟨rfl, rfl, rfl, by decide +kernel, rfl, by decide +kernel, by decide +kernel⟩
theorem ok_near {f : Addr} {fd : FuncData} (F : L2.Fun K "_law_near" "_law_near" (top 31) f fd) (T : Bt mg) (TK : Cal P w K mg base "_law_take" 1 ["_law_box_here", "_law_many"] spTake) :
    FnOk P w K mg base CX0 2 f fd ["_law_box_here", "_law_text"] spNear := by
  refine F.ok scNear (fun vs H Q E h => ?_) (fun cdv A outer s H vs Q E hr h => ?_)
  · obtain ⟨b, t, x, y, z, rfl, _⟩ := h
    rfl
  · obtain ⟨b, t, x, y, z, rfl, hb, y0, y1, z0, z1, tlen, ta, go⟩ := h
    have h1 := hr.mono (show 1 ≤ 1 by decide)
    refine ⟨_, pss_cons (ps_set (i := 2) scNear.nd rfl (.inl rfl) pe_str)
      (pss_cons (ps_for PassesOwn.never rfl (pi_range1 rfl T.range (pa_cons (pe_op op_add pe_int (pe_cal TK h1 (pa_cons (pv 0) (pa_cons pe_int pa_nil)))) pa_nil)) (pg_name (i := 3) scNear.nd rfl (.inl rfl))
        (pss_cons (ps_set (i := 4) scNear.nd rfl (.inl rfl) (pe_cal TK h1 (pa_cons (pv 0) (pa_cons (pe_op op_add (pe_callB call_len_str (by rfl) T.len PySem.boot_len (pa_cons (pv 1) pa_nil)) pe_int) pa_nil))))
        (pss_cons (ps_set (i := 5) scNear.nd rfl (.inl rfl) (pe_item_str (pv 2) (pe_cal TK h1 (pa_cons (pv 0) (pa_cons pe_int pa_nil))) (fun _ _ => rfl)))
        (pss_one (ps_set (i := 1) scNear.nd rfl (.inl rfl) (pe_op op_add_str (pe_op op_add_str (pe_slice C8.sl_txt (pv 1) po_none (po_some (pv 4)))
            (pe_ix ix_list (pe_lst (pa_cons (pv 5) (pa_cons pe_str (pa_cons (pv 5) pa_nil)))) (pe_cal TK h1 (pa_cons (pv 0) (pa_cons pe_int pa_nil))) (fun _ _ => rfl)))
            (pe_slice C8.sl_txt (pv 1) (po_some (pe_op op_add (pv 4) (pe_cal TK h1 (pa_cons (pv 0) (pa_cons pe_int pa_nil))))) po_none)))))))
      (pss_one (ps_ret (pv 1)))), ?_⟩
    refine ⟨_, rfl, b, 2, x, y, z, rfl, hb, by decide, by decide, y0, y1, by omega, by omega, fun r x1 z2 r0 r1 za zb => ⟨_, _, rfl, rfl, ?_⟩⟩
    have c1 : Chg b H (upd H b (.lst [.int x1, .int y, .int z2])) := Chg.at_
    have b1 : upd H b (.lst [.int x1, .int y, .int z2]) b = some (.lst [.int x1, .int y, .int z2]) := upd_same
    refine ⟨_, rfl, by omega, by omega, for_range (fun i σ H2 => ∃ (u : Str) (v3 v4 v5 : Option V) (x' z' : Int), σ = [some (.ref b), some (.str u), some (.str signs), v3, v4, v5] ∧ Chg b H H2 ∧ H2 b = some (.lst [.int x', .int y, .int z']) ∧ z ≤ z' ∧ z' ≤ z + 1 + 4 * (i : Int) ∧ u.length ≤ t.length + i ∧ Asc u)
      ⟨t, _, _, _, x1, z2, rfl, c1, b1, za, by omega, by omega, ta⟩ ?_ ?_⟩
    · rintro i σ H2 hi ⟨u, v3, v4, v5, x', z', rfl, c2, b2, zc, zd, ul, ua⟩
      have i2 : i < 2 := by omega
      have sz : (1000 : Nat) ≤ sizeLine := by decide
      refine ⟨_, rfl, _, rfl, _, rfl, by omega, _, _, rfl, rfl, b, _, x', y, z', rfl, b2, by omega, ?_, y0, y1, by omega, by omega, fun at_ x3 z3 a0 a1 ze zf => ?_⟩
      · have : ((u.length : Int) + 1).natAbs < 2 ^ 100 := by
          have : (1000 : Nat) < 2 ^ 100 := by decide
          omega
        exact Nat.lt_of_lt_of_le (PySem.Flt.log2_lt_of (by decide) this) (by decide)
      have c3 : Chg b H (upd H2 b (.lst [.int x3, .int y, .int z3])) := c2.trans Chg.at_
      have b3 : upd H2 b (.lst [.int x3, .int y, .int z3]) b = some (.lst [.int x3, .int y, .int z3]) := upd_same
      show tSeq _ _ _ _ (upd H2 b (.lst [.int x3, .int y, .int z3]))
      generalize upd H2 b (.lst [.int x3, .int y, .int z3]) = H3 at c3 b3 ⊢
      refine ⟨_, rfl, _, rfl, b, 17, x3, y, z3, rfl, b3, by decide, by decide, y0, y1, by omega, by omega, fun k x4 z4 k0 k1 zg zh => ?_⟩
      obtain ⟨c, hc⟩ := signs_at ⟨k.toNat, by omega⟩
      refine ⟨signs, k, c.val, rfl, rfl, k0, by omega, by rw [signs_len]; omega, hc, ?_⟩
      have c4 : Chg b H (upd H3 b (.lst [.int x4, .int y, .int z4])) := c3.trans Chg.at_
      have b4 : upd H3 b (.lst [.int x4, .int y, .int z4]) b = some (.lst [.int x4, .int y, .int z4]) := upd_same
      generalize upd H3 b (.lst [.int x4, .int y, .int z4]) = H4 at c4 b4 ⊢
      have cs : Asc (⟨#[c.val]⟩ : Str) := asc_one c.isLt
      obtain ⟨sa1, sl1⟩ := slice_to_asc (z := u) a0 ua
      refine ⟨_, rfl, _, rfl, _, rfl, u, rfl, by omega, ?_⟩
      refine ⟨_, rfl, _, rfl, by show 3 ≤ sizeLine; decide, fun l hl => ?_⟩
      have nlb : l ≠ b := fun e => by
        rw [e, b4] at hl
        cases hl
      have s5 := same_new (o := .lst [.str ⟨#[c.val]⟩, .str (Str.ofString ""), .str ⟨#[c.val]⟩]) hl
      refine ⟨_, rfl, b, 3, x4, y, z4, rfl, s5 _ _ b4, by decide, by decide, y0, y1, by omega, by omega, fun r3 x5 z5 p0 p1 zi zj => ?_⟩
      obtain ⟨v, hv, vs⟩ : ∃ v : Str, atI [.str ⟨#[c.val]⟩, .str (Str.ofString ""), .str ⟨#[c.val]⟩] r3 = some (V.str v) ∧ v.length ≤ 1 ∧ Asc v := by
        obtain h | h | h : r3 = 0 ∨ r3 = 1 ∨ r3 = 2 := by omega
        · subst h; exact ⟨_, rfl, Nat.le_refl _, cs⟩
        · subst h; exact ⟨_, rfl, Nat.zero_le _, by intro d hd; exact absurd hd (by decide +revert)⟩
        · subst h; exact ⟨_, rfl, Nat.le_refl _, cs⟩
      refine ⟨l, _, r3, _, rfl, rfl, SqL.of ((upd_ne nlb).trans upd_same), hv, ?_⟩
      have c5 : Chg b H (upd (upd H4 l (.lst [.str ⟨#[c.val]⟩, .str (Str.ofString ""), .str ⟨#[c.val]⟩])) b (.lst [.int x5, .int y, .int z5])) := (c4.trans (Chg.of s5)).trans Chg.at_
      have b5 : upd (upd H4 l (.lst [.str ⟨#[c.val]⟩, .str (Str.ofString ""), .str ⟨#[c.val]⟩])) b (.lst [.int x5, .int y, .int z5]) b = some (.lst [.int x5, .int y, .int z5]) := upd_same
      generalize upd (upd H4 l (.lst [.str ⟨#[c.val]⟩, .str (Str.ofString ""), .str ⟨#[c.val]⟩])) b (.lst [.int x5, .int y, .int z5]) = H5 at c5 b5 ⊢
      refine ⟨_, _, rfl, rfl, by omega, ?_⟩
      refine ⟨_, rfl, _, rfl, _, rfl, b, 2, x5, y, z5, rfl, b5, by decide, by decide, y0, y1, by omega, by omega, fun r4 x6 z6 q0 q1 zk zl => ⟨_, _, rfl, rfl, _, rfl, u, rfl, by omega, ?_⟩⟩
      have c6 : Chg b H (upd H5 b (.lst [.int x6, .int y, .int z6])) := c5.trans Chg.at_
      have b6 : upd H5 b (.lst [.int x6, .int y, .int z6]) b = some (.lst [.int x6, .int y, .int z6]) := upd_same
      generalize upd H5 b (.lst [.int x6, .int y, .int z6]) = H6 at c6 b6 ⊢
      obtain ⟨sa2, sl2⟩ := slice_from_asc (z := u) (i := at_ + r4) (by omega) ua
      have ln : (Txt.slice u none (some at_) ++ v).length = (Txt.slice u none (some at_)).length + v.length := PySem.Str.length_append ..
      have ln2 : (Txt.slice u none (some at_) ++ v ++ Txt.slice u (some (at_ + r4)) none).length = (Txt.slice u none (some at_)).length + v.length + (Txt.slice u (some (at_ + r4)) none).length := by
        rw [PySem.Str.length_append, ln]
      refine ⟨_, _, rfl, rfl, by omega, ?_⟩
      refine ⟨_, _, _, _, x6, z6, rfl, c6, b6, by omega, by omega, ?_, asc_app (asc_app sa1 vs.2) sa2⟩
      rw [ln2]
      omega
    · rintro σ H2 ⟨u, v3, v4, v5, x', z', rfl, c2, b2, zc, zd, ul, ua⟩
      exact ⟨_, rfl, go u x' z' H2 zc (by omega) c2 b2 (by omega) ua⟩
end
end K03

set_option Elab.async false
set_option linter.all false
set_option maxRecDepth 100000
set_option maxHeartbeats 8000000
set_option exponentiation.threshold 3000
/-! The law over texts of Ratios: _law_read_right, _law_no_number. -/
namespace K03
open PySem PySem.Spec PyProof.Rows L2 Vx Vr
open TL (tl)
open T3 (slash textOf minus IsT rTop rBot dig Num)
theorem Same.tuple {K : PySem.W.Frag} {H H' : Hp} {a : Addr} {xs : List V} (e : Same H H') (h : SqT K H a xs) : SqT K H' a xs := L2.SqT.ext h e
mutual
theorem dp_same {K : PySem.W.Frag} {H H' : Hp} (s : Same H H') : ∀ {v : V} {d : PyData}, Dp K H v d → Dp K H' v d
  | _, _, .non => .non
  | _, _, .bl b => .bl b
  | _, _, .int i => .int i
  | _, _, .str x => .str x
  | _, _, .lst h a => .lst (s.seq h) (dpAll_same s a)
  | _, _, .tup h a => .tup (Same.tuple s h) (dpAll_same s a)
theorem dpAll_same {K : PySem.W.Frag} {H H' : Hp} (s : Same H H') : ∀ {vs : List V} {ds : List PyData}, DpAll K H vs ds → DpAll K H' vs ds
  | _, _, .nil => .nil
  | _, _, .cons h t => .cons (dp_same s h) (dpAll_same s t)
end
theorem dr_same {K : PySem.W.Frag} {H H' : Hp} (s : Same H H') {v : V} {d : PyData} (h : Dr K H v d) : Dr K H' v d := by
  cases h with
  | of h nd => exact .of (dp_same s h) nd
  | one h => exact .one (s _ _ h)
  | empty h => exact .empty (s _ _ h)
/-- a value whose repr is asked for -/
def Rp (K : PySem.W.Frag) (H : Hp) (v : V) : Prop := ∃ d, Dr K H v d ∧ d.showable = true ∧ d.depth < 60 ∧ d.shown.length ≤ sizeLine
theorem Rp.same {K : PySem.W.Frag} {H H' : Hp} {v : V} (s : Same H H') (h : Rp K H v) : Rp K H' v := by
  obtain ⟨d, h1, h2⟩ := h
  exact ⟨d, dr_same s h1, h2⟩
/-- an error of the program, as the law's suites look at it -/
structure Ge (P : Program) (w : World) (K : PySem.W.Frag) (mg : Str → Option Value) (base : Heap) (x : Str) (B D : Addr) : Prop where
  gv : Gv P w K mg base x B
  is : Vx.IsC K B
  no : PySem.W.findIn K (.ref B) "given" = some none
  gD : mg "DrawError" = some (.ref D)
  one : PySem.W.kitOne K (.ref B) (.ref D) = some true
/-- isinstance(e, c) in the suite, e an error of the class at B that keeps something -/
def rIsWd (K : PySem.W.Frag) (B : Addr) (cls : Value) (dd : Option Addr) (a : Addr) : List V → Hp → VK → Prop := fun xs H Q =>
  ∃ (d : Addr) (fs : List (Str × V)) (c : V) (u : Value) (b : Bool), cls = .ref B ∧ dd = some d ∧ H d = some (.xd fs) ∧ xs = [.ref a, c] ∧ ClsV c u ∧ PySem.W.kitOne K (.ref B) u = some b ∧ Q (.bl b) H
theorem call_isWk {X : Cx} {K : PySem.W.Frag} {a B : Addr} {cls : Value} {dd : Option Addr} {oe : Obj} {pn : List (Addr × Obj)} (hK : X.K = K) (T : Vx.IsC K B) (hz : Zc cls dd oe) (hf : ∃ vs, oe.data = .fields vs)
    (h : ∀ {X : Cx} {a B : Addr} {cls : Value} {dd : Option Addr} {oe : Obj} {pn : List (Addr × Obj)} (T : Vx.IsC X.K B) (hz : Zc cls dd oe) (hf : ∃ vs, oe.data = .fields vs), CallR (X.suite a ((a, oe) :: pn)) (.builtin "isinstance") (rIsWd X.K B cls dd a)) :
    CallR (X.suite a ((a, oe) :: pn)) (.builtin "isinstance") (rIsWd K B cls dd a) := by
  subst hK
  exact h T hz hf
theorem call_isWd {X : Cx} {a B : Addr} {cls : Value} {dd : Option Addr} {oe : Obj} {pn : List (Addr × Obj)} (T : Vx.IsC X.K B) (hz : Zc cls dd oe) (hf : ∃ vs, oe.data = .fields vs) : CallR (X.suite a ((a, oe) :: pn)) (.builtin "isinstance") (rIsWd X.K B cls dd a) := by
  intro pins s σ H xs us Q I r h
  obtain ⟨d, fs, c, u, b, rfl, rfl, hd, rfl, kc, e, q⟩ := h
  obtain ⟨u1, u2, rfl, r1, r2⟩ := vals2 r
  obtain rfl := kc.eq r2
  obtain rfl : u1 = Value.ref a := r1
  obtain ⟨ha, _⟩ := I.pin (a, oe) (List.mem_append_left _ List.mem_cons_self)
  obtain ⟨vs, hdt⟩ := hf
  have hx : ObjOk X.prog X.w H s.heap d (.xd fs) := I.hok d _ hd
  obtain ⟨mA, hns, hr⟩ := hx
  obtain ⟨od, ho, hl⟩ := lookIn_ns hns
  have J : PySem.W.InstAt s.heap a oe B (some od) := ⟨ha, hz.1, by unfold PySem.W.notCls; rw [hdt] <;> rfl, by rw [hz.2]; exact ho⟩
  exact PySem.W.kia_one (PySem.W.kitx_exc T.cl T.xf.ga T.xf.gg T.xf.exC T.ha T.hn T.tk T.hm) I.kIn J e (fun z => nomatch z) fun tk => ⟨.bl b, H, I.tok tk, rfl, q⟩
theorem bad_not {z : Str} {n d : Int} (hl : z.length ≤ 300) (h : Bad z) : ¬ IsT z n d := fun t => by
  obtain ⟨a1, a2⟩ := T3.int_top t hl
  obtain ⟨b1, b2⟩ := T3.int_bot t hl
  have dp := t.1
  rcases h with h | h | h | ⟨m, e, n', d', h1, h2, h3, nm, h5⟩
  · rw [a1] at h
    cases h
  · rw [b1] at h
    cases h
  · rw [b2] at h
    injection h with h
    omega
  · rw [a2] at h1
    rw [b2] at h2
    injection h1 with h1
    injection h2 with h2
    subst h1 h2
    obtain ⟨e1, e2⟩ := norm_eq h3 nm (show Norm n d n d from ⟨rfl, t.1, t.2.1, Nat.le_refl _, Nat.le_refl _⟩)
    subst e1 e2
    exact h5 t.2.2.symm
theorem call_reprK {X : Cx} {K : PySem.W.Frag} (hK : X.K = K) (hg : X.A.guards = some []) (hu : X.A.units + 64 < cLine) : CallR X (.builtin "repr") (rRepr K 60) := by
  subst hK
  exact call_reprD hg hu
def spRR (K : PySem.W.Frag) : Sp := fun vs H Q _ => ∃ v, vs = [v] ∧ Rp K H v ∧ ((∃ z, v = .str z ∧ z.length ≤ 300 ∧ Asc z) ∨ ∃ T, Oth K H v T ∧ T ≠ "str") ∧ ∀ H', Same H H' → Q (.bl true) H'
abbrev NRR : List Str := ["_law_text", "_law_due_here", "_law_found", "e"]
section
variable {P : Program} {w : World} {K : PySem.W.Frag} {mg : Str → Option Value} {base : Heap} {C B D : Addr}
theorem scRR : FnScope NRR ["_law_text"] (defScope (top 32)) := ⟨rfl, rfl, rfl, by decide +kernel, rfl, by decide +kernel, by decide +kernel⟩
theorem kp_rr {f fr : Addr} {fd fdr : FuncData} (F : L2.Fun K "_law_read_right" "_law_read_right" (top 32) f fd) (T : Bt mg) (hrp : mg "repr" = none) (DU : Cal P w K mg base "_law_due" 2 ["_law_text"] (spDue K))
    (R : FnOk P w K mg base (L2.CX P w) 3 fr fdr ["text"] (spRead K C B)) (mR : mg "read_ratio" = some (.ref fr)) (kR : PySem.W.keepIn K (.ref fr) = true) (bR : Binds K fdr ["text"] [])
    (G : Ge P w K mg base "BadText" B D) (IS : Cal P w K mg base "_law_is" 3 ["_law_ratio", "_law_pair_here"] (spIsP C)) :
    Kp P w K mg base CX0 4 f fd ["_law_text"] (spRR K) := by
  refine kp_fun0 F scRR (fun vs H Q E h => ?_) (fun cdv A outer s H vs Q E hr hg h => ?_)
  · obtain ⟨v, rfl, _⟩ := h
    rfl
  · obtain ⟨v, rfl, rp, cs, go⟩ := h
    have hu := hr.units
    refine ⟨_, pss_cons (ps_set (i := 1) scRR.nd rfl (.inl rfl) (pe_cal DU (hr.mono (by decide)) (pa_cons (pv 0) pa_nil)))
      (pss_cons (ps_try_as (i := 3) rfl rfl scRR.nd rfl rfl ⟨rfl, by decide, .inl G.gv.gB⟩ takes0
          (fun W pn xe tk _ => pss_one (ps_set (i := 2) scRR.nd rfl (.inl rfl) (pe_callS R hr (by rfl) mR kR bR (fun σ => passAt tk σ) (pa_cons (pv 0) pa_nil))))
          (fun a oe cls dd pn hz hf => pss_one (ps_ret (pe_and (pe_cmpR op_isN (pv 1) pe_non (nomark _)) (pe_and
            (pe_cmpR op_eq (pe_callB (call_reprK (K := K) rfl hg hu) (by rfl) hrp (by decide +kernel) (pa_cons (pe_xf G.gv.xf G.no hz hf (pv 3)) pa_nil)) (pe_callB (call_reprK (K := K) rfl hg hu) (by rfl) hrp (by decide +kernel) (pa_cons (pv 0) pa_nil)) (nomark _))
            (pe_one (pe_callB (call_isWd G.is hz hf) (by rfl) T.isi (by decide +kernel) (pa_cons (pv 3) (pa_cons (pe_glob (v := .ref D) (by rfl) G.gD rfl) pa_nil)))))))))
      (pss_one (ps_ret (pe_and (pe_cmpR op_notN (pv 1) pe_non (nomark _)) (pe_one (pe_cal IS hr (pa_cons (pv 2) (pa_cons (pv 1) pa_nil)))))))), ?_⟩
    -- the suite, where nothing is due
    have suite : ∀ (a dd : Addr) (H1 : Hp) (QQ : VK), Same H H1 → H1 dd = some (.xd [("given", v)]) → QQ (.bl true) H1 → True := fun _ _ _ _ _ _ _ => trivial
    refine ⟨_, rfl, ?_⟩
    rcases cs with ⟨z, rfl, hl, ha⟩ | ⟨TT, o, ne⟩
    · refine .inl ⟨z, rfl, hl, ha, fun H1 s1 noT => ?_, fun t n d H1 s1 isT ht => ?_⟩
      · refine ⟨_, rfl, .inl ⟨z, rfl, T3.num_of hl, fun m e n d p H2 d1 d2 hm he e0 nm tx s2 r => absurd ⟨nm.2.1, nm.2.2.1, tx.symm⟩ (noT n d), fun _ dd H2 s2 hd => ?_⟩⟩
        obtain ⟨dt, h1, h2, h3, h4⟩ := rp.same (s1.trans s2)
        refine ⟨true, G.gv.eB, fun _ a ha => ?_, fun q => nomatch q⟩
        refine ⟨_, rfl, rfl, _, rfl, iteT ?_⟩
        refine ⟨_, rfl, rfl, rfl, dd, _, _, rfl, hd, rfl, _, dt, rfl, h1, h2, h3, h4, _, rfl, _, dt, rfl, h1, h2, h3, h4, rfl, _, rfl, ?_⟩
        rw [decide_eq_true (rfl : V.str dt.shown = V.str dt.shown)]
        refine iteT ⟨_, rfl, dd, _, .ref D, .ref D, true, rfl, rfl, hd, rfl, .own D, G.one, ?_⟩
        exact go H2 (s1.trans s2)
      · refine ⟨_, rfl, .inl ⟨z, rfl, T3.num_of hl, fun m e n' d' p H2 d1 d2 hm he e0 nm tx s2 r => ?_, fun b => absurd isT (bad_not hl b)⟩⟩
        obtain ⟨e1, e2⟩ := IsT.uniq isT ⟨nm.2.1, nm.2.2.1, tx.symm⟩
        subst e1 e2
        refine ⟨_, rfl, rfl, _, rfl, iteT ?_⟩
        exact ⟨_, rfl, _, rfl, p, n, d, _, rfl, r, ⟨t, rfl, s2 _ _ ht⟩, fun H3 s3 => go H3 ((s1.trans s2).trans s3)⟩
    · refine .inr ⟨v, TT, rfl, o, ne, ?_⟩
      refine ⟨_, rfl, .inr ⟨v, TT, rfl, o, ne, fun dd H2 s2 hd => ?_⟩⟩
      obtain ⟨dt, h1, h2, h3, h4⟩ := rp.same s2
      refine ⟨true, G.gv.eB, fun _ a ha => ?_, fun q => nomatch q⟩
      refine ⟨_, rfl, rfl, _, rfl, iteT ?_⟩
      refine ⟨_, rfl, rfl, rfl, dd, _, _, rfl, hd, rfl, _, dt, rfl, h1, h2, h3, h4, _, rfl, _, dt, rfl, h1, h2, h3, h4, rfl, _, rfl, ?_⟩
      rw [decide_eq_true (rfl : V.str dt.shown = V.str dt.shown)]
      refine iteT ⟨_, rfl, dd, _, .ref D, .ref D, true, rfl, rfl, hd, rfl, .own D, G.one, ?_⟩
      exact go H2 s2
def spNN (K : PySem.W.Frag) : Sp := fun vs H Q _ => ∃ v, vs = [v] ∧ Rp K H v ∧ (∃ T, Oth K H v T ∧ T ≠ "int") ∧ ∀ H', Same H H' → Q (.bl true) H'
abbrev NNN : List Str := ["_law_thing", "e"]
theorem scNN : FnScope NNN ["_law_thing"] (defScope (top 33)) := ⟨rfl, rfl, rfl, by decide +kernel, rfl, by decide +kernel, by decide +kernel⟩
theorem kp_nn {f fr : Addr} {fd fdr : FuncData} (F : L2.Fun K "_law_no_number" "_law_no_number" (top 33) f fd) (T : Bt mg) (hrp : mg "repr" = none)
    (R : FnOk P w K mg base (L2.CX P w) 3 fr fdr ["value"] (spAsX K B)) (mR : mg "as_ratio" = some (.ref fr)) (kR : PySem.W.keepIn K (.ref fr) = true) (bR : Binds K fdr ["value"] [])
    (G : Ge P w K mg base "BadNumber" B D) :
    Kp P w K mg base CX0 4 f fd ["_law_thing"] (spNN K) := by
  refine kp_fun0 F scNN (fun vs H Q E h => ?_) (fun cdv A outer s H vs Q E hr hg h => ?_)
  · obtain ⟨v, rfl, _⟩ := h
    rfl
  · obtain ⟨v, rfl, rp, ⟨TT, o, ne⟩, go⟩ := h
    have hu := hr.units
    refine ⟨_, pss_cons (ps_try_as (i := 1) rfl rfl scNN.nd rfl rfl ⟨rfl, by decide, .inl G.gv.gB⟩ takes0
          (fun W pn xe tk _ => pss_one (ps_expr (pe_callS R hr (by rfl) mR kR bR (fun σ => passAt tk σ) (pa_cons (pv 0) pa_nil))))
          (fun a oe cls dd pn hz hf => pss_one (ps_ret (pe_and
            (pe_cmpR op_eq (pe_callB (call_reprK (K := K) rfl hg hu) (by rfl) hrp (by decide +kernel) (pa_cons (pe_xf G.gv.xf G.no hz hf (pv 1)) pa_nil)) (pe_callB (call_reprK (K := K) rfl hg hu) (by rfl) hrp (by decide +kernel) (pa_cons (pv 0) pa_nil)) (nomark _))
            (pe_one (pe_callB (call_isWd G.is hz hf) (by rfl) T.isi (by decide +kernel) (pa_cons (pv 1) (pa_cons (pe_glob (v := .ref D) (by rfl) G.gD rfl) pa_nil))))))))
      (pss_one (ps_ret pe_bl)), ?_⟩
    refine ⟨_, rfl, v, TT, rfl, o, ne, fun dd H2 s2 _ hd => ?_⟩
    obtain ⟨dt, h1, h2, h3, h4⟩ := rp.same s2
    refine ⟨true, G.gv.eB, fun _ a ha => ?_, fun q => nomatch q⟩
    refine ⟨_, rfl, rfl, rfl, dd, _, _, rfl, hd, rfl, _, dt, rfl, h1, h2, h3, h4, _, rfl, _, dt, rfl, h1, h2, h3, h4, rfl, _, rfl, ?_⟩
    rw [decide_eq_true (rfl : V.str dt.shown = V.str dt.shown)]
    refine iteT ⟨_, rfl, dd, _, .ref D, .ref D, true, rfl, rfl, hd, rfl, .own D, G.one, ?_⟩
    exact go H2 s2
end
end K03

set_option Elab.async false
set_option linter.all false
set_option maxRecDepth 100000
set_option maxHeartbeats 8000000
set_option exponentiation.threshold 3000
/-! The law over texts of Ratios: _law_lists_right. -/
namespace K03
open PySem PySem.Spec PyProof.Rows L2 Vx Vr
open TL (tl)
open T3 (slash textOf minus IsT)
section
variable {X : Cx} {C : Addr} {k : Nat} {ps : List Str} {sp : Sp}
/-- str(o) by the class's __str__ -/
theorem call_strOwn (M : Mth X.prog X.w X.K X.mg X.base C "__str__" k ps sp) (hr : Room (k + 2) X.A) : CallR X (.type "str") (fun xs H Q => ∃ a dx fs, xs = [.ref a] ∧ H a = some (.ins C dx fs) ∧ sp [.ref a] H (fun v H' => ∃ z, v = .str z ∧ Q v H') E0) := by
  intro pins s σ H xs us Q I r h
  obtain ⟨a, dx, fs, rfl, ha, q⟩ := h
  obtain ⟨u, rfl, ru⟩ := r.one
  obtain rfl : u = .ref a := ru
  obtain ⟨f, fd, hs, hf, F, hb⟩ := M.ex
  obtain ⟨ox, od, J, hd⟩ := inst_at I ha
  have r2 : Vals [V.ref a] [Value.ref a] := .cons rfl .nil
  have hl : ([Value.ref a] ++ []).length = ps.length := by
    rw [List.append_nil, ← r2.length]
    exact F.len _ _ _ _ q
  refine PySem.W.kso_call hr.in1.in1.units0 I.kIn J hs hf ?_
  refine wpAny_call (codeAny_mono (F.run X.A.in1.in1 X.stack s H ⟨[.ref a], []⟩ [.ref a] [.ref a] _ E0 hr.in1.in1 I.env0.in1.in1 (by
      have := hb s [.ref a] I.kIn hl
      rw [List.append_nil] at this
      exact this) r2 q) fun r s' hq => ?_)
  cases r with
  | error e => exact False.elim hq
  | ok fl =>
    cases fl with
    | ret w =>
      obtain ⟨v, H', J', rv, z, rfl, q2⟩ := I.after hq
      obtain ⟨t, rfl⟩ := rv
      exact ⟨.str z, H', J', ⟨t, rfl⟩, q2⟩
    | next => exact False.elim hq
    | brk => exact False.elim hq
    | cont => exact False.elim hq
/-- str of a number -/
theorem call_strNum (M : Mth X.prog X.w X.K X.mg X.base C "__str__" 3 ["self"] (spTextX C)) (hr : Room 5 X.A) : CallR X (.type "str") (fun xs H Q => ∃ v n d, xs = [v] ∧ Nu C H v n d ∧ Sm n ∧ Sm d ∧ Q (.str (textOf n d)) H) := by
  intro pins s σ H xs us Q I r h
  obtain ⟨v, n, d, rfl, nu, sn, sd, q⟩ := h
  rcases nu with ⟨rfl, rfl⟩ | ⟨a, rfl, dx, ha⟩
  · refine call_str_int pins s σ H _ us Q I r ⟨n, rfl, sm_log sn, ?_⟩
    have e : textOf n 1 = Str.ofString (toString n) := if_pos rfl
    rw [← e]
    exact q
  · exact call_strOwn M hr pins s σ H _ us Q I r ⟨a, dx, _, rfl, ha, a, n, d, rfl, ⟨dx, ha⟩, sn, sd, _, rfl, q⟩
end
theorem ix_tupK {X : Cx} {K : PySem.W.Frag} (hK : X.K = K) : IxR X (rIxT K) := by
  subst hK
  exact ix_tup
theorem asc_text {n d : Int} (hd : 0 < d) : Asc (textOf n d) := fun c hc => by
  rw [T3.tl_text hd] at hc
  have num : ∀ m : Nat, ∀ x ∈ TL.numL m, x < 128 := fun m x hx => by
    have := TL.numL_digits m x hx
    omega
  have sg : ∀ x ∈ T3.sgnL n, x < 128 := fun x hx => by
    unfold T3.sgnL at hx
    split at hx
    · rcases List.mem_cons.mp hx with e | hx
      · omega
      · exact num _ x hx
    · exact num _ x hx
  unfold T3.txtL at hc
  split at hc
  · exact sg c hc
  · rcases List.mem_append.mp hc with h | h
    · exact sg c h
    · rcases List.mem_cons.mp h with e | h
      · omega
      · exact num _ c h
theorem eqv_strs (ys : List Str) (h : ∀ y ∈ ys, Asc y) : PyData.eqv (.list (ys.map PyData.str)) (.list (ys.map PyData.str)) = true := SeqAt.eqv_refl _ (by simp [PyData.canLay0, canLay_strs ys h])
theorem tot_det : ∀ {qs : List (Int × Int)} {a b n d n' d' : Int}, 0 < b → (∀ q ∈ qs, 0 < q.2) → TotFrom a b qs n d → TotFrom a b qs n' d' → n = n' ∧ d = d'
  | [], _, _, _, _, _, _, _, _, h, h' => ⟨h.1.trans h'.1.symm, h.2.trans h'.2.symm⟩
  | q :: r, a, b, _, _, _, _, hb, hq, ⟨a1, b1, m1, t1⟩, ⟨a2, b2, m2, t2⟩ => by
    have q0 := hq q (List.mem_cons_self ..)
    have ne : b * q.2 ≠ 0 := Int.mul_ne_zero (by omega) (by omega)
    obtain ⟨e1, e2⟩ := norm_eq ne m1 m2
    subst e1 e2
    exact tot_det m1.2.1 (fun x hx => hq x (List.mem_cons_of_mem _ hx)) t1 t2
/-- pairs in lowest terms, as the law draws them -/
structure Prs (H : Hp) (ps : List V) (qs : List (Int × Int)) : Prop where
  len : ps.length = qs.length
  at_ : ∀ (k : Nat) (v : V) (q : Int × Int), ps[k]? = some v → qs[k]? = some q → Pr H v q.1 q.2
def Low (q : Int × Int) : Prop := q.1.natAbs < 2 ^ 100 ∧ q.2.natAbs < 2 ^ 100 ∧ 0 < q.2 ∧ Int.gcd q.1 q.2 = 1
theorem Pr.chg {b : Addr} {xs : List V} {H H' : Hp} {v : V} {n d : Int} (hb : H b = some (.lst xs)) (c : Chg b H H') (h : Pr H v n d) : Pr H' v n d := by
  obtain ⟨t, e, h⟩ := h
  exact ⟨t, e, c t _ (fun z => by rw [z, hb] at h; cases h) h⟩
theorem Nu.chg {C b : Addr} {xs : List V} {H H' : Hp} {v : V} {n d : Int} (hb : H b = some (.lst xs)) (c : Chg b H H') (h : Nu C H v n d) : Nu C H' v n d := by
  rcases h with h | ⟨a, e, dx, h⟩
  · exact .inl h
  · exact .inr ⟨a, e, dx, c a _ (fun z => by rw [z, hb] at h; cases h) h⟩
theorem Prs.same {H H' : Hp} {ps : List V} {qs : List (Int × Int)} (s : Same H H') (h : Prs H ps qs) : Prs H' ps qs := ⟨h.len, fun k v q e1 e2 => (h.at_ k v q e1 e2).same s⟩
theorem Prs.chg {b : Addr} {xs : List V} {H H' : Hp} {ps : List V} {qs : List (Int × Int)} (hb : H b = some (.lst xs)) (c : Chg b H H') (h : Prs H ps qs) : Prs H' ps qs := ⟨h.len, fun k v q e1 e2 => (h.at_ k v q e1 e2).chg hb c⟩
theorem Prs.get {H : Hp} {ps : List V} {qs : List (Int × Int)} (h : Prs H ps qs) {k : Nat} {v : V} (hv : ps[k]? = some v) : ∃ q, qs[k]? = some q ∧ q ∈ qs ∧ Pr H v q.1 q.2 := by
  have hk : k < qs.length := by
    have := (List.getElem?_eq_some_iff.mp hv).1
    rwa [h.len] at this
  exact ⟨_, List.getElem?_eq_getElem hk, List.getElem_mem hk, h.at_ k v _ hv (List.getElem?_eq_getElem hk)⟩
def spLR : Sp := fun vs H Q _ => ∃ (b pl : Addr) (x y z : Int) (ps : List V) (qs : List (Int × Int)), vs = [.ref b, .ref pl] ∧ pl ≠ b ∧ H b = some (.lst [.int x, .int y, .int z]) ∧ 0 ≤ y ∧ y ≤ 2147483629 ∧ 0 ≤ z ∧ z ≤ 900000 ∧
  H pl = some (.lst ps) ∧ Prs H ps qs ∧ (∀ q ∈ qs, Low q) ∧ 1 ≤ qs.length ∧ qs.length ≤ 5 ∧
  ∀ x' z' H', z ≤ z' → z' ≤ z + 5 → Chg b H H' → H' b = some (.lst [.int x', .int y, .int z']) → Q (.bl true) H'
abbrev NLR : List Str := ["_law_box_here", "_law_pairs", "_law_pair_here", "_law_numbers", "_law_kept", "_law_whole", "_law_most", "_law_fewest", "_law_told", "_law_number"]
def txV (q : Int × Int) : V := .str (textOf q.1 q.2)
section
variable {P : Program} {w : World} {K : PySem.W.Frag} {mg : Str → Option Value} {base : Heap} {C : Addr}
theorem scLR : FnScope NLR ["_law_box_here", "_law_pairs"] (defScope (top 34)) := ⟨rfl, rfl, rfl, by decide +kernel, rfl, by decide +kernel, by decide +kernel⟩
/-- [str(n) for n in numbers] -/
theorem rd_strs {σ : L2.St} {a D : Addr} {vs : List V} {qs : List (Int × Int)} {H : Hp} {Qd : Hp → Prop} {te : TE} {i : Nat} {wi : List Nat} (hw : wi = [i]) (hD : H D = none) (hs : SqL K H a vs) (hn : Nums C H vs qs) (hl : qs.length ≤ 9)
    (hi : i < σ.length)
    (hte : ∀ (v : V) (σ2 : L2.St) (H2 : Hp) (Qv : VK) (n d : Int), σ2[i]? = some (some v) → Nu C H2 v n d → Sm n → Sm d → Qv (.str (textOf n d)) H2 → te σ2 H2 Qv)
    (go : ∀ H', Same H H' → H' D = some (.lst (qs.map txV)) → Qd H') :
    ∃ W : Nat → Nat → Hp → Prop, (∃ m, W 0 m (upd H D (.lst []))) ∧ ∀ k m H1, W k m H1 →
      ((Itl K a).stop k H1 ∧ Qd H1) ∨ ((Itl K a).go k H1 ∧ ∃ Nx : Hp → Prop, (∀ H', Nx H' → ∃ m', m' < m ∧ W (k + 1) m' H') ∧ ∀ x H', (Itl K a).yld k H1 x H' → gName i x (wipe σ wi) H' fun σ2 H2 => wipe σ2 wi = wipe σ wi ∧ tYes σ2 H2 fun b H3 =>
        if b = true then te σ2 H3 fun y H4 => ∃ acc, H4 D = some (.lst acc) ∧ acc.length < sizeLine ∧ Nx (upd H4 D (.lst (acc ++ [y]))) else Nx H3) := by
  subst hw
  refine lc_list (K := K) (a := a) (xs := vs) (fun k H1 => H1 D = some (.lst ((qs.take k).map txV)) ∧ Same H H1) ⟨upd_same, same_new hD⟩ (fun k H1 _ h => h.2.seq hs) ?_ ?_
  · rintro k v H1 hv ⟨h1, h2⟩
    obtain ⟨q, hq, nu, c0, c1, c2⟩ := hn.at hv
    have hw : (wipe σ [i]).length = σ.length := wipe_length σ [i]
    refine ⟨?_, iteT (B := True) ?_⟩
    · simp [wipe]
    · refine hte v _ H1 _ q.1 q.2 ?_ (nu.same h2) (sm100 c0) (sm100 c1) ⟨_, h1, ?_, ?_, same_upd h2 hD⟩
      · rw [List.getElem?_set_self (by rw [hw]; exact hi)]
      · rw [List.length_map, List.length_take]
        have : (10 : Nat) < sizeLine := by decide
        omega
      · have : (qs.take (k + 1)) = qs.take k ++ [q] := by
          rw [List.take_add_one, hq]
          rfl
        rw [this, List.map_append]
        exact upd_same
  · rintro H1 ⟨h1, h2⟩
    rw [hn.1, List.take_length] at h1
    exact go H1 h2 h1
/-- what the law's walk over the pairs knows -/
def LrI (b pl D D2 : Addr) (H4 : Hp) (qs : List (Int × Int)) (q0 : Int × Int) : Nat → L2.St → Hp → Prop := fun k σ H9 => ∃ (v2 : Option V) (wv mv fv : V) (wa wb : Int) (m f : Int × Int) (v8 v9 : Option V),
  σ = [some (.ref b), some (.ref pl), v2, some (.ref D), some (.ref D2), some wv, some mv, some fv, v8, v9] ∧ Same H4 H9 ∧ Pr H9 wv wa wb ∧ Bd k wa ∧ Bd k wb ∧ 0 < wb ∧ (∀ n d, TotFrom wa wb (qs.drop k) n d → TotFrom 0 1 qs n d) ∧
  Pr H9 mv m.1 m.2 ∧ Low m ∧ MaxFrom m (qs.drop k) = MaxFrom q0 qs ∧ Pr H9 fv f.1 f.2 ∧ Low f ∧ MinFrom f (qs.drop k) = MinFrom q0 qs
end
end K03

set_option Elab.async false
set_option linter.all false
set_option maxRecDepth 100000
set_option maxHeartbeats 16000000
set_option exponentiation.threshold 3000
/-! The law over texts of Ratios: _law_lists_right. -/
namespace K03
open PySem PySem.Spec PyProof.Rows L2 Vx Vr
open TL (tl)
open T3 (slash textOf minus IsT)
section
variable {P : Program} {w : World} {K : PySem.W.Frag} {mg : Str → Option Value} {base : Heap} {C : Addr}
theorem ok_lr {f : Addr} {fd : FuncData} (F : L2.Fun K "_law_lists_right" "_law_lists_right" (top 34) f fd) (U : Us P w K mg base C) (htp : mg "tuple" = none)
    (TK : Cal P w K mg base "_law_take" 1 ["_law_box_here", "_law_many"] spTake) (PL : Cal P w K mg base "_law_plus" 2 ["_law_one", "_law_other"] spPlus) (LE : Cal P w K mg base "_law_less" 1 ["_law_one", "_law_other"] spLess)
    (IS : Cal P w K mg base "_law_is" 3 ["_law_ratio", "_law_pair_here"] (spIsP C)) (TO : Cal P w K mg base "total" 4 ["numbers"] (spTotal K C)) (GR : Cal P w K mg base "greatest" 5 ["numbers"] (spBest K C MaxFrom)) (LS : Cal P w K mg base "least" 5 ["numbers"] (spBest K C MinFrom))
    (SM : Mth P w K mg base C "__str__" 3 ["self"] (spTextX C)) :
    FnOk P w K mg base CX0 6 f fd ["_law_box_here", "_law_pairs"] spLR := by
  refine F.ok scLR (fun vs H Q E h => ?_) (fun cdv A outer s H vs Q E hr h => ?_)
  · obtain ⟨b, pl, x, y, z, ps, qs, rfl, _⟩ := h
    rfl
  · obtain ⟨b, pl, x, y, z, ps, qs, rfl, nbp, hb, y0, y1, z0, z1, hpl, prs, low, l1, l5, go⟩ := h
    have T := U.bt
    have h1 := hr.mono (show 1 ≤ 5 by decide)
    have h2 := hr.mono (show 2 ≤ 5 by decide)
    have h3 := hr.mono (show 3 ≤ 5 by decide)
    have h4 := hr.mono (show 4 ≤ 5 by decide)
    refine ⟨_, pss_cons (ps_setLc (i := 3) (own := [("_law_pair_here", 2)]) (g := gName 2) (tt := tYes) rfl scLR.nd rfl rfl (sw_true rfl rfl rfl (by decide +kernel)) (pi_list (pv 1)) (blkOk_by (N := NLR) (sc := defScope (top 34)) (by decide +kernel))
          (fun _ _ _ _ _ => pg_name (i := 2) scLR.nd rfl (Or.inl rfl)) (fun _ _ _ _ _ => pts_nil)
          (fun _ _ _ _ _ => pe_ifExp (PW.pt (pw_or (pt_cmpR op_gt (pe_ix (ix_tupK (K := K) rfl) (pv 2) pe_int (fun _ _ => rfl)) pe_int (nomark _)) (pw_or1 (pt_cmpR op_eq (pe_cal TK h1 (pa_cons (pv 0) (pa_cons pe_int pa_nil))) pe_int (nomark _)))))
            (pe_rat U.mkr h2 (pe_ix (ix_tupK (K := K) rfl) (pv 2) pe_int (fun _ _ => rfl)) (pe_ix (ix_tupK (K := K) rfl) (pv 2) pe_int (fun _ _ => rfl))) (pe_ix (ix_tupK (K := K) rfl) (pv 2) pe_int (fun _ _ => rfl))))
      (pss_cons (ps_setLc (i := 4) (own := [("_law_number", 9)]) (g := gName 9) (tt := tYes) rfl scLR.nd rfl rfl (sw_true rfl rfl rfl (by decide +kernel)) (pi_list (pv 3)) (blkOk_by (N := NLR) (sc := defScope (top 34)) (by decide +kernel))
          (fun _ _ _ _ _ => pg_name (i := 9) scLR.nd rfl (Or.inl rfl)) (fun _ _ _ _ _ => pts_nil) (fun _ _ _ _ _ => pe_callTy (call_strNum SM hr) (by rfl) T.str (by decide +kernel) (pa_cons (pv 9) pa_nil)))
      (pss_cons (ps_par3 (i := 5) (j := 6) (l := 7) (by rfl) scLR.nd rfl rfl rfl (by decide) (by decide) (by decide) rfl rfl rfl
          (pa_cons (pe_tup (pa_cons pe_int (pa_cons pe_int pa_nil))) (pa_cons (pe_ix ix_list (pv 1) pe_int (fun _ _ => rfl)) (pa_cons (pe_ix ix_list (pv 1) pe_int (fun _ _ => rfl)) pa_nil))) (by rfl))
      (pss_cons (ps_for PassesOwn.never rfl (pi_list (pv 1)) (pg_name (i := 2) scLR.nd rfl (.inl rfl))
          (pss_cons (ps_set (i := 5) scLR.nd rfl (.inl rfl) (pe_cal PL h2 (pa_cons (pv 5) (pa_cons (pv 2) pa_nil))))
          (pss_cons (ps_set (i := 6) scLR.nd rfl (.inl rfl) (pe_ifExp (pt_val (pe_cal LE h1 (pa_cons (pv 6) (pa_cons (pv 2) pa_nil)))) (pv 2) (pv 6)))
          (pss_one (ps_set (i := 7) scLR.nd rfl (.inl rfl) (pe_ifExp (pt_val (pe_cal LE h1 (pa_cons (pv 2) (pa_cons (pv 7) pa_nil)))) (pv 2) (pv 7)))))))
      (pss_cons (ps_for PassesOwn.never rfl (pi_list (pe_lst (pa_cons (pv 3) (pa_cons (pe_callTy call_tuple_of (by rfl) htp (by decide +kernel) (pa_cons (pv 3) pa_nil)) pa_nil)))) (pg_name (i := 8) scLR.nd rfl (.inl rfl))
          (pss_one (ps_if (PW.pt (pw_or (pt_not (pt_val (pe_cal IS h3 (pa_cons (pe_cal TO h4 (pa_cons (pv 8) pa_nil)) (pa_cons (pv 5) pa_nil)))))
            (pw_or (pt_not (pt_val (pe_cal IS h3 (pa_cons (pe_cal GR hr (pa_cons (pv 8) pa_nil)) (pa_cons (pv 6) pa_nil)))))
            (pw_or1 (pt_not (pt_val (pe_cal IS h3 (pa_cons (pe_cal LS hr (pa_cons (pv 8) pa_nil)) (pa_cons (pv 7) pa_nil)))))))))
            (pss_one (ps_ret pe_bl)) pss_nil)))
      (pss_one (ps_ret (pe_and (pe_cmpR (op_eqD hr.units) (pe_lc (own := [("_law_number", 9)]) (g := gName 9) (tt := tYes) rfl scLR.nd (pi_list (pv 3)) (blkOk_by (N := NLR) (sc := defScope (top 34)) (by decide +kernel))
          (fun _ _ _ _ _ => pg_name (i := 9) scLR.nd rfl (Or.inl rfl)) (fun _ _ _ _ _ => pts_nil) (fun _ _ _ _ _ => pe_callTy (call_strNum SM hr) (by rfl) T.str (by decide +kernel) (pa_cons (pv 9) pa_nil))) (pv 4) (nomark _))
        (pe_one (pe_cal IS h3 (pa_cons (pe_cal TO h4 (pa_cons (pe_lst pa_nil) pa_nil)) (pa_cons (pe_tup (pa_cons pe_int (pa_cons pe_int pa_nil))) pa_nil))))))))))), ?_⟩
    have sz : (100 : Nat) < sizeLine := by decide
    -- the numbers
    refine ⟨_, rfl, pl, rfl, ⟨_, SqL.of hpl⟩, fun D hD => ?_⟩
    have nDb : D ≠ b := fun e => by
      rw [e, hb] at hD
      cases hD
    have nDp : D ≠ pl := fun e => by
      rw [e, hpl] at hD
      cases hD
    refine lc_list (K := K) (a := pl) (xs := ps) (fun k H1 => ∃ (vs : List V) (x' z' : Int), H1 D = some (.lst vs) ∧ vs.length = k ∧ Chg b H H1 ∧ H1 b = some (.lst [.int x', .int y, .int z']) ∧ z ≤ z' ∧ z' ≤ z + (k : Int) ∧
        ∀ (j : Nat) (v : V) (q : Int × Int), vs[j]? = some v → qs[j]? = some q → Nu C H1 v q.1 q.2)
      ⟨[], x, z, upd_same, rfl, Chg.of (same_new hD), (upd_ne (Ne.symm nDb)).trans hb, Int.le_refl _, by omega, by simp⟩ (fun k H1 _ h => by
        obtain ⟨_, _, _, _, _, c, _⟩ := h
        exact SqL.of (c pl _ nbp hpl)) ?_ ?_
    · rintro k v H1 hv ⟨vs, x', z', d1, vl, c1, b1, za, zb, nus⟩
      obtain ⟨q, hq, hqm, pr⟩ := prs.get hv
      obtain ⟨m1, m2, m3, m4⟩ := low q hqm
      have hk : k < qs.length := (List.getElem?_eq_some_iff.mp hq).1
      have pr1 := pr.chg hb c1
      obtain ⟨t, rfl, ht⟩ := pr1
      -- storing a number
      have store : ∀ (u : V) (H2 : Hp) (x2 z2 : Int), H2 D = some (.lst vs) → Chg b H H2 → Chg b H1 H2 → H2 b = some (.lst [.int x2, .int y, .int z2]) → z ≤ z2 → z2 ≤ z + ((k + 1 : Nat) : Int) → Nu C H2 u q.1 q.2 →
          ∃ acc, H2 D = some (.lst acc) ∧ acc.length < sizeLine ∧ ∃ (vs : List V) (x' z' : Int), (upd H2 D (.lst (acc ++ [u]))) D = some (.lst vs) ∧ vs.length = k + 1 ∧ Chg b H (upd H2 D (.lst (acc ++ [u]))) ∧ (upd H2 D (.lst (acc ++ [u]))) b = some (.lst [.int x', .int y, .int z']) ∧ z ≤ z' ∧ z' ≤ z + ((k + 1 : Nat) : Int) ∧
            ∀ (j : Nat) (v : V) (q : Int × Int), vs[j]? = some v → qs[j]? = some q → Nu C (upd H2 D (.lst (acc ++ [u]))) v q.1 q.2 := by
        intro u H2 x2 z2 e1 e2 e2' e3 e4 e5 e6
        have nuU : ∀ (v : V) (n d : Int), Nu C H2 v n d → Nu C (upd H2 D (.lst (vs ++ [u]))) v n d := fun v n d h => by
          rcases h with h | ⟨a, e, dx, h⟩
          · exact .inl h
          · exact .inr ⟨a, e, dx, (upd_ne (fun z => by rw [z, e1] at h; cases h)).trans h⟩
        refine ⟨vs, e1, by omega, vs ++ [u], x2, z2, upd_same, by rw [List.length_append, vl]; rfl, ?_, (upd_ne (Ne.symm nDb)).trans e3, e4, e5, fun j v' q' hj hq' => ?_⟩
        · intro a o ne e
          have : a ≠ D := fun z => by
            rw [z, hD] at e
            cases e
          rw [upd_ne this]
          exact e2 a o ne e
        · by_cases hjk : j < vs.length
          · rw [List.getElem?_append_left hjk] at hj
            exact nuU _ _ _ ((nus j v' q' hj hq').chg b1 e2')
          · have jv : j = vs.length := by
              have := (List.getElem?_eq_some_iff.mp hj).1
              rw [List.length_append] at this
              simp at this
              omega
            subst jv
            rw [vl, hq] at hq'
            cases hq'
            have : u = v' := by
              rw [List.getElem?_append_right (Nat.le_refl _)] at hj
              simpa using hj
            subst this
            exact nuU _ _ _ e6
      refine ⟨rfl, iteT (B := True) ?_⟩
      have ratio : ∀ (H2 : Hp) (x2 z2 : Int) (sig : L2.St), sig[2]? = some (some (.ref t)) → H2 t = some (.tup [.int q.1, .int q.2]) → H2 D = some (.lst vs) → Chg b H H2 → Chg b H1 H2 → H2 b = some (.lst [.int x2, .int y, .int z2]) → z ≤ z2 → z2 ≤ z + ((k + 1 : Nat) : Int) →
          tMake C (spInit C) [] E0 (tCons (tOp (rIxT K) (tVar 2) (tC (.int 0))) (tCons (tOp (rIxT K) (tVar 2) (tC (.int 1))) tNil)) sig H2 (fun u H3 => ∃ acc, H3 D = some (.lst acc) ∧ acc.length < sizeLine ∧ ∃ (vs : List V) (x' z' : Int), (upd H3 D (.lst (acc ++ [u]))) D = some (.lst vs) ∧ vs.length = k + 1 ∧ Chg b H (upd H3 D (.lst (acc ++ [u]))) ∧ (upd H3 D (.lst (acc ++ [u]))) b = some (.lst [.int x', .int y, .int z']) ∧ z ≤ z' ∧ z' ≤ z + ((k + 1 : Nat) : Int) ∧
            ∀ (j : Nat) (v : V) (q : Int × Int), vs[j]? = some v → qs[j]? = some q → Nu C (upd H3 D (.lst (acc ++ [u]))) v q.1 q.2) := by
        intro H2 x2 z2 sig es et e1 e2 e2' e3 e4 e5
        refine ⟨_, es, t, _, 0, .int q.1, rfl, rfl, SqT.of et, rfl, _, es, t, _, 1, .int q.2, rfl, rfl, SqT.of et, rfl, ?_⟩
        intro p dx hp hdx ne
        refine rd_at hp hdx ne rfl (by omega) (sm_lg (sm100 m2)) fun H3 n d s3 r nm => ⟨rfl, ?_⟩
        obtain ⟨e7, e8⟩ := norm_eq (by omega) nm (show Norm q.1 q.2 q.1 q.2 from ⟨rfl, m3, m4, Nat.le_refl _, Nat.le_refl _⟩)
        subst e7 e8
        exact store _ _ x2 z2 (s3 _ _ e1) (e2.trans (Chg.of s3)) (e2'.trans (Chg.of s3)) (s3 _ _ e3) e4 e5 (.inr ⟨p, rfl, r⟩)
      refine ⟨_, rfl, t, _, 1, .int q.2, rfl, rfl, SqT.of ht, rfl, _, _, rfl, rfl, _, rfl, ?_⟩
      by_cases big : q.2 > 1
      · rw [decide_eq_true big]
        exact iteT (iteT (ratio H1 x' z' _ rfl ht d1 c1 (fun _ _ _ e => e) b1 za (by omega)))
      · rw [decide_eq_false big]
        refine iteF ⟨_, rfl, b, 2, x', y, z', rfl, b1, by decide, by decide, y0, y1, by omega, by omega, fun r x2 z2 r0 r1 zc zd => ?_⟩
        have k2 : Chg b H1 (upd H1 b (.lst [.int x2, .int y, .int z2])) := Chg.at_
        have c2 : Chg b H (upd H1 b (.lst [.int x2, .int y, .int z2])) := c1.trans k2
        have b2 : upd H1 b (.lst [.int x2, .int y, .int z2]) b = some (.lst [.int x2, .int y, .int z2]) := upd_same
        have d2 := (upd_ne (H := H1) (o := .lst [.int x2, .int y, .int z2]) nDb).trans d1
        have ntb : t ≠ b := fun e => by
          rw [e, b1] at ht
          cases ht
        have ht2 := (upd_ne (H := H1) (o := .lst [.int x2, .int y, .int z2]) ntb).trans ht
        refine ⟨by trivial, _, rfl, ite2 (fun c => ?_) (fun c => ?_)⟩
        · exact ratio _ x2 z2 _ rfl ht2 d2 c2 k2 b2 (by omega) (by omega)
        · refine ⟨_, rfl, t, _, 0, .int q.1, rfl, rfl, SqT.of ht2, rfl, ?_⟩
          have q1 : q.2 = 1 := by omega
          exact store (.int q.1) _ x2 z2 d2 c2 k2 b2 (by omega) (by omega) (.inl ⟨rfl, q1⟩)
    rintro H2 ⟨vs, x2, z2, d2, vl, c2, b2, za, zb, nus⟩
    rw [prs.len] at vl
    have nums : Nums C H2 vs qs := ⟨vl, fun k v q e1 e2 => ⟨nus k v q e1 e2, by
      obtain ⟨m1, m2, m3, _⟩ := low q (List.mem_of_getElem? e2)
      exact ⟨m1, m2, m3⟩⟩⟩
    have hpl2 := c2 pl _ nbp hpl
    have prs2 := prs.chg hb c2
    have zb5 : z2 ≤ z + 5 := by
      rw [prs.len] at zb
      omega
    clear hD nus zb
    -- their texts
    refine ⟨_, rfl, D, rfl, ⟨_, SqL.of d2⟩, fun D2 hD2 => ?_⟩
    refine rd_strs rfl hD2 (SqL.of d2) nums (by omega) (by show 9 < 10; decide) (fun v σ2 H9 Qv n d e nu sn sd q => ⟨v, e, v, n, d, rfl, nu, sn, sd, q⟩) fun H3 s3 k3 => ?_
    -- the whole, the most, the fewest
    obtain ⟨q0, qs', rfl⟩ : ∃ q0 qs', qs = q0 :: qs' := by
      cases qs with
      | nil => simp at l1
      | cons a b => exact ⟨a, b, rfl⟩
    obtain ⟨p0, hp0⟩ : ∃ p0, ps[0]? = some p0 := ⟨_, List.getElem?_eq_getElem (by rw [prs.len]; simp)⟩
    have low0 := low q0 (List.mem_cons_self ..)
    have pr0 : Pr H2 p0 q0.1 q0.2 := prs2.at_ 0 p0 q0 hp0 rfl
    refine ⟨by show 2 ≤ sizeLine; decide, fun tw htw => ?_⟩
    have s4 := same_new (o := .tup [.int 0, .int 1]) htw
    have w4 := upd_same (H := H3) (a := tw) (o := .tup [.int 0, .int 1])
    have S4 := s3.trans s4
    have k4 := s4 _ _ k3
    clear hD2 s3 k3
    refine ⟨_, rfl, pl, _, 0, p0, rfl, rfl, SqL.of (S4 _ _ hpl2), atI_nat hp0, _, rfl, pl, _, 0, p0, rfl, rfl, SqL.of (S4 _ _ hpl2), atI_nat hp0, _, _, _, rfl, ?_⟩
    refine ⟨_, rfl, pl, rfl, ⟨_, SqL.of (S4 _ _ hpl2)⟩, ?_⟩
    have st0 : Bd 0 0 ∧ Bd 0 1 := ⟨by show (0 : Nat) < 2 ^ 1; decide, by show (1 : Nat) < 2 ^ 1; decide⟩
    refine for_list (K := K) (a := pl) (xs := ps) (LrI b pl D D2 (upd H3 tw (.tup [.int 0, .int 1])) (q0 :: qs') q0)
      ⟨_, .ref tw, p0, p0, 0, 1, q0, q0, _, _, rfl, Same.refl _, ⟨tw, rfl, w4⟩, st0.1, st0.2, by decide, fun _ _ h => h, pr0.same S4, low0, rfl, pr0.same S4, low0, rfl⟩ (fun _ _ H9 _ h => by
        obtain ⟨_, _, _, _, _, _, _, _, _, _, _, s9, _⟩ := h
        exact SqL.of (s9 _ _ (S4 _ _ hpl2))) ?_ ?_
    · rintro k v σ H9 hv ⟨v2, wv, mv, fv, wa, wb, m, f, v8, v9, rfl, s9, pw, bwa, bwb, wb0, tot, pm, lm, em, pf, lf, ef⟩
      obtain ⟨q, hq, hqm, pr⟩ := (prs2.same (S4.trans s9)).get hv
      obtain ⟨m1, m2, m3, m4⟩ := low q hqm
      have hk : k < (q0 :: qs').length := (List.getElem?_eq_some_iff.mp hq).1
      rw [drop_at hq] at tot em ef
      refine ⟨_, rfl, _, rfl, wv, v, wa, wb, q.1, q.2, rfl, pw, pr, bwa.sm (by omega), bwb.sm (by omega), sm100 m1, sm100 m2, wb0, m3, fun t n' d' nm ht => ?_⟩
      have s10 := same_new (o := .tup [.int n', .int d']) ht
      have w10 := upd_same (H := H9) (a := t) (o := .tup [.int n', .int d'])
      obtain ⟨e1, e2⟩ := bd_step bwa bwb m1 m2 nm
      have fin : ∀ (mv' fv' : V) (m' f' : Int × Int), Pr (upd H9 t (.tup [.int n', .int d'])) mv' m'.1 m'.2 → Low m' → MaxFrom m' ((q0 :: qs').drop (k + 1)) = MaxFrom q0 (q0 :: qs') → Pr (upd H9 t (.tup [.int n', .int d'])) fv' f'.1 f'.2 → Low f' → MinFrom f' ((q0 :: qs').drop (k + 1)) = MinFrom q0 (q0 :: qs') →
          LrI b pl D D2 (upd H3 tw (.tup [.int 0, .int 1])) (q0 :: qs') q0 (k + 1) [some (.ref b), some (.ref pl), some v, some (.ref D), some (.ref D2), some (.ref t), some mv', some fv', v8, v9] (upd H9 t (.tup [.int n', .int d'])) :=
        fun mv' fv' m' f' h1 h2 h3 h4 h5 h6 => ⟨_, .ref t, mv', fv', n', d', m', f', _, _, rfl, s9.trans s10, ⟨t, rfl, w10⟩, e1, e2, nm.2.1, fun n d h => tot n d ⟨n', d', nm, h⟩, h1, h2, h3, h4, h5, h6⟩
      have pm' := pm.same s10
      have pf' := pf.same s10
      have pr' := pr.same s10
      have second : ∀ (mv' : V) (m' : Int × Int), Pr (upd H9 t (.tup [.int n', .int d'])) mv' m'.1 m'.2 → Low m' → MaxFrom m' ((q0 :: qs').drop (k + 1)) = MaxFrom q0 (q0 :: qs') →
          ∀ (Y N : Prop), (LrI b pl D D2 (upd H3 tw (.tup [.int 0, .int 1])) (q0 :: qs') q0 (k + 1) [some (.ref b), some (.ref pl), some v, some (.ref D), some (.ref D2), some (.ref t), some mv', some v, v8, v9] (upd H9 t (.tup [.int n', .int d'])) → Y) →
            (LrI b pl D D2 (upd H3 tw (.tup [.int 0, .int 1])) (q0 :: qs') q0 (k + 1) [some (.ref b), some (.ref pl), some v, some (.ref D), some (.ref D2), some (.ref t), some mv', some fv, v8, v9] (upd H9 t (.tup [.int n', .int d'])) → N) →
            if decide (q.1 * f.2 < f.1 * q.2) = true then Y else N := fun mv' m' a1 a2 a3 Y N hY hN => by
        by_cases c : q.1 * f.2 < f.1 * q.2
        · rw [decide_eq_true c]
          refine iteT (hY (fin mv' v m' q a1 a2 a3 pr' (low q hqm) ?_))
          rw [← ef]
          show _ = MinFrom (if q.1 * f.2 < f.1 * q.2 then q else f) _
          rw [if_pos c]
        · rw [decide_eq_false c]
          refine iteF (hN (fin mv' fv m' f a1 a2 a3 pf' lf ?_))
          rw [← ef]
          show _ = MinFrom (if q.1 * f.2 < f.1 * q.2 then q else f) _
          rw [if_neg c]
      refine ⟨_, rfl, _, rfl, mv, v, m.1, m.2, q.1, q.2, rfl, pm', pr', sm100 lm.1, sm100 lm.2.1, sm100 m1, sm100 m2, _, rfl, ?_⟩
      by_cases c : m.1 * q.2 < q.1 * m.2
      · rw [decide_eq_true c]
        refine iteT ⟨_, rfl, ?_⟩
        refine ⟨_, rfl, _, rfl, v, fv, q.1, q.2, f.1, f.2, rfl, pr', pf', sm100 m1, sm100 m2, sm100 lf.1, sm100 lf.2.1, _, rfl, ?_⟩
        refine second v q pr' (low q hqm) ?_ _ _ (fun h => ⟨_, rfl, h⟩) (fun h => ⟨_, rfl, h⟩)
        rw [← em]
        show _ = MaxFrom (if m.1 * q.2 < q.1 * m.2 then q else m) _
        rw [if_pos c]
      · rw [decide_eq_false c]
        refine iteF ⟨_, rfl, ?_⟩
        refine ⟨_, rfl, _, rfl, v, fv, q.1, q.2, f.1, f.2, rfl, pr', pf', sm100 m1, sm100 m2, sm100 lf.1, sm100 lf.2.1, _, rfl, ?_⟩
        refine second mv m pm' lm ?_ _ _ (fun h => ⟨_, rfl, h⟩) (fun h => ⟨_, rfl, h⟩)
        rw [← em]
        show _ = MaxFrom (if m.1 * q.2 < q.1 * m.2 then q else m) _
        rw [if_neg c]
    rintro σ H5 ⟨v2, wv, mv, fv, wa, wb, m, f, v8, v9, rfl, s5, pw, bwa, bwb, wb0, tot, pm, lm, em, pf, lf, ef⟩
    rw [List.drop_of_length_le (by rw [prs.len]; exact Nat.le_refl _)] at tot em ef
    have tot := tot wa wb ⟨rfl, rfl⟩
    have em : m = MaxFrom q0 (q0 :: qs') := em
    have ef : f = MinFrom q0 (q0 :: qs') := ef
    have S5 := S4.trans s5
    have k5 := s5 _ _ k4
    clear w4 pr0 s4 S4 s5 k4 htw
    -- twice asked
    refine ⟨_, rfl, _, rfl, D, vs, rfl, .inl ⟨SqL.of (S5 _ _ d2), fun tt htt => ?_⟩⟩
    have s6 := same_new (o := .tup vs) htt
    have t6 := upd_same (H := H5) (a := tt) (o := .tup vs)
    refine ⟨by show 2 ≤ sizeLine; decide, fun l hl => ⟨l, rfl, ⟨_, SqL.of upd_same⟩, ?_⟩⟩
    have s7 := same_new (o := .lst [.ref D, .ref tt]) hl
    have a7 := upd_same (H := upd H5 tt (.tup vs)) (a := l) (o := .lst [.ref D, .ref tt])
    have S7 := S5.trans (s6.trans s7)
    refine for_list (K := K) (a := l) (xs := [.ref D, .ref tt]) (fun _ σ H9 => (∃ v8 : Option V, σ = [some (.ref b), some (.ref pl), v2, some (.ref D), some (.ref D2), some wv, some mv, some fv, v8, v9]) ∧ Same (upd (upd H5 tt (.tup vs)) l (.lst [.ref D, .ref tt])) H9) ⟨⟨_, rfl⟩, Same.refl _⟩ (fun _ _ H9 _ h => SqL.of (h.2 _ _ a7)) ?_ ?_
    · rintro k u σ H9 hu ⟨⟨v8', rfl⟩, s9⟩
      obtain ⟨a, rfl, hs⟩ : ∃ a, u = .ref a ∧ (SqL K H9 a vs ∨ SqT K H9 a vs) := by
        have := List.mem_of_getElem? hu
        simp only [List.mem_cons, List.not_mem_nil, or_false] at this
        rcases this with e | e <;> subst e
        · exact ⟨_, rfl, .inl (SqL.of (s9 _ _ (S7 _ _ d2)))⟩
        · exact ⟨_, rfl, .inr (SqT.of (s9 _ _ (s7 _ _ t6)))⟩
      have n9 := nums.same (S7.trans s9)
      have up := (s6.trans s7).trans s9
      refine ⟨_, rfl, a, vs, _, rfl, hs, n9, by omega, fun p H10 n d s10 r tf => ?_⟩
      obtain ⟨e1, e2⟩ := tot_det (by decide) (fun q hq => (low q hq).2.2.1) tf tot
      subst e1 e2
      refine ⟨_, rfl, p, n, d, wv, rfl, r, pw.same (up.trans s10), fun H11 s11 => ⟨true, rfl, iteF ?_⟩⟩
      have hs11 : SqL K H11 a vs ∨ SqT K H11 a vs := hs.imp (fun h => (s10.trans s11).seq h) (fun h => Same.tuple (s10.trans s11) h)
      refine ⟨_, rfl, a, vs, q0, qs', rfl, hs11, n9.same (s10.trans s11), fun p2 H12 s12 r2 => ?_⟩
      rw [← em] at r2
      have up2 := (up.trans s10).trans (s11.trans s12)
      refine ⟨_, rfl, p2, m.1, m.2, mv, rfl, r2, pm.same up2, fun H13 s13 => ⟨true, rfl, iteF ?_⟩⟩
      have hs13 : SqL K H13 a vs ∨ SqT K H13 a vs := hs11.imp (fun h => (s12.trans s13).seq h) (fun h => Same.tuple (s12.trans s13) h)
      refine ⟨_, rfl, a, vs, q0, qs', rfl, hs13, n9.same ((s10.trans s11).trans (s12.trans s13)), fun p3 H14 s14 r3 => ?_⟩
      rw [← ef] at r3
      have up3 := up2.trans (s13.trans s14)
      refine ⟨_, rfl, p3, f.1, f.2, fv, rfl, r3, pf.same up3, fun H15 s15 => ⟨true, rfl, iteF ?_⟩⟩
      exact ⟨⟨_, rfl⟩, s9.trans (((s10.trans s11).trans (s12.trans s13)).trans (s14.trans s15))⟩
    rintro σ H6 ⟨⟨v8', rfl⟩, s8⟩
    have S8 := S7.trans s8
    have k8 := s8 _ _ (s7 _ _ (s6 _ _ k5))
    clear s6 t6 s7 a7 S7 s8 hl htt
    refine ⟨_, rfl, D, rfl, ⟨_, SqL.of (S8 _ _ d2)⟩, fun D3 hD3 => ?_⟩
    refine rd_strs rfl hD3 (SqL.of (S8 _ _ d2)) (nums.same S8) (by omega) (by show 9 < 10; decide) (fun v σ2 H9 Qv n d e nu sn sd q => ⟨v, e, v, n, d, rfl, nu, sn, sd, q⟩) fun H7 s7 k7 => ?_
    have ev : (q0 :: qs').map txV = ((q0 :: qs').map fun q => textOf q.1 q.2).map V.str := by
      rw [List.map_map]
      rfl
    have asc : ∀ y ∈ (q0 :: qs').map (fun q => textOf q.1 q.2), Asc y := fun y hy => by
      obtain ⟨q, hq, rfl⟩ := List.mem_map.mp hy
      exact asc_text (low q hq).2.2.1
    rw [ev] at k7 k8
    refine ⟨_, rfl, _, _, .lst (SqL.of k7) (dp_strs _), .lst (SqL.of (s7 _ _ k8)) (dp_strs _), shaped_strs _ asc, shaped_strs _ asc, _, rfl, ?_⟩
    rw [eqv_strs _ asc]
    refine iteT ⟨Nat.zero_le _, fun l0 hl0 => ?_⟩
    have s9 := same_new (o := .lst []) hl0
    refine ⟨l0, [], [], rfl, .inl (SqL.of upd_same), ⟨rfl, by simp⟩, by decide, fun p H10 n d s10 r tf => ?_⟩
    obtain ⟨rfl, rfl⟩ := tf
    refine ⟨by show 2 ≤ sizeLine; decide, fun t ht => ?_⟩
    have s11 := same_new (o := .tup [.int 0, .int 1]) ht
    refine ⟨p, 0, 1, _, rfl, r.same s11, ⟨t, rfl, upd_same⟩, fun H12 s12 => ?_⟩
    have S12 := (((S8.trans s7).trans s9).trans s10).trans (s11.trans s12)
    exact go x2 z2 H12 za zb5 (c2.trans (Chg.of S12)) (S12 _ _ b2)
end
end K03

set_option Elab.async false
set_option linter.all false
set_option maxRecDepth 100000
set_option maxHeartbeats 16000000
set_option exponentiation.threshold 3000
/-! The law over texts of Ratios: the law itself. -/
namespace K03
open PySem PySem.Spec PyProof.Rows L2 Vx Vr
open TL (tl)
open T3 (slash textOf minus IsT)
section
variable {K : PySem.W.Frag} {H : Hp}
theorem shown_len {z : Str} (hl : z.length ≤ 300) (ha : Asc z) : (reprText z).length ≤ 3002 := by
  have := StrLaws.reprText_len z (fun c hc => Nat.lt_trans (ha c hc) (by decide))
  omega
theorem rp_str {z : Str} (hl : z.length ≤ 300) (ha : Asc z) : Rp K H (.str z) :=
  ⟨.str z, .of (.str z) rfl, rfl, (by show 0 < 60; decide), Nat.le_trans (show (reprText z).length ≤ 3002 from shown_len hl ha) (by decide)⟩
theorem rp_non : Rp K H .non := ⟨.none, .of .non rfl, rfl, by decide, by decide⟩
theorem rp_bl (b : Bool) : Rp K H (.bl b) := ⟨.bool b, .of (.bl b) rfl, rfl, (by show 0 < 60; decide), by cases b <;> decide⟩
theorem rp_3 : Rp K H (.int 3) := ⟨.int 3, .of (.int 3) rfl, by decide, by decide, by decide⟩
theorem rp_lstS {a : Addr} {z : Str} (h : H a = some (.lst [.str z])) (hl : z.length ≤ 300) (ha : Asc z) : Rp K H (.ref a) := by
  refine ⟨.list [.str z], .of (.lst (SqL.of h) (.cons (.str z) .nil)) rfl, rfl, (by show 1 < 60; decide), ?_⟩
  have := shown_len hl ha
  show (listText [reprText z]).length ≤ _
  have e : (listText [reprText z]).length = 1 + (reprText z).length + 1 := by
    show (("[" : Str) ++ "" ++ reprText z ++ "]").length = _
    rw [PySem.Str.length_append, PySem.Str.length_append, PySem.Str.length_append]
    rfl
  rw [e]
  exact Nat.le_trans (show _ ≤ 4000 by omega) (by decide)
theorem rp_tupS {a : Addr} {z : Str} (h : H a = some (.tup [.str z])) (hl : z.length ≤ 300) (ha : Asc z) : Rp K H (.ref a) := by
  refine ⟨.tuple [.str z], .of (.tup (SqT.of h) (.cons (.str z) .nil)) rfl, rfl, (by show 1 < 60; decide), ?_⟩
  have := shown_len hl ha
  show (tupleText [reprText z]).length ≤ _
  have e : (tupleText [reprText z]).length = 1 + (reprText z).length + 2 := by
    show (("(" : Str) ++ reprText z ++ ",)").length = _
    rw [PySem.Str.length_append, PySem.Str.length_append]
    rfl
  rw [e]
  exact Nat.le_trans (show _ ≤ 4000 by omega) (by decide)
theorem rp_dct {a : Addr} (h : H a = some (.dK [])) : Rp K H (.ref a) := ⟨.dict [], .empty h, by decide, by decide, by decide⟩
theorem rp_lst1 {a : Addr} (h : H a = some (.lst [.int 1])) : Rp K H (.ref a) := ⟨.list [.int 1], .of (.lst (SqL.of h) (.cons (.int 1) .nil)) rfl, by decide, by decide, by decide +kernel⟩
theorem rp_tup12 {a : Addr} (h : H a = some (.tup [.int 1, .int 2])) : Rp K H (.ref a) := ⟨.tuple [.int 1, .int 2], .of (.tup (SqT.of h) (.cons (.int 1) (.cons (.int 2) .nil))) rfl, by decide, by decide, by decide +kernel⟩
end
/-- a thing that read_ratio is asked of -/
def Tg (K : PySem.W.Frag) (H : Hp) (v : V) : Prop := Rp K H v ∧ ((∃ z, v = .str z ∧ z.length ≤ 300 ∧ Asc z) ∨ ∃ T, Oth K H v T ∧ T ≠ "str")
theorem tg_str {K : PySem.W.Frag} {H : Hp} {z : Str} (hl : z.length ≤ 300) (ha : Asc z) : Tg K H (.str z) := ⟨rp_str hl ha, .inl ⟨z, rfl, hl, ha⟩⟩
theorem oth_same {K : PySem.W.Frag} {H H' : Hp} (s : Same H H') {v : V} {T : String} (o : Oth K H v T) : Oth K H' v T := by
  cases o with
  | non => exact .non
  | bl b => exact .bl b
  | int i => exact .int i
  | str x => exact .str x
  | lst e => exact .lst (s _ _ e)
  | tup e => exact .tup (s _ _ e)
  | dK e => exact .dK (s _ _ e)
theorem Tg.same {K : PySem.W.Frag} {H H' : Hp} {v : V} (s : Same H H') (h : Tg K H v) : Tg K H' v := by
  obtain ⟨h1, h2⟩ := h
  refine ⟨h1.same s, h2.imp id ?_⟩
  rintro ⟨T, o, ne⟩
  exact ⟨T, oth_same s o, ne⟩
theorem len_int {n : Int} (h : n.natAbs < 2 ^ 100) : (Str.ofString (toString n)).length ≤ 32 := by
  rw [TL.len_tl, T3.tl_int]
  have := TL.numL_len (n := n.natAbs) (k := 31) (by decide) (Nat.lt_trans h (by decide))
  unfold T3.sgnL
  split
  · simp
    omega
  · omega
theorem len_text {n d : Int} (h : n.natAbs < 2 ^ 100) (h' : d.natAbs < 2 ^ 100) : (textOf n d).length ≤ 65 := by
  have a := len_int h
  have b := len_int h'
  unfold textOf
  split
  · omega
  · rw [PySem.Str.length_append, PySem.Str.length_append, slash_len]
    omega
end K03

set_option Elab.async false
set_option linter.all false
set_option maxRecDepth 100000
set_option maxHeartbeats 16000000
set_option exponentiation.threshold 3000
/-! The law over texts of Ratios: the law itself. -/
namespace K03
open PySem PySem.Spec PyProof.Rows L2 Vx Vr
open TL (tl)
open T3 (slash textOf minus IsT)
/-- a def that is called by its name where no repr is under way -/
structure CalK (P : Program) (w : World) (K : PySem.W.Frag) (mg : Str → Option Value) (base : Heap) (x : Str) (k : Nat) (ps : List Str) (sp : Sp) : Prop where
  ex : ∃ f fd, Kp P w K mg base CX0 k f fd ps sp ∧ mg x = some (.ref f) ∧ PySem.W.keepIn K (.ref f) = true ∧ Binds K fd ps []
theorem pe_calK {X : Cx} {k : Nat} {ps : List Str} {sp : Sp} {x : Str} {p pos : Pos} {e : Expr} {es : List Expr} {t : TA} (C : CalK X.prog X.w X.K X.mg X.base x k ps sp) (hr : Room k X.A) (hgd : X.A.guards = some []) (ha : PA X (e :: es) t) (hg : Gl X x := by rfl)
    (hdb : (x == ("__debug__" : Str)) = false := by decide) (he : starEach (e :: es) X.env = (false, eval e X.env) :: starEach es X.env := by rfl)
    (hpl : (backTo pos (starEach es X.env)).any (·.1) = false := by rfl) : PE X (.Call (.Name x p) (e :: es) [] pos) (tCall sp [] E0 t) := by
  obtain ⟨f, fd, F, m, kp, b⟩ := C.ex
  exact pe_kp F hr hgd hg m kp b .nil pass0 ha hdb he hpl
/-- what the law calls -/
structure Lw (P : Program) (w : World) (K : PySem.W.Frag) (mg : Str → Option Value) (base : Heap) (C : Addr) : Prop where
  us : Us P w K mg base C
  ce : Cal P w K mg base "_law_cell" 1 ["_law_script", "_law_k"] (spCell K)
  bx : Cal P w K mg base "_law_box" 1 ["_law_cell_here"] spBox
  tk : Cal P w K mg base "_law_take" 1 ["_law_box_here", "_law_many"] spTake
  pa : Cal P w K mg base "_law_pair" 2 ["_law_box_here"] spPair
  wr : Cal P w K mg base "_law_written" 1 ["_law_pair_here"] spWritten
  is : Cal P w K mg base "_law_is" 3 ["_law_ratio", "_law_pair_here"] (spIsP C)
  as : Cal P w K mg base "as_ratio" 3 ["value"] (spAs C)
  ne : Cal P w K mg base "_law_near" 2 ["_law_box_here", "_law_text"] spNear
  rr : CalK P w K mg base "_law_read_right" 4 ["_law_text"] (spRR K)
  nn : CalK P w K mg base "_law_no_number" 4 ["_law_thing"] (spNN K)
  lr : Cal P w K mg base "_law_lists_right" 6 ["_law_box_here", "_law_pairs"] spLR
  str : Mth P w K mg base C "__str__" 3 ["self"] (spTextX C)
  text : ∃ f fd, Meth K C "text" f ∧ FnOk P w K mg base CX0 1 f fd ["self"] (spTextX C) ∧ Binds K fd ["self"] []
abbrev NL : List Str := ["_law_script", "_law_k", "_law_box_here", "_law_pairs", "_law_pair_here", "_law_ratio", "_law_text", "_law_some", "_law_odd", "_law_thing", "_law_turn"]
theorem scLaw : FnScope NL ["_law_script"] (defScope (top 35)) := ⟨rfl, rfl, rfl, by decide +kernel, rfl, by decide +kernel, by decide +kernel⟩
def spLaw (K : PySem.W.Frag) : Sp := fun vs H Q _ => ∃ (a : Addr) (ns : List Int), vs = [.ref a] ∧ SqL K H a (ns.map V.int) ∧ ns.length ≤ 63 ∧ ∀ H', Q (.bl true) H'
section
variable {P : Program} {w : World} {K : PySem.W.Frag} {mg : Str → Option Value} {base : Heap} {C : Addr}
theorem Chg.away {b : Addr} {H G G' : Hp} (c : Chg b G G') (s : Same H G) (n : H b = none) : Same H G' := fun q o e => c q o (fun z => by rw [z, n] at e; cases e) (s q o e)
theorem Pr.upd {D : Addr} {xs : List V} {H : Hp} {v : V} {n d : Int} {o : HO} (hD : H D = some (.lst xs)) (h : Pr H v n d) : Pr (upd H D o) v n d := by
  obtain ⟨t, e, h⟩ := h
  exact ⟨t, e, (upd_ne (fun z => by rw [z, hD] at h; cases h)).trans h⟩
theorem Prs.snoc {H : Hp} {vs : List V} {qs : List (Int × Int)} {u : V} {q : Int × Int} (h : Prs H vs qs) (hu : Pr H u q.1 q.2) : Prs H (vs ++ [u]) (qs ++ [q]) := by
  refine ⟨by simp [h.len], fun k v q' e1 e2 => ?_⟩
  by_cases hk : k < vs.length
  · rw [List.getElem?_append_left hk] at e1
    rw [List.getElem?_append_left (by rw [← h.len]; exact hk)] at e2
    exact h.at_ k v q' e1 e2
  · have kv : k = vs.length := by
      have := (List.getElem?_eq_some_iff.mp e1).1
      simp at this
      omega
    subst kv
    rw [List.getElem?_append_right (Nat.le_refl _)] at e1
    rw [h.len, List.getElem?_append_right (Nat.le_refl _)] at e2
    simp at e1 e2
    subst e1 e2
    exact hu
theorem at_mem {xs : List V} {r : Int} (h0 : 0 ≤ r) (h1 : r < xs.length) : ∃ v, atI xs r = some v ∧ v ∈ xs := by
  have e : r = ((r.toNat : Nat) : Int) := by omega
  have hk : r.toNat < xs.length := by omega
  refine ⟨xs[r.toNat], ?_, List.getElem_mem hk⟩
  have := atI_nat (List.getElem?_eq_getElem hk)
  rwa [← e] at this
theorem cmul6 {a : Int} (h : a.natAbs < 2 ^ 100) : CMulW a 6 := wide_mul (a := 100) (b := 3) h (by decide) (by decide) (by decide) (by decide)
theorem norm6 {n d : Int} (h : Low (n, d)) : Norm (n * 6) (d * 6) n d := by
  obtain ⟨_, _, h3, h4⟩ := h
  refine ⟨by show n * (d * 6) = n * 6 * d; grind, h3, h4, ?_, ?_⟩
  · rw [Int.natAbs_mul]
    exact Nat.le_mul_of_pos_right _ (by decide)
  · rw [Int.natAbs_mul]
    exact Nat.le_mul_of_pos_right _ (by decide)
theorem asc_int (n : Int) : Asc (Str.ofString (toString n)) := by
  have := asc_text (n := n) (d := 1) (by decide)
  rwa [show textOf n 1 = Str.ofString (toString n) from if_pos rfl] at this
theorem kp_law {f : Addr} {fd : FuncData} (F : L2.Fun K "law" "law" (top 35) f fd) (L : Lw P w K mg base C) : Kp P w K mg base CX0 7 f fd ["_law_script"] (spLaw K) := by
  refine kp_fun0 F scLaw (fun vs H Q E h => ?_) (fun cdv A outer s H vs Q E hr hg h => ?_)
  · obtain ⟨a, ns, rfl, _⟩ := h
    rfl
  · obtain ⟨sc, ns, rfl, hS, hlen, go⟩ := h
    have T := L.us.bt
    have h1 := hr.mono (show 1 ≤ 6 by decide)
    have h2 := hr.mono (show 2 ≤ 6 by decide)
    have h3 := hr.mono (show 3 ≤ 6 by decide)
    have h4 := hr.mono (show 4 ≤ 6 by decide)
    have h5 := hr.mono (show 5 ≤ 6 by decide)
    obtain ⟨ft, fdt, Mt, Ft, bt⟩ := L.text
    have cl := L.us.rc.own.cls
    refine ⟨_, pss_cons (ps_for PassesOwn.never rfl (pi_range1 rfl T.range (pa_cons (pe_callB (call_max2 rfl) (by rfl) T.max (by decide +kernel) (pa_cons pe_int (pa_cons (pe_callB (call_min2 rfl) (by rfl) T.min (by decide +kernel) (pa_cons pe_int (pa_cons (pe_callB call_len_seq (by rfl) T.len PySem.boot_len (pa_cons (pv 0) pa_nil)) pa_nil))) pa_nil))) pa_nil)) (pg_name (i := 1) scLaw.nd rfl (.inl rfl))
        (pss_cons (ps_set (i := 2) scLaw.nd rfl (.inr rfl) (pe_cal L.bx h1 (pa_cons (pe_cal L.ce h1 (pa_cons (pv 0) (pa_cons (pv 1) pa_nil))) pa_nil)))
        (pss_cons (ps_setLc (i := 3) (own := [("_law_turn", 10)]) (g := gName 10) (tt := tYes) rfl scLaw.nd rfl rfl (sw_true rfl rfl rfl (by decide +kernel)) (pi_range1 rfl T.range (pa_cons (pe_op op_add pe_int (pe_cal L.tk h1 (pa_cons (pv 2) (pa_cons pe_int pa_nil)))) pa_nil)) (blkOk_by (N := NL) (sc := defScope (top 35)) (by decide +kernel))
          (fun _ _ _ _ _ => pg_name (i := 10) scLaw.nd rfl (Or.inl rfl)) (fun _ _ _ _ _ => pts_nil) (fun _ _ _ _ _ => pe_cal L.pa h2 (pa_cons (pv 2) pa_nil)))
        (pss_cons (ps_set (i := 4) scLaw.nd rfl (.inl rfl) (pe_ix ix_list (pv 3) pe_int (fun _ _ => rfl)))
        (pss_cons (ps_set (i := 5) scLaw.nd rfl (.inl rfl) (pe_rat L.us.mkr h2 (pe_op op_mulW (pe_ix ix_tup (pv 4) pe_int (fun _ _ => rfl)) pe_int) (pe_op op_mulW (pe_ix ix_tup (pv 4) pe_int (fun _ _ => rfl)) pe_int)))
        (pss_cons (ps_set (i := 6) scLaw.nd rfl (.inl rfl) (pe_cal L.wr h1 (pa_cons (pv 4) pa_nil)))
        (pss_cons (ps_if (PW.pt (pw_or (pt_cmpR op_ne (pe_meth0 (pv 5) cl Mt Ft h1 bt .nil pass0) (pv 6) (nomark _)) (pw_or (pt_cmpR op_ne (pe_callTy (call_strOwn L.str h5) (by rfl) T.str (by decide +kernel) (pa_cons (pv 5) pa_nil)) (pv 6) (nomark _))
            (pw_or1 (pt_not (pt_val (pe_cal L.is h3 (pa_cons (pe_cal L.as h3 (pa_cons (pv 5) pa_nil)) (pa_cons (pv 4) pa_nil)))))))))
          (pss_one (ps_ret pe_bl)) pss_nil)
        (pss_cons (ps_if (pt_not (pt_val (pe_cal L.is h3 (pa_cons (pe_cal L.as h3 (pa_cons (pe_ix ix_tup (pv 4) pe_int (fun _ _ => rfl)) pa_nil)) (pa_cons (pe_tup (pa_cons (pe_ix ix_tup (pv 4) pe_int (fun _ _ => rfl)) (pa_cons pe_int pa_nil))) pa_nil)))))
          (pss_one (ps_ret pe_bl)) pss_nil)
        (pss_cons (ps_set (i := 7) scLaw.nd rfl (.inl rfl) (pe_lst (pa_cons (pv 6) (pa_cons (pe_cal L.ne h2 (pa_cons (pv 2) (pa_cons (pv 6) pa_nil))) (pa_cons (pe_cal L.ne h2 (pa_cons (pv 2) (pa_cons (pv 6) pa_nil)))
            (pa_cons (pe_op op_add_str pe_str (pv 6)) (pa_cons (pe_op op_add_str pe_str (pv 6)) (pa_cons (pe_op op_add_str (pv 6) pe_str) (pa_cons pe_str (pa_cons pe_str (pa_cons pe_str pa_nil)))))))))))
        (pss_cons (ps_set (i := 8) scLaw.nd rfl (.inl rfl) (pe_ix ix_list (pe_lst (pa_cons pe_non (pa_cons pe_int (pa_cons pe_bl (pa_cons (pe_lst (pa_cons (pv 6) pa_nil)) (pa_cons (pe_tup (pa_cons (pv 6) pa_nil)) (pa_cons pe_dnewK
            (pa_cons pe_str (pa_cons pe_str (pa_cons pe_str (pa_cons pe_str (pa_cons pe_str (pa_cons (pe_op op_add_str pe_str (pv 6)) pa_nil))))))))))))) (pe_cal L.tk h1 (pa_cons (pv 2) (pa_cons pe_int pa_nil))) (fun _ _ => rfl)))
        (pss_cons (ps_for PassesOwn.never rfl (pi_list (pe_op op_cat (pv 7) (pe_lst (pa_cons (pv 8) (pa_cons (pe_op op_add_str (pv 6) pe_str) (pa_cons (pe_op op_add_str (pe_op op_add_str (pe_callTy call_str_int (by rfl) T.str (by decide +kernel) (pa_cons (pe_ix ix_tup (pv 4) pe_int (fun _ _ => rfl)) pa_nil)) pe_str) (pe_callTy call_str_int (by rfl) T.str (by decide +kernel) (pa_cons (pe_ix ix_tup (pv 4) pe_int (fun _ _ => rfl)) pa_nil))) pa_nil)))))) (pg_name (i := 9) scLaw.nd rfl (.inl rfl))
          (pss_one (ps_if (pt_not (pt_val (pe_calK L.rr h4 hg (pa_cons (pv 9) pa_nil)))) (pss_one (ps_ret pe_bl)) pss_nil)))
        (pss_cons (ps_for PassesOwn.never rfl (pi_list (pe_lst (pa_cons pe_non (pa_cons pe_bl (pa_cons pe_bl (pa_cons (pv 6) (pa_cons (pe_lst (pa_cons pe_int pa_nil)) (pa_cons (pe_tup (pa_cons pe_int (pa_cons pe_int pa_nil))) (pa_cons pe_dnewK pa_nil))))))))) (pg_name (i := 9) scLaw.nd rfl (.inl rfl))
          (pss_one (ps_if (pt_not (pt_val (pe_calK L.nn h4 hg (pa_cons (pv 9) pa_nil)))) (pss_one (ps_ret pe_bl)) pss_nil)))
        (pss_one (ps_if (pt_not (pt_val (pe_cal L.lr hr (pa_cons (pv 2) (pa_cons (pv 3) pa_nil))))) (pss_one (ps_ret pe_bl)) pss_nil))))))))))))))
      (pss_one (ps_ret pe_bl)), ?_⟩
    refine ⟨_, rfl, sc, _, rfl, .inl hS, _, _, rfl, _, _, rfl, ?_⟩
    have nb : ∀ k : Int, 0 ≤ k → ∀ m : Int, m = (if (if k < 12 then k else 12) > 2 then (if k < 12 then k else 12) else 2) → 2 ≤ m ∧ m ≤ 12 := fun k k0 m e => by
      rw [e]
      split <;> split <;> omega
    obtain ⟨n0, n1⟩ := nb ((ns.map V.int).length : Int) (by omega) _ rfl
    refine ⟨_, rfl, by omega, by omega, for_range (fun i σ H1 => (∃ v1 v2 v3 v4 v5 v6 v7 v8 v9 v10, σ = [some (.ref sc), v1, v2, v3, v4, v5, v6, v7, v8, v9, v10]) ∧ Same H H1) ⟨⟨_, _, _, _, _, _, _, _, _, _, rfl⟩, Same.refl _⟩ ?_ ?_⟩
    · rintro i σ H1 hi ⟨⟨v1, v2, v3, v4, v5, v6, v7, v8, v9, v10, rfl⟩, s1⟩
      have ez : (0 : Int) + (i : Int) = (i : Int) := by omega
      rw [ez]
      refine ⟨_, rfl, _, rfl, sc, ns, i, rfl, s1.seq hS, hlen, by omega, fun z H2 s2 => ⟨z, rfl, fun b x y hb x0 y0 y1 => ?_⟩⟩
      have b0 : H b = none := (s1.trans s2).free hb
      have at0 := upd_same (H := H2) (a := b) (o := .lst [.int x, .int y, .int 0])
      have S0 := same_upd (o := .lst [.int x, .int y, .int 0]) (s1.trans s2) b0
      generalize upd H2 b (.lst [.int x, .int y, .int 0]) = G0 at at0 S0 ⊢
      clear s1 s2 hb
      -- the pairs
      refine ⟨_, rfl, b, 5, x, y, 0, rfl, at0, by decide, by decide, y0, y1, by decide, by decide, fun r x1 z1 ra rb za zb => ⟨_, _, rfl, rfl, _, rfl, by omega, by omega, fun D hD => ?_⟩⟩
      have at1 := upd_same (H := G0) (a := b) (o := .lst [.int x1, .int y, .int z1])
      have S1 := same_upd (o := .lst [.int x1, .int y, .int z1]) S0 b0
      have D0 : H D = none := S1.free hD
      have nDb : D ≠ b := fun e => by
        rw [e, at1] at hD
        cases hD
      refine lc_range (lo := 0) (n := (1 + r).toNat) (fun m H8 => ∃ (vs : List V) (qs : List (Int × Int)) (x' z' : Int), H8 D = some (.lst vs) ∧ vs.length = m ∧ Prs H8 vs qs ∧ (∀ q ∈ qs, Low q) ∧ Same H H8 ∧ H8 b = some (.lst [.int x', .int y, .int z']) ∧ 0 ≤ z' ∧ z' ≤ 1 + 5 * (m : Int))
        ⟨[], [], x1, z1, upd_same, rfl, ⟨rfl, by simp⟩, by simp, same_upd S1 D0, (upd_ne (Ne.symm nDb)).trans at1, by omega, by omega⟩ ?_ ?_
      · rintro m H8 hm ⟨vs, qs, x', z', d8, vl, prs, low, S8, b8, z0', z1'⟩
        refine ⟨rfl, iteT (B := True) ?_⟩
        refine ⟨_, rfl, b, x', y, z', rfl, b8, y0, y1, z0', by omega, fun t n d x2 z2 H9 ht n1 n2 n3 n4 zc zd ch b9 t9 => ?_⟩
        have d9 := ch D _ nDb d8
        refine ⟨vs, d9, ?_, vs ++ [.ref t], qs ++ [(n, d)], x2, z2, upd_same, by simp [vl], ?_, ?_, same_upd (ch.away S8 b0) D0, (upd_ne (Ne.symm nDb)).trans b9, by omega, by omega⟩
        · have : (100 : Nat) < sizeLine := by decide
          omega
        · exact (show Prs (upd H9 D _) vs qs from ⟨prs.len, fun k v q e1 e2 => Pr.upd d9 ((prs.at_ k v q e1 e2).chg b8 ch)⟩).snoc (Pr.upd d9 ⟨t, rfl, t9⟩)
        · intro q hq
          rcases List.mem_append.mp hq with hq | hq
          · exact low q hq
          · rw [List.mem_singleton.mp hq]
            exact ⟨n1, n2, n3, n4⟩
      rintro H8 ⟨vs, qs, x', z', d8, vl, prs, low, S8, b8, z0', z1'⟩
      have ql : qs.length = (1 + r).toNat := by rw [← prs.len, vl]
      have q1 : 1 ≤ qs.length := by omega
      have q5 : qs.length ≤ 5 := by omega
      have z30 : z' ≤ 26 := by omega
      obtain ⟨q0, qs', hqs⟩ : ∃ q0 qs', qs = q0 :: qs' := by
        cases qs with
        | nil => simp at q1
        | cons a b => exact ⟨a, b, rfl⟩
      have low0 : Low q0 := low q0 (by rw [hqs]; exact List.mem_cons_self ..)
      obtain ⟨p0, hp0⟩ : ∃ p0, vs[0]? = some p0 := ⟨_, List.getElem?_eq_getElem (by rw [prs.len]; omega)⟩
      obtain ⟨t0, rfl, ht0⟩ : Pr H8 p0 q0.1 q0.2 := prs.at_ 0 p0 q0 hp0 (by rw [hqs]; rfl)
      obtain ⟨l1, l2, l3, l4⟩ := id low0
      have sn := sm100 l1
      have sd := sm100 l2
      have tl65 := len_text l1 l2
      have tasc := asc_text (n := q0.1) l3
      clear hD at0 at1 S0 S1 za zb z1' rb
      refine ⟨_, rfl, D, _, 0, .ref t0, rfl, rfl, SqL.of d8, atI_nat hp0, ?_⟩
      refine ⟨_, rfl, t0, _, 0, .int q0.1, rfl, rfl, SqT.of ht0, rfl, _, _, rfl, rfl, cmul6 l1, _, rfl, t0, _, 1, .int q0.2, rfl, rfl, SqT.of ht0, rfl, _, _, rfl, rfl, cmul6 l2, ?_⟩
      intro p1 dx1 hx1 hdx1 ne1
      refine rd_at hx1 hdx1 ne1 rfl (by omega) (sm_lg (show Sm (q0.2 * 6) from ?_)) fun H9 n d s9 r9 nm => ⟨rfl, ?_⟩
      · have := wide_lt (a := 100) (b := 3) l2 (show (6 : Int).natAbs < 2 ^ 3 by decide)
        exact Nat.lt_trans this (Nat.pow_lt_pow_right (by decide) (by decide))
      obtain ⟨e1, e2⟩ := norm_eq (by omega) nm (norm6 low0)
      subst e1 e2
      clear hx1 hdx1 ne1 nm
      obtain ⟨dy, hy⟩ := r9
      have ht9 := s9 _ _ ht0
      generalize htx : textOf q0.1 q0.2 = tx at tl65 tasc
      refine ⟨_, rfl, .ref t0, q0.1, q0.2, rfl, ⟨t0, rfl, ht9⟩, sn, sd, ?_⟩
      rw [htx]
      refine ⟨_, rfl, p1, dy, _, rfl, hy, rfl, p1, q0.1, q0.2, rfl, ⟨dy, hy⟩, sn, sd, _, rfl, (by trivial), _, rfl, ?_⟩
      rw [htx, decide_eq_true (rfl : V.str tx = V.str tx)]
      refine iteF ⟨_, rfl, p1, dy, _, rfl, hy, p1, q0.1, q0.2, rfl, ⟨dy, hy⟩, sn, sd, _, rfl, _, rfl, (by trivial), _, rfl, ?_⟩
      rw [htx, decide_eq_true (rfl : V.str tx = V.str tx)]
      refine iteF ⟨_, rfl, .ref p1, q0.1, q0.2, rfl, .inr ⟨p1, rfl, dy, hy⟩, fun p2 H10 s10 r10 => ⟨_, rfl, p2, q0.1, q0.2, .ref t0, rfl, r10, ⟨t0, rfl, s10 _ _ ht9⟩, fun H11 s11 => ⟨true, rfl, iteF ?_⟩⟩⟩
      have ht11 := (s10.trans s11) _ _ ht9
      refine ⟨_, rfl, t0, _, 0, .int q0.1, rfl, rfl, SqT.of ht11, rfl, .int q0.1, q0.1, 1, rfl, .inl ⟨rfl, rfl⟩, fun p3 H12 s12 r12 => ⟨_, rfl, t0, _, 0, .int q0.1, rfl, rfl, SqT.of (s12 _ _ ht11), rfl, (by show 2 ≤ sizeLine; decide), fun t3 ht3 => ?_⟩⟩
      refine ⟨p3, q0.1, 1, .ref t3, rfl, r12.same (same_new ht3), ⟨t3, rfl, upd_same⟩, fun H13 s13 => ⟨true, rfl, iteF ?_⟩⟩
      have S13' := (((s9.trans s10).trans s11).trans s12).trans ((same_new (o := .tup [.int q0.1, .int 1]) ht3).trans s13)
      have S13 := S8.trans S13'
      have d13 := S13' _ _ d8
      have b13 := S13' _ _ b8
      have prs13 := prs.same S13'
      have ht13 := S13' _ _ ht0
      clear s9 s10 s11 s12 s13 ht3 r12 r10 ht11 ht9 hy S13' S8 d8 b8 prs ht0
      -- the texts
      refine ⟨_, rfl, _, rfl, _, rfl, b, tx, x', y, z', rfl, b13, y0, y1, z0', by omega, by omega, tasc, fun u1 xa za' H14 zc zd ch14 b14 l14 a14 => ?_⟩
      have S14 := ch14.away S13 b0
      have d14 := ch14 D _ nDb d13
      have prs14 := prs13.chg b13 ch14
      have nt0 : t0 ≠ b := fun e => by
        rw [e, b13] at ht13
        cases ht13
      have ht14 := ch14 t0 _ nt0 ht13
      refine ⟨_, rfl, _, rfl, b, tx, xa, y, za', rfl, b14, y0, y1, by omega, by omega, by omega, tasc, fun u2 xb zb' H15 ze zf ch15 b15 l15 a15 => ?_⟩
      have S15 := ch15.away S14 b0
      have d15 := ch15 D _ nDb d14
      have prs15 := prs14.chg b14 ch15
      have ht15 := ch15 t0 _ nt0 ht14
      clear S13 d13 b13 prs13 ht13 S14 d14 b14 prs14 ht14 ch14 ch15
      have sz : (4000 : Nat) ≤ sizeLine := by decide
      have c1 : (Str.ofString "+").length = 1 ∧ (Str.ofString "0").length = 1 ∧ (Str.ofString "/1").length = 2 ∧ (Str.ofString "-").length = 1 ∧ (Str.ofString " ").length = 1 ∧ (Str.ofString "/").length = 1 := by decide
      obtain ⟨k1, k2, k3, k4, k5, k6⟩ := c1
      refine ⟨_, rfl, _, _, rfl, rfl, by omega, _, rfl, _, _, rfl, rfl, by omega, _, rfl, _, _, rfl, rfl, by omega, (by show 9 ≤ sizeLine; decide), fun ls hls => ?_⟩
      have s16 := same_new (o := .lst [.str tx, .str u1, .str u2, .str (Str.ofString "+" ++ tx), .str (Str.ofString "0" ++ tx), .str (tx ++ Str.ofString "/1"), .str (Str.ofString "-0"), .str (Str.ofString "2/4"), .str (Str.ofString "")]) hls
      have a16 := upd_same (H := H15) (a := ls) (o := .lst [.str tx, .str u1, .str u2, .str (Str.ofString "+" ++ tx), .str (Str.ofString "0" ++ tx), .str (tx ++ Str.ofString "/1"), .str (Str.ofString "-0"), .str (Str.ofString "2/4"), .str (Str.ofString "")])
      generalize upd H15 ls (.lst [.str tx, .str u1, .str u2, .str (Str.ofString "+" ++ tx), .str (Str.ofString "0" ++ tx), .str (tx ++ Str.ofString "/1"), .str (Str.ofString "-0"), .str (Str.ofString "2/4"), .str (Str.ofString "")]) = H16 at s16 a16 ⊢
      have S16 := S15.trans s16
      have d16 := s16 _ _ d15
      have b16 := s16 _ _ b15
      have prs16 := prs15.same s16
      have ht16 := s16 _ _ ht15
      clear S15 d15 b15 prs15 ht15 s16 hls
      -- the odd thing
      refine ⟨_, rfl, by show 1 ≤ sizeLine; decide, fun la hla => ?_⟩
      have s17 := same_new (o := .lst [.str tx]) hla
      have a17 := upd_same (H := H16) (a := la) (o := .lst [.str tx])
      generalize upd H16 la (.lst [.str tx]) = H17 at s17 a17 ⊢
      refine ⟨_, rfl, by show 1 ≤ sizeLine; decide, fun ta hta => ?_⟩
      have s18 := same_new (o := .tup [.str tx]) hta
      have a18 := upd_same (H := H17) (a := ta) (o := .tup [.str tx])
      generalize upd H17 ta (.tup [.str tx]) = H18 at s18 a18 ⊢
      refine fun da hda => ?_
      have s19 := same_new (o := .dK []) hda
      have a19 := upd_same (H := H18) (a := da) (o := .dK [])
      generalize upd H18 da (.dK []) = H19 at s19 a19 ⊢
      refine ⟨_, rfl, _, _, rfl, rfl, by omega, (by show 12 ≤ sizeLine; decide), fun lo hlo => ?_⟩
      generalize hxs : ([.non, .int 3, .bl true, .ref la, .ref ta, .ref da, .str (Str.ofString "/"), .str (Str.ofString "-"), .str (Str.ofString "1/0"), .str (Str.ofString "--1"), .str (Str.ofString "1/-2"), .str (Str.ofString "-" ++ tx)] : List V) = xs
      have s20 := same_new (o := .lst xs) hlo
      have a20 := upd_same (H := H19) (a := lo) (o := .lst xs)
      generalize upd H19 lo (.lst xs) = H20 at s20 a20 ⊢
      have S20 := (s17.trans s18).trans (s19.trans s20)
      refine ⟨_, rfl, b, 12, xb, y, zb', rfl, S20 _ _ b16, by decide, by decide, y0, y1, by omega, by omega, fun r2 x2 z2 ra2 rb2 zg zh => ?_⟩
      have xl : xs.length = 12 := by rw [← hxs]; rfl
      obtain ⟨v, hv, vm⟩ := at_mem (xs := xs) ra2 (by rw [xl]; exact rb2)
      have nlo : lo ≠ b := fun e => by
        have h1 := S20 _ _ b16
        rw [← e, a20] at h1
        rw [← hxs] at h1
        cases h1
      refine ⟨lo, _, r2, v, rfl, rfl, SqL.of ((upd_ne nlo).trans a20), hv, ?_⟩
      have ch21 : Chg b H20 (upd H20 b (.lst [.int x2, .int y, .int z2])) := Chg.at_
      have b21 : upd H20 b (.lst [.int x2, .int y, .int z2]) b = some (.lst [.int x2, .int y, .int z2]) := upd_same
      have S21 : Same H (upd H20 b (.lst [.int x2, .int y, .int z2])) := ch21.away (S16.trans S20) b0
      have d21 := ch21 D _ nDb (S20 _ _ d16)
      have prs21 := (prs16.same S20).chg (S20 _ _ b16) ch21
      have ht21 := ch21 t0 _ nt0 (S20 _ _ ht16)
      have nb' : ∀ (a : Addr) (o : HO), H20 a = some o → (∀ u1 u2 u3 : V, o ≠ .lst [u1, u2, u3]) → upd H20 b (.lst [.int x2, .int y, .int z2]) a = some o := fun a o e ne => ch21 a o (fun z => by
        rw [z, S20 _ _ b16] at e
        cases e
        exact ne _ _ _ rfl) e
      have ls21 := nb' ls _ (S20 _ _ a16) (fun _ _ _ => by simp)
      have la21 := nb' la _ ((s18.trans (s19.trans s20)) _ _ a17) (fun _ _ _ => by simp)
      have ta21 := nb' ta _ ((s19.trans s20) _ _ a18) (fun _ _ _ => by simp)
      have da21 := nb' da _ (s20 _ _ a19) (fun _ _ _ => by simp)
      generalize upd H20 b (.lst [.int x2, .int y, .int z2]) = H21 at b21 S21 d21 prs21 ht21 ls21 la21 ta21 da21 ⊢
      have lits : Asc (Str.ofString "+") ∧ Asc (Str.ofString "0") ∧ Asc (Str.ofString "/1") ∧ Asc (Str.ofString "-0") ∧ Asc (Str.ofString "2/4") ∧ Asc (Str.ofString "") ∧ Asc (Str.ofString "/") ∧ Asc (Str.ofString "-") ∧ Asc (Str.ofString "1/0") ∧ Asc (Str.ofString "--1") ∧ Asc (Str.ofString "1/-2") ∧ Asc (Str.ofString " ") := by
        unfold Asc
        decide
      obtain ⟨f1, f2, f3, f4, f5, f6, f7, f8, f9, f10, f11, f12⟩ := lits
      have tgv : Tg K H21 v := by
        rw [← hxs] at vm
        simp only [List.mem_cons, List.not_mem_nil, or_false] at vm
        rcases vm with e | e | e | e | e | e | e | e | e | e | e | e <;> subst e
        · exact ⟨rp_non, .inr ⟨_, .non, by decide⟩⟩
        · exact ⟨rp_3, .inr ⟨_, .int _, by decide⟩⟩
        · exact ⟨rp_bl _, .inr ⟨_, .bl _, by decide⟩⟩
        · exact ⟨rp_lstS la21 (by omega) tasc, .inr ⟨_, .lst la21, by decide⟩⟩
        · exact ⟨rp_tupS ta21 (by omega) tasc, .inr ⟨_, .tup ta21, by decide⟩⟩
        · exact ⟨rp_dct da21, .inr ⟨_, .dK da21, by decide⟩⟩
        · exact tg_str (by decide) f7
        · exact tg_str (by decide) f8
        · exact tg_str (by decide) f9
        · exact tg_str (by decide) f10
        · exact tg_str (by decide) f11
        · exact tg_str (by rw [PySem.Str.length_append]; omega) (asc_app f8 tasc)
      have zb2 : z2 ≤ 100 := by omega
      have zb0 : 0 ≤ z2 := by omega
      clear nb' a16 a17 a18 a19 a20 s17 s18 s19 s20 S20 S16 d16 b16 prs16 ht16 hla hta hda hlo nlo hv vm hxs la21 ta21 da21 ch21 xl
      -- read, or not
      have li1 := len_int l1
      have li2 := len_int l2
      refine ⟨_, rfl, _, rfl, _, rfl, _, _, rfl, rfl, by omega, ?_⟩
      have lx : (Str.ofString (toString q0.1) ++ Str.ofString "/" ++ Str.ofString (toString q0.2)).length ≤ 65 := by
        rw [PySem.Str.length_append, PySem.Str.length_append]
        omega
      have ax : Asc (Str.ofString (toString q0.1) ++ Str.ofString "/" ++ Str.ofString (toString q0.2)) := asc_app (asc_app (asc_int q0.1) f7) (asc_int q0.2)
      refine ⟨_, rfl, t0, _, 0, .int q0.1, rfl, rfl, SqT.of ht21, rfl, _, rfl, sm_log sn, _, _, rfl, rfl, by omega, _, rfl, t0, _, 1, .int q0.2, rfl, rfl, SqT.of ht21, rfl, _, rfl, sm_log sd, _, _, rfl, rfl, (by rw [PySem.Str.length_append]; omega), (by show 3 ≤ sizeLine; decide), fun l3' hl3' => ?_⟩
      have s22 := same_new (o := .lst [v, .str (tx ++ Str.ofString " "), .str (Str.ofString (toString q0.1) ++ Str.ofString "/" ++ Str.ofString (toString q0.2))]) hl3'
      have a22 := upd_same (H := H21) (a := l3') (o := .lst [v, .str (tx ++ Str.ofString " "), .str (Str.ofString (toString q0.1) ++ Str.ofString "/" ++ Str.ofString (toString q0.2))])
      refine ⟨ls, l3', _, _, rfl, rfl, s22 _ _ ls21, a22, (by show 9 + 3 ≤ sizeLine; decide), fun lc hlc => ?_⟩
      generalize hys : ([.str tx, .str u1, .str u2, .str (Str.ofString "+" ++ tx), .str (Str.ofString "0" ++ tx), .str (tx ++ Str.ofString "/1"), .str (Str.ofString "-0"), .str (Str.ofString "2/4"), .str (Str.ofString "")] ++ [v, .str (tx ++ Str.ofString " "), .str (Str.ofString (toString q0.1) ++ Str.ofString "/" ++ Str.ofString (toString q0.2))] : List V) = ys
      have s23 := same_new (o := .lst ys) hlc
      have a23 := upd_same (H := upd H21 l3' (.lst [v, .str (tx ++ Str.ofString " "), .str (Str.ofString (toString q0.1) ++ Str.ofString "/" ++ Str.ofString (toString q0.2))])) (a := lc) (o := .lst ys)
      have tgs : ∀ u ∈ ys, Tg K H21 u := fun u hu => by
        rw [← hys] at hu
        simp only [List.mem_append, List.mem_cons, List.not_mem_nil, or_false] at hu
        rcases hu with (e | e | e | e | e | e | e | e | e) | (e | e | e) <;> subst e
        · exact tg_str (by omega) tasc
        · exact tg_str (by omega) a14
        · exact tg_str (by omega) a15
        · exact tg_str (by rw [PySem.Str.length_append]; omega) (asc_app f1 tasc)
        · exact tg_str (by rw [PySem.Str.length_append]; omega) (asc_app f2 tasc)
        · exact tg_str (by rw [PySem.Str.length_append]; omega) (asc_app tasc f3)
        · exact tg_str (by decide) f4
        · exact tg_str (by decide) f5
        · exact tg_str (by decide) f6
        · exact tgv
        · exact tg_str (by rw [PySem.Str.length_append]; omega) (asc_app tasc f12)
        · exact tg_str (by omega) ax
      have S23 := s22.trans s23
      refine ⟨lc, rfl, ⟨_, SqL.of a23⟩, ?_⟩
      refine for_list (K := K) (a := lc) (xs := ys) (fun _ σ H9 => (∃ v9 v10, σ = [some (.ref sc), some (.int (i : Int)), some (.ref b), some (.ref D), some (.ref t0), some (.ref p1), some (.str tx), some (.ref ls), some v, v9, v10]) ∧ Same H21 H9 ∧ H9 lc = some (.lst ys)) ⟨⟨_, _, rfl⟩, S23, a23⟩ (fun _ _ H9 _ h => SqL.of h.2.2) ?_ ?_
      · rintro k u σ H9 hk ⟨⟨v9', v10', rfl⟩, s9, c9⟩
        obtain ⟨rp, cs⟩ := (tgs u (List.mem_of_getElem? hk)).same s9
        exact ⟨_, rfl, u, rfl, rp, cs, fun H10 s10 => ⟨true, rfl, iteF ⟨⟨_, _, rfl⟩, s9.trans s10, s10 _ _ c9⟩⟩⟩
      rintro σ H22 ⟨⟨v9', v10', rfl⟩, s24, _⟩
      have S24 := S21.trans s24
      have d24 := s24 _ _ d21
      have b24 := s24 _ _ b21
      have prs24 := prs21.same s24
      clear tgs hys a23 s23 S23 a22 s22 hlc hl3' S21 d21 b21 prs21 s24 ht21 tgv ls21
      -- no numbers
      refine ⟨_, rfl, by show 1 ≤ sizeLine; decide, fun ga hga => ?_⟩
      have s25 := same_new (o := .lst [.int 1]) hga
      have a25 := upd_same (H := H22) (a := ga) (o := .lst [.int 1])
      generalize upd H22 ga (.lst [.int 1]) = H23 at s25 a25 ⊢
      refine ⟨by show 2 ≤ sizeLine; decide, fun gt hgt => ?_⟩
      have s26 := same_new (o := .tup [.int 1, .int 2]) hgt
      have a26 := upd_same (H := H23) (a := gt) (o := .tup [.int 1, .int 2])
      generalize upd H23 gt (.tup [.int 1, .int 2]) = H24 at s26 a26 ⊢
      refine fun gd hgd => ?_
      have s27 := same_new (o := .dK []) hgd
      have a27 := upd_same (H := H24) (a := gd) (o := .dK [])
      generalize upd H24 gd (.dK []) = H25 at s27 a27 ⊢
      refine ⟨by show 7 ≤ sizeLine; decide, fun gl hgl => ⟨gl, rfl, ⟨_, SqL.of upd_same⟩, ?_⟩⟩
      generalize hzs : ([.non, .bl true, .bl false, .str tx, .ref ga, .ref gt, .ref gd] : List V) = zs
      have s28 := same_new (o := .lst zs) hgl
      have a28 := upd_same (H := H25) (a := gl) (o := .lst zs)
      have tgs : ∀ u ∈ zs, Rp K (upd H25 gl (.lst zs)) u ∧ ∃ T, Oth K (upd H25 gl (.lst zs)) u T ∧ T ≠ "int" := fun u hu => by
        have e1 := s28 _ _ (s27 _ _ (s26 _ _ a25))
        have e2 := s28 _ _ (s27 _ _ a26)
        have e3 := s28 _ _ a27
        clear a28 s28
        generalize upd H25 gl (.lst zs) = HH at e1 e2 e3 ⊢
        rw [← hzs] at hu
        simp only [List.mem_cons, List.not_mem_nil, or_false] at hu
        rcases hu with e | e | e | e | e | e | e <;> subst e
        · exact ⟨rp_non, _, .non, by decide⟩
        · exact ⟨rp_bl _, _, .bl _, by decide⟩
        · exact ⟨rp_bl _, _, .bl _, by decide⟩
        · exact ⟨rp_str (by omega) tasc, _, .str _, by decide⟩
        · exact ⟨rp_lst1 e1, _, .lst e1, by decide⟩
        · exact ⟨rp_tup12 e2, _, .tup e2, by decide⟩
        · exact ⟨rp_dct e3, _, .dK e3, by decide⟩
      have S28 := (s25.trans s26).trans (s27.trans s28)
      refine for_list (K := K) (a := gl) (xs := zs) (fun _ σ H9 => (∃ v9 v10, σ = [some (.ref sc), some (.int (i : Int)), some (.ref b), some (.ref D), some (.ref t0), some (.ref p1), some (.str tx), some (.ref ls), some v, v9, v10]) ∧ Same (upd H25 gl (.lst zs)) H9) ⟨⟨_, _, rfl⟩, Same.refl _⟩ (fun _ _ H9 _ h => SqL.of (h.2 _ _ a28)) ?_ ?_
      · rintro k u σ H9 hk ⟨⟨v9'', v10'', rfl⟩, s9⟩
        obtain ⟨rp, TT, o, ne⟩ := tgs u (List.mem_of_getElem? hk)
        exact ⟨_, rfl, u, rfl, rp.same s9, ⟨TT, oth_same s9 o, ne⟩, fun H10 s10 => ⟨true, rfl, iteF ⟨⟨_, _, rfl⟩, s9.trans s10⟩⟩⟩
      rintro σ H26 ⟨⟨v9'', v10'', rfl⟩, s29⟩
      have S29 := S28.trans s29
      -- lists
      refine ⟨_, rfl, _, rfl, b, D, x2, y, z2, vs, qs, rfl, nDb, S29 _ _ b24, y0, y1, zb0, by omega, S29 _ _ d24, prs24.same S29, low, q1, q5, fun x3 z3 H27 zm zn ch27 b27 => ⟨true, rfl, iteF ?_⟩⟩
      exact ⟨⟨_, _, _, _, _, _, _, _, _, _, rfl⟩, ch27.away (S24.trans S29) b0⟩
    · rintro σ H1 ⟨_, s1⟩
      exact go _
end
end K03

set_option Elab.async false
set_option linter.all false
set_option maxRecDepth 100000
set_option maxHeartbeats 4000000
/-! The law over texts of Ratios: what the top has written. -/
namespace K03
open PySem PySem.Spec PyProof.Rows L2 Vx Vr
/-- a def stands at f -/
def FnB (K : PySem.W.Frag) (x qual : Str) (st : Stmt) (f : Addr) (ps : List Str) : Prop := ∃ fd, L2.Fun K x qual st f fd ∧ Binds K fd ps []
theorem fb_t3 {K : PySem.W.Frag} {f : Addr} {oc kV doc pm cdv ct : Value} {od an : Option Addr} {osl : Array (Option Value)}
    (l : K.lookup f = some ⟨oc, od, .func (PySem.W.fnOf "is_whole" "is_whole" (defArgs (top 3)) (defBody (top 3)) (defScope (top 3)) .none kV doc pm an cdv ct), osl⟩) (c : PySem.W.codeIn K cdv "is_whole" = true) (k : PySem.W.keepIn K (.ref f) = true) : FnB K "is_whole" "is_whole" (top 3) f ["value"] :=
  ⟨_, fun_mk l c k, (fun_mk l c k).binds fun _ _ _ _ _ _ us hl => match us, hl with | [_], _ => rfl⟩
theorem fb_t11 {K : PySem.W.Frag} {f : Addr} {oc kV doc pm cdv ct : Value} {od an : Option Addr} {osl : Array (Option Value)}
    (l : K.lookup f = some ⟨oc, od, .func (PySem.W.fnOf "is_number" "is_number" (defArgs (top 11)) (defBody (top 11)) (defScope (top 11)) .none kV doc pm an cdv ct), osl⟩) (c : PySem.W.codeIn K cdv "is_number" = true) (k : PySem.W.keepIn K (.ref f) = true) : FnB K "is_number" "is_number" (top 11) f ["value"] :=
  ⟨_, fun_mk l c k, (fun_mk l c k).binds fun _ _ _ _ _ _ us hl => match us, hl with | [_], _ => rfl⟩
theorem fb_t12 {K : PySem.W.Frag} {f : Addr} {oc kV doc pm cdv ct : Value} {od an : Option Addr} {osl : Array (Option Value)}
    (l : K.lookup f = some ⟨oc, od, .func (PySem.W.fnOf "_parts" "_parts" (defArgs (top 12)) (defBody (top 12)) (defScope (top 12)) .none kV doc pm an cdv ct), osl⟩) (c : PySem.W.codeIn K cdv "_parts" = true) (k : PySem.W.keepIn K (.ref f) = true) : FnB K "_parts" "_parts" (top 12) f ["number"] :=
  ⟨_, fun_mk l c k, (fun_mk l c k).binds fun _ _ _ _ _ _ us hl => match us, hl with | [_], _ => rfl⟩
theorem fb_t13 {K : PySem.W.Frag} {f : Addr} {oc kV doc pm cdv ct : Value} {od an : Option Addr} {osl : Array (Option Value)}
    (l : K.lookup f = some ⟨oc, od, .func (PySem.W.fnOf "as_ratio" "as_ratio" (defArgs (top 13)) (defBody (top 13)) (defScope (top 13)) .none kV doc pm an cdv ct), osl⟩) (c : PySem.W.codeIn K cdv "as_ratio" = true) (k : PySem.W.keepIn K (.ref f) = true) : FnB K "as_ratio" "as_ratio" (top 13) f ["value"] :=
  ⟨_, fun_mk l c k, (fun_mk l c k).binds fun _ _ _ _ _ _ us hl => match us, hl with | [_], _ => rfl⟩
theorem fb_t14 {K : PySem.W.Frag} {f : Addr} {oc kV doc pm cdv ct : Value} {od an : Option Addr} {osl : Array (Option Value)}
    (l : K.lookup f = some ⟨oc, od, .func (PySem.W.fnOf "read_ratio" "read_ratio" (defArgs (top 14)) (defBody (top 14)) (defScope (top 14)) .none kV doc pm an cdv ct), osl⟩) (c : PySem.W.codeIn K cdv "read_ratio" = true) (k : PySem.W.keepIn K (.ref f) = true) : FnB K "read_ratio" "read_ratio" (top 14) f ["text"] :=
  ⟨_, fun_mk l c k, (fun_mk l c k).binds fun _ _ _ _ _ _ us hl => match us, hl with | [_], _ => rfl⟩
theorem fb_t15 {K : PySem.W.Frag} {f : Addr} {oc kV doc pm cdv ct : Value} {od an : Option Addr} {osl : Array (Option Value)}
    (l : K.lookup f = some ⟨oc, od, .func (PySem.W.fnOf "_are_digits" "_are_digits" (defArgs (top 15)) (defBody (top 15)) (defScope (top 15)) .none kV doc pm an cdv ct), osl⟩) (c : PySem.W.codeIn K cdv "_are_digits" = true) (k : PySem.W.keepIn K (.ref f) = true) : FnB K "_are_digits" "_are_digits" (top 15) f ["text"] :=
  ⟨_, fun_mk l c k, (fun_mk l c k).binds fun _ _ _ _ _ _ us hl => match us, hl with | [_], _ => rfl⟩
theorem fb_t16 {K : PySem.W.Frag} {f : Addr} {oc kV doc pm cdv ct : Value} {od an : Option Addr} {osl : Array (Option Value)}
    (l : K.lookup f = some ⟨oc, od, .func (PySem.W.fnOf "total" "total" (defArgs (top 16)) (defBody (top 16)) (defScope (top 16)) .none kV doc pm an cdv ct), osl⟩) (c : PySem.W.codeIn K cdv "total" = true) (k : PySem.W.keepIn K (.ref f) = true) : FnB K "total" "total" (top 16) f ["numbers"] :=
  ⟨_, fun_mk l c k, (fun_mk l c k).binds fun _ _ _ _ _ _ us hl => match us, hl with | [_], _ => rfl⟩
theorem fb_t17 {K : PySem.W.Frag} {f : Addr} {oc kV doc pm cdv ct : Value} {od an : Option Addr} {osl : Array (Option Value)}
    (l : K.lookup f = some ⟨oc, od, .func (PySem.W.fnOf "greatest" "greatest" (defArgs (top 17)) (defBody (top 17)) (defScope (top 17)) .none kV doc pm an cdv ct), osl⟩) (c : PySem.W.codeIn K cdv "greatest" = true) (k : PySem.W.keepIn K (.ref f) = true) : FnB K "greatest" "greatest" (top 17) f ["numbers"] :=
  ⟨_, fun_mk l c k, (fun_mk l c k).binds fun _ _ _ _ _ _ us hl => match us, hl with | [_], _ => rfl⟩
theorem fb_t18 {K : PySem.W.Frag} {f : Addr} {oc kV doc pm cdv ct : Value} {od an : Option Addr} {osl : Array (Option Value)}
    (l : K.lookup f = some ⟨oc, od, .func (PySem.W.fnOf "least" "least" (defArgs (top 18)) (defBody (top 18)) (defScope (top 18)) .none kV doc pm an cdv ct), osl⟩) (c : PySem.W.codeIn K cdv "least" = true) (k : PySem.W.keepIn K (.ref f) = true) : FnB K "least" "least" (top 18) f ["numbers"] :=
  ⟨_, fun_mk l c k, (fun_mk l c k).binds fun _ _ _ _ _ _ us hl => match us, hl with | [_], _ => rfl⟩
theorem fb_t20 {K : PySem.W.Frag} {f : Addr} {oc kV doc pm cdv ct : Value} {od an : Option Addr} {osl : Array (Option Value)}
    (l : K.lookup f = some ⟨oc, od, .func (PySem.W.fnOf "_law_cell" "_law_cell" (defArgs (top 20)) (defBody (top 20)) (defScope (top 20)) .none kV doc pm an cdv ct), osl⟩) (c : PySem.W.codeIn K cdv "_law_cell" = true) (k : PySem.W.keepIn K (.ref f) = true) : FnB K "_law_cell" "_law_cell" (top 20) f ["_law_script", "_law_k"] :=
  ⟨_, fun_mk l c k, (fun_mk l c k).binds fun _ _ _ _ _ _ us hl => match us, hl with | [_, _], _ => rfl⟩
theorem fb_t21 {K : PySem.W.Frag} {f : Addr} {oc kV doc pm cdv ct : Value} {od an : Option Addr} {osl : Array (Option Value)}
    (l : K.lookup f = some ⟨oc, od, .func (PySem.W.fnOf "_law_box" "_law_box" (defArgs (top 21)) (defBody (top 21)) (defScope (top 21)) .none kV doc pm an cdv ct), osl⟩) (c : PySem.W.codeIn K cdv "_law_box" = true) (k : PySem.W.keepIn K (.ref f) = true) : FnB K "_law_box" "_law_box" (top 21) f ["_law_cell_here"] :=
  ⟨_, fun_mk l c k, (fun_mk l c k).binds fun _ _ _ _ _ _ us hl => match us, hl with | [_], _ => rfl⟩
theorem fb_t22 {K : PySem.W.Frag} {f : Addr} {oc kV doc pm cdv ct : Value} {od an : Option Addr} {osl : Array (Option Value)}
    (l : K.lookup f = some ⟨oc, od, .func (PySem.W.fnOf "_law_take" "_law_take" (defArgs (top 22)) (defBody (top 22)) (defScope (top 22)) .none kV doc pm an cdv ct), osl⟩) (c : PySem.W.codeIn K cdv "_law_take" = true) (k : PySem.W.keepIn K (.ref f) = true) : FnB K "_law_take" "_law_take" (top 22) f ["_law_box_here", "_law_many"] :=
  ⟨_, fun_mk l c k, (fun_mk l c k).binds fun _ _ _ _ _ _ us hl => match us, hl with | [_, _], _ => rfl⟩
theorem fb_t23 {K : PySem.W.Frag} {f : Addr} {oc kV doc pm cdv ct : Value} {od an : Option Addr} {osl : Array (Option Value)}
    (l : K.lookup f = some ⟨oc, od, .func (PySem.W.fnOf "_law_low" "_law_low" (defArgs (top 23)) (defBody (top 23)) (defScope (top 23)) .none kV doc pm an cdv ct), osl⟩) (c : PySem.W.codeIn K cdv "_law_low" = true) (k : PySem.W.keepIn K (.ref f) = true) : FnB K "_law_low" "_law_low" (top 23) f ["_law_top", "_law_bottom"] :=
  ⟨_, fun_mk l c k, (fun_mk l c k).binds fun _ _ _ _ _ _ us hl => match us, hl with | [_, _], _ => rfl⟩
theorem fb_t24 {K : PySem.W.Frag} {f : Addr} {oc kV doc pm cdv ct : Value} {od an : Option Addr} {osl : Array (Option Value)}
    (l : K.lookup f = some ⟨oc, od, .func (PySem.W.fnOf "_law_plus" "_law_plus" (defArgs (top 24)) (defBody (top 24)) (defScope (top 24)) .none kV doc pm an cdv ct), osl⟩) (c : PySem.W.codeIn K cdv "_law_plus" = true) (k : PySem.W.keepIn K (.ref f) = true) : FnB K "_law_plus" "_law_plus" (top 24) f ["_law_one", "_law_other"] :=
  ⟨_, fun_mk l c k, (fun_mk l c k).binds fun _ _ _ _ _ _ us hl => match us, hl with | [_, _], _ => rfl⟩
theorem fb_t25 {K : PySem.W.Frag} {f : Addr} {oc kV doc pm cdv ct : Value} {od an : Option Addr} {osl : Array (Option Value)}
    (l : K.lookup f = some ⟨oc, od, .func (PySem.W.fnOf "_law_less" "_law_less" (defArgs (top 25)) (defBody (top 25)) (defScope (top 25)) .none kV doc pm an cdv ct), osl⟩) (c : PySem.W.codeIn K cdv "_law_less" = true) (k : PySem.W.keepIn K (.ref f) = true) : FnB K "_law_less" "_law_less" (top 25) f ["_law_one", "_law_other"] :=
  ⟨_, fun_mk l c k, (fun_mk l c k).binds fun _ _ _ _ _ _ us hl => match us, hl with | [_, _], _ => rfl⟩
theorem fb_t26 {K : PySem.W.Frag} {f : Addr} {oc kV doc pm cdv ct : Value} {od an : Option Addr} {osl : Array (Option Value)}
    (l : K.lookup f = some ⟨oc, od, .func (PySem.W.fnOf "_law_is" "_law_is" (defArgs (top 26)) (defBody (top 26)) (defScope (top 26)) .none kV doc pm an cdv ct), osl⟩) (c : PySem.W.codeIn K cdv "_law_is" = true) (k : PySem.W.keepIn K (.ref f) = true) : FnB K "_law_is" "_law_is" (top 26) f ["_law_ratio", "_law_pair_here"] :=
  ⟨_, fun_mk l c k, (fun_mk l c k).binds fun _ _ _ _ _ _ us hl => match us, hl with | [_, _], _ => rfl⟩
theorem fb_t27 {K : PySem.W.Frag} {f : Addr} {oc kV doc pm cdv ct : Value} {od an : Option Addr} {osl : Array (Option Value)}
    (l : K.lookup f = some ⟨oc, od, .func (PySem.W.fnOf "_law_pair" "_law_pair" (defArgs (top 27)) (defBody (top 27)) (defScope (top 27)) .none kV doc pm an cdv ct), osl⟩) (c : PySem.W.codeIn K cdv "_law_pair" = true) (k : PySem.W.keepIn K (.ref f) = true) : FnB K "_law_pair" "_law_pair" (top 27) f ["_law_box_here"] :=
  ⟨_, fun_mk l c k, (fun_mk l c k).binds fun _ _ _ _ _ _ us hl => match us, hl with | [_], _ => rfl⟩
theorem fb_t28 {K : PySem.W.Frag} {f : Addr} {oc kV doc pm cdv ct : Value} {od an : Option Addr} {osl : Array (Option Value)}
    (l : K.lookup f = some ⟨oc, od, .func (PySem.W.fnOf "_law_written" "_law_written" (defArgs (top 28)) (defBody (top 28)) (defScope (top 28)) .none kV doc pm an cdv ct), osl⟩) (c : PySem.W.codeIn K cdv "_law_written" = true) (k : PySem.W.keepIn K (.ref f) = true) : FnB K "_law_written" "_law_written" (top 28) f ["_law_pair_here"] :=
  ⟨_, fun_mk l c k, (fun_mk l c k).binds fun _ _ _ _ _ _ us hl => match us, hl with | [_], _ => rfl⟩
theorem fb_t29 {K : PySem.W.Frag} {f : Addr} {oc kV doc pm cdv ct : Value} {od an : Option Addr} {osl : Array (Option Value)}
    (l : K.lookup f = some ⟨oc, od, .func (PySem.W.fnOf "_law_plain" "_law_plain" (defArgs (top 29)) (defBody (top 29)) (defScope (top 29)) .none kV doc pm an cdv ct), osl⟩) (c : PySem.W.codeIn K cdv "_law_plain" = true) (k : PySem.W.keepIn K (.ref f) = true) : FnB K "_law_plain" "_law_plain" (top 29) f ["_law_word"] :=
  ⟨_, fun_mk l c k, (fun_mk l c k).binds fun _ _ _ _ _ _ us hl => match us, hl with | [_], _ => rfl⟩
theorem fb_t30 {K : PySem.W.Frag} {f : Addr} {oc kV doc pm cdv ct : Value} {od an : Option Addr} {osl : Array (Option Value)}
    (l : K.lookup f = some ⟨oc, od, .func (PySem.W.fnOf "_law_due" "_law_due" (defArgs (top 30)) (defBody (top 30)) (defScope (top 30)) .none kV doc pm an cdv ct), osl⟩) (c : PySem.W.codeIn K cdv "_law_due" = true) (k : PySem.W.keepIn K (.ref f) = true) : FnB K "_law_due" "_law_due" (top 30) f ["_law_text"] :=
  ⟨_, fun_mk l c k, (fun_mk l c k).binds fun _ _ _ _ _ _ us hl => match us, hl with | [_], _ => rfl⟩
theorem fb_t31 {K : PySem.W.Frag} {f : Addr} {oc kV doc pm cdv ct : Value} {od an : Option Addr} {osl : Array (Option Value)}
    (l : K.lookup f = some ⟨oc, od, .func (PySem.W.fnOf "_law_near" "_law_near" (defArgs (top 31)) (defBody (top 31)) (defScope (top 31)) .none kV doc pm an cdv ct), osl⟩) (c : PySem.W.codeIn K cdv "_law_near" = true) (k : PySem.W.keepIn K (.ref f) = true) : FnB K "_law_near" "_law_near" (top 31) f ["_law_box_here", "_law_text"] :=
  ⟨_, fun_mk l c k, (fun_mk l c k).binds fun _ _ _ _ _ _ us hl => match us, hl with | [_, _], _ => rfl⟩
theorem fb_t32 {K : PySem.W.Frag} {f : Addr} {oc kV doc pm cdv ct : Value} {od an : Option Addr} {osl : Array (Option Value)}
    (l : K.lookup f = some ⟨oc, od, .func (PySem.W.fnOf "_law_read_right" "_law_read_right" (defArgs (top 32)) (defBody (top 32)) (defScope (top 32)) .none kV doc pm an cdv ct), osl⟩) (c : PySem.W.codeIn K cdv "_law_read_right" = true) (k : PySem.W.keepIn K (.ref f) = true) : FnB K "_law_read_right" "_law_read_right" (top 32) f ["_law_text"] :=
  ⟨_, fun_mk l c k, (fun_mk l c k).binds fun _ _ _ _ _ _ us hl => match us, hl with | [_], _ => rfl⟩
theorem fb_t33 {K : PySem.W.Frag} {f : Addr} {oc kV doc pm cdv ct : Value} {od an : Option Addr} {osl : Array (Option Value)}
    (l : K.lookup f = some ⟨oc, od, .func (PySem.W.fnOf "_law_no_number" "_law_no_number" (defArgs (top 33)) (defBody (top 33)) (defScope (top 33)) .none kV doc pm an cdv ct), osl⟩) (c : PySem.W.codeIn K cdv "_law_no_number" = true) (k : PySem.W.keepIn K (.ref f) = true) : FnB K "_law_no_number" "_law_no_number" (top 33) f ["_law_thing"] :=
  ⟨_, fun_mk l c k, (fun_mk l c k).binds fun _ _ _ _ _ _ us hl => match us, hl with | [_], _ => rfl⟩
theorem fb_t34 {K : PySem.W.Frag} {f : Addr} {oc kV doc pm cdv ct : Value} {od an : Option Addr} {osl : Array (Option Value)}
    (l : K.lookup f = some ⟨oc, od, .func (PySem.W.fnOf "_law_lists_right" "_law_lists_right" (defArgs (top 34)) (defBody (top 34)) (defScope (top 34)) .none kV doc pm an cdv ct), osl⟩) (c : PySem.W.codeIn K cdv "_law_lists_right" = true) (k : PySem.W.keepIn K (.ref f) = true) : FnB K "_law_lists_right" "_law_lists_right" (top 34) f ["_law_box_here", "_law_pairs"] :=
  ⟨_, fun_mk l c k, (fun_mk l c k).binds fun _ _ _ _ _ _ us hl => match us, hl with | [_, _], _ => rfl⟩
theorem fb_t35 {K : PySem.W.Frag} {f : Addr} {oc kV doc pm cdv ct : Value} {od an : Option Addr} {osl : Array (Option Value)}
    (l : K.lookup f = some ⟨oc, od, .func (PySem.W.fnOf "law" "law" (defArgs (top 35)) (defBody (top 35)) (defScope (top 35)) .none kV doc pm an cdv ct), osl⟩) (c : PySem.W.codeIn K cdv "law" = true) (k : PySem.W.keepIn K (.ref f) = true) : FnB K "law" "law" (top 35) f ["_law_script"] :=
  ⟨_, fun_mk l c k, (fun_mk l c k).binds fun _ _ _ _ _ _ us hl => match us, hl with | [_], _ => rfl⟩
theorem fb_m3 {K : PySem.W.Frag} {f : Addr} {oc kV doc pm cdv ct : Value} {od an : Option Addr} {osl : Array (Option Value)}
    (l : K.lookup f = some ⟨oc, od, .func (PySem.W.fnOf "__add__" "Ratio.__add__" (defArgs (mth 3)) (defBody (mth 3)) (defScope (mth 3)) .none kV doc pm an cdv ct), osl⟩) (c : PySem.W.codeIn K cdv "Ratio.__add__" = true) (k : PySem.W.keepIn K (.ref f) = true) : FnB K "__add__" "Ratio.__add__" (mth 3) f ["self", "other"] :=
  ⟨_, fun_mk l c k, (fun_mk l c k).binds fun _ _ _ _ _ _ us hl => match us, hl with | [_, _], _ => rfl⟩
theorem fb_m5 {K : PySem.W.Frag} {f : Addr} {oc kV doc pm cdv ct : Value} {od an : Option Addr} {osl : Array (Option Value)}
    (l : K.lookup f = some ⟨oc, od, .func (PySem.W.fnOf "__sub__" "Ratio.__sub__" (defArgs (mth 5)) (defBody (mth 5)) (defScope (mth 5)) .none kV doc pm an cdv ct), osl⟩) (c : PySem.W.codeIn K cdv "Ratio.__sub__" = true) (k : PySem.W.keepIn K (.ref f) = true) : FnB K "__sub__" "Ratio.__sub__" (mth 5) f ["self", "other"] :=
  ⟨_, fun_mk l c k, (fun_mk l c k).binds fun _ _ _ _ _ _ us hl => match us, hl with | [_, _], _ => rfl⟩
theorem fb_m7 {K : PySem.W.Frag} {f : Addr} {oc kV doc pm cdv ct : Value} {od an : Option Addr} {osl : Array (Option Value)}
    (l : K.lookup f = some ⟨oc, od, .func (PySem.W.fnOf "__mul__" "Ratio.__mul__" (defArgs (mth 7)) (defBody (mth 7)) (defScope (mth 7)) .none kV doc pm an cdv ct), osl⟩) (c : PySem.W.codeIn K cdv "Ratio.__mul__" = true) (k : PySem.W.keepIn K (.ref f) = true) : FnB K "__mul__" "Ratio.__mul__" (mth 7) f ["self", "other"] :=
  ⟨_, fun_mk l c k, (fun_mk l c k).binds fun _ _ _ _ _ _ us hl => match us, hl with | [_, _], _ => rfl⟩
theorem fb_m9 {K : PySem.W.Frag} {f : Addr} {oc kV doc pm cdv ct : Value} {od an : Option Addr} {osl : Array (Option Value)}
    (l : K.lookup f = some ⟨oc, od, .func (PySem.W.fnOf "__neg__" "Ratio.__neg__" (defArgs (mth 9)) (defBody (mth 9)) (defScope (mth 9)) .none kV doc pm an cdv ct), osl⟩) (c : PySem.W.codeIn K cdv "Ratio.__neg__" = true) (k : PySem.W.keepIn K (.ref f) = true) : FnB K "__neg__" "Ratio.__neg__" (mth 9) f ["self"] :=
  ⟨_, fun_mk l c k, (fun_mk l c k).binds fun _ _ _ _ _ _ us hl => match us, hl with | [_], _ => rfl⟩
theorem fb_m11 {K : PySem.W.Frag} {f : Addr} {oc kV doc pm cdv ct : Value} {od an : Option Addr} {osl : Array (Option Value)}
    (l : K.lookup f = some ⟨oc, od, .func (PySem.W.fnOf "__str__" "Ratio.__str__" (defArgs (mth 11)) (defBody (mth 11)) (defScope (mth 11)) .none kV doc pm an cdv ct), osl⟩) (c : PySem.W.codeIn K cdv "Ratio.__str__" = true) (k : PySem.W.keepIn K (.ref f) = true) : FnB K "__str__" "Ratio.__str__" (mth 11) f ["self"] :=
  ⟨_, fun_mk l c k, (fun_mk l c k).binds fun _ _ _ _ _ _ us hl => match us, hl with | [_], _ => rfl⟩
theorem fb_m13 {K : PySem.W.Frag} {f : Addr} {oc kV doc pm cdv ct : Value} {od an : Option Addr} {osl : Array (Option Value)}
    (l : K.lookup f = some ⟨oc, od, .func (PySem.W.fnOf "below" "Ratio.below" (defArgs (mth 13)) (defBody (mth 13)) (defScope (mth 13)) .none kV doc pm an cdv ct), osl⟩) (c : PySem.W.codeIn K cdv "Ratio.below" = true) (k : PySem.W.keepIn K (.ref f) = true) : FnB K "below" "Ratio.below" (mth 13) f ["self", "number"] :=
  ⟨_, fun_mk l c k, (fun_mk l c k).binds fun _ _ _ _ _ _ us hl => match us, hl with | [_, _], _ => rfl⟩
theorem fb_m14 {K : PySem.W.Frag} {f : Addr} {oc kV doc pm cdv ct : Value} {od an : Option Addr} {osl : Array (Option Value)}
    (l : K.lookup f = some ⟨oc, od, .func (PySem.W.fnOf "text" "Ratio.text" (defArgs (mth 14)) (defBody (mth 14)) (defScope (mth 14)) .none kV doc pm an cdv ct), osl⟩) (c : PySem.W.codeIn K cdv "Ratio.text" = true) (k : PySem.W.keepIn K (.ref f) = true) : FnB K "text" "Ratio.text" (mth 14) f ["self"] :=
  ⟨_, fun_mk l c k, (fun_mk l c k).binds fun _ _ _ _ _ _ us hl => match us, hl with | [_], _ => rfl⟩
theorem fb_m1 {K : PySem.W.Frag} {f : Addr} {oc kV doc pm cdv ct : Value} {od an : Option Addr} {osl : Array (Option Value)}
    (l : K.lookup f = some ⟨oc, od, .func (PySem.W.fnOf "top" "Ratio.top" (defArgs (mth 1)) (defBody (mth 1)) (defScope (mth 1)) .none kV doc pm an cdv ct), osl⟩) (c : PySem.W.codeIn K cdv "Ratio.top" = true) (k : PySem.W.keepIn K (.ref f) = true) : FnB K "top" "Ratio.top" (mth 1) f ["self"] :=
  ⟨_, fun_mk l c k, (fun_mk l c k).binds fun _ _ _ _ _ _ us hl => match us, hl with | [_], _ => rfl⟩
theorem fb_m2 {K : PySem.W.Frag} {f : Addr} {oc kV doc pm cdv ct : Value} {od an : Option Addr} {osl : Array (Option Value)}
    (l : K.lookup f = some ⟨oc, od, .func (PySem.W.fnOf "bottom" "Ratio.bottom" (defArgs (mth 2)) (defBody (mth 2)) (defScope (mth 2)) .none kV doc pm an cdv ct), osl⟩) (c : PySem.W.codeIn K cdv "Ratio.bottom" = true) (k : PySem.W.keepIn K (.ref f) = true) : FnB K "bottom" "Ratio.bottom" (mth 2) f ["self"] :=
  ⟨_, fun_mk l c k, (fun_mk l c k).binds fun _ _ _ _ _ _ us hl => match us, hl with | [_], _ => rfl⟩
/-- __init__ with its default -/
def FnI (K : PySem.W.Frag) (f : Addr) : Prop := ∃ fd, FunD K "__init__" "Ratio.__init__" (defArgs (mth 0)) (defBody (mth 0)) (defScope (mth 0)) [.int 1] [] f fd
theorem fi_mk {K : PySem.W.Frag} {f T : Addr} {oc kV doc pm cdv ct : Value} {od an : Option Addr} {osl : Array (Option Value)} {o : Obj} {t : Tok} {n : Nat}
    (l : K.lookup f = some ⟨oc, od, .func (PySem.W.fnOf "__init__" "Ratio.__init__" (defArgs (mth 0)) (defBody (mth 0)) (defScope (mth 0)) (.ref T) kV doc pm an cdv ct), osl⟩) (c : PySem.W.codeIn K cdv "Ratio.__init__" = true) (k : PySem.W.keepIn K (.ref f) = true)
    (lT : K.lookup T = some o) (oT : o.data = .seq #[.int 1 t] n) : FnI K f :=
  ⟨_, ⟨⟨oc, od, .ref T, kV, doc, pm, an, cdv, ct, osl, rfl, l, c, .inr ⟨by simp, T, o, [.int 1 t], n, rfl, lT, oT, .cons ⟨t, rfl⟩ .nil⟩, .inl rfl⟩, k⟩⟩
theorem init_binds {K : PySem.W.Frag} {f : Addr} {fd : FuncData} (F : FunD K "__init__" "Ratio.__init__" (defArgs (mth 0)) (defBody (mth 0)) (defScope (mth 0)) [.int 1] [] f fd) : Binds K fd ["self", "top", "bottom"] [] := by
  obtain ⟨ds, r, b⟩ := F.binds1 (ps := ["self", "top", "bottom"]) 3 1 (by simp) rfl fun T kV doc pm an cdv ct us its hu hi => match us, its, hu, hi with | [_, _, _], [_], _, _ => ⟨_, rfl, rfl⟩
  cases r
  exact b
theorem init_binds1 {K : PySem.W.Frag} {f : Addr} {fd : FuncData} (F : FunD K "__init__" "Ratio.__init__" (defArgs (mth 0)) (defBody (mth 0)) (defScope (mth 0)) [.int 1] [] f fd) : ∃ u, RelV (.int 1) u ∧ Binds K fd ["self", "top", "bottom"] [u] := by
  obtain ⟨ds, r, b⟩ := F.binds1 (ps := ["self", "top", "bottom"]) 2 0 (by simp) rfl fun T kV doc pm an cdv ct us its hu hi => match us, its, hu, hi with | [_, _], [_], _, _ => ⟨_, rfl, rfl⟩
  cases r with
  | cons r1 r2 =>
    cases r2
    exact ⟨_, r1, b⟩
/-- a class of errors that keep what was given, written by the top -/
def GeK (K : PySem.W.Frag) (x : Str) (i : Nat) (B fI : Addr) : Prop := PySem.W.nsIn K mainGlobals x = some (some (.ref B)) ∧ ErC K B fI "given" ∧ Vx.IsC K B ∧ (∃ fd, L2.Fun K "__init__" (x ++ ".__init__") (inClass (top i) 0) fI fd ∧ Binds K fd ["self", "given"] []) ∧
  (PySem.W.subIn K (.ref B) (.type "BaseException") = some true ∧ PySem.W.typeIn K (.ref B) = some (.type "type")) ∧ PySem.W.exmOne K (.ref B) (.ref B) = some true
theorem ge_of {P : Program} {w : World} {K : PySem.W.Frag} {h : Heap} {mg : Str → Option Value} {base : Heap} {x : Str} {i : Nat} {B fI D : Addr} {p1 p2 p3 p4 : Pos} (X : K.In h) (G : h.Ns mainGlobals mg) (g : GeK K x i B fI) (gD : mg "DrawError" = some (.ref D)) (one : PySem.W.kitOne K (.ref B) (.ref D) = some true)
    (hb : defBody (inClass (top i) 0) = [.Assign [.Attribute (.Name "self" p1) "given" p2] (.Name "given" p3) p4])
    (sc : FnScope ["self", "given"] ["self", "given"] (defScope (inClass (top i) 0))) (v1 : (defScope (inClass (top i) 0)).names.lookup ("self" : Str) = some NameKind.local) (v2 : (defScope (inClass (top i) 0)).names.lookup ("given" : Str) = some NameKind.local) :
    Ge P w K mg base x B D := by
  obtain ⟨a, E, I, ⟨fd, F, b⟩, r, e⟩ := g
  exact ⟨⟨PySem.W.mg_of X G a, I.xf, r, e, fI, fd, E, ok_einit E F hb sc v1 v2 (by decide) (by decide), b⟩, I, E.no, gD, one⟩
theorem ge_mk {K : PySem.W.Frag} {x : Str} {i : Nat} {C fI : Addr}
    {nm q : Str} {N : Addr} {bs bm : List Value} {sn : List Str} {sub : List Value} {ab : Bool} {col : Option Bool} {dd : Option Addr} {m0 m1 m2 m3 m5 : Option Value}
    {od an : Option Addr} {sl : Array (Option Value)} {oc kV dc pm cd ct : Value}
    (aC : PySem.W.nsIn K mainGlobals x = some (some (.ref C)))
    (xL : K.lookup C = some (excClassObj nm q C N bs bm true sn sub ab col dd m0 m1 m2 m3 m5 "ValueError.__new__")) (hbm : PySem.HandSPX.refsVE bm = true)
    (i0 : PySem.W.findIn K (.ref C) "__init__" = some (some (.ref fI))) (eB : errB K C fI "given" = true) (iB : isB K C = true)
    (l1 : K.lookup fI = some ⟨oc, od, .func (PySem.W.fnOf "__init__" (x ++ ".__init__") (defArgs (inClass (top i) 0)) (defBody (inClass (top i) 0)) (defScope (inClass (top i) 0)) .none kV dc pm an cd ct), sl⟩) (c1 : PySem.W.codeIn K cd (x ++ ".__init__") = true)
    (b1 : ∀ (kV doc pm : Value) (an : Option Addr) (cdv ct : Value) (us : List Value), us.length = 2 → bindArgs (PySem.W.fnOf "__init__" (x ++ ".__init__") (defArgs (inClass (top i) 0)) (defBody (inClass (top i) 0)) (defScope (inClass (top i) 0)) .none kV doc pm an cdv ct) ⟨us, []⟩ = pure ((["self", "given"] : List Str).zip us))
    (eE : PySem.W.exmOne K (.ref C) (.ref C) = some true) : GeK K x i C fI := by
  unfold errB at eB
  simp only [Bool.and_eq_true, decide_eq_true_eq] at eB
  obtain ⟨sa, exC, tyC, kC, no, iC, tI, kI⟩ := eB
  have T : ErC K C fI "given" := ⟨⟨⟨nm, q, N, bs, bm, sn, sub, ab, col, dd, m0, m1, m2, m3, m5, xL, hbm⟩, sa, exC, tyC, kC⟩, no, iC, tI⟩
  exact ⟨aC, T, isB_ok iB, ⟨_, fun_mk l1 c1 kI, (fun_mk l1 c1 kI).binds b1⟩, ⟨exC, tyC⟩, eE⟩
theorem all_mk {l : PySem.W.OpenLaw} {w : World} {K : PySem.W.Frag} {h : Heap} {mg : Str → Option Value} {fa C D p1 p2 B1 fI1 B2 fI2 : Addr} {rest1 rest2 : List Value} (X : K.In h) (G : h.Ns mainGlobals mg) (hfa : mg "law" = some (.ref fa))
    {t3 t11 t12 t13 t14 t15 t16 t17 t18 t20 t21 t22 t23 t24 t25 t26 t27 t28 t29 t30 t31 t32 t33 t34 t35 m0 m1 m2 m3 m4 m5 m6 m7 m8 m9 m11 m13 m14 : Addr} {w0 w1 w2 w3 w4 w5 : Option Value}
    (aC : PySem.W.nsIn K mainGlobals "Ratio" = some (some (.ref C)))
    (aD : PySem.W.nsIn K mainGlobals "DrawError" = some (some (.ref D)))
    (ge1 : GeK K "BadNumber" 7 B1 fI1)
    (ge2 : GeK K "BadText" 8 B2 fI2)
    (eo1 : PySem.W.kitOne K (.ref B1) (.ref D) = some true)
    (eo2 : PySem.W.kitOne K (.ref B2) (.ref D) = some true)
    (at3 : PySem.W.nsIn K mainGlobals "is_whole" = some (some (.ref t3)))
    (kt3 : PySem.W.keepIn K (.ref t3) = true)
    (ft3 : FnB K "is_whole" "is_whole" (top 3) t3 ["value"])
    (at11 : PySem.W.nsIn K mainGlobals "is_number" = some (some (.ref t11)))
    (kt11 : PySem.W.keepIn K (.ref t11) = true)
    (ft11 : FnB K "is_number" "is_number" (top 11) t11 ["value"])
    (at12 : PySem.W.nsIn K mainGlobals "_parts" = some (some (.ref t12)))
    (kt12 : PySem.W.keepIn K (.ref t12) = true)
    (ft12 : FnB K "_parts" "_parts" (top 12) t12 ["number"])
    (at13 : PySem.W.nsIn K mainGlobals "as_ratio" = some (some (.ref t13)))
    (kt13 : PySem.W.keepIn K (.ref t13) = true)
    (ft13 : FnB K "as_ratio" "as_ratio" (top 13) t13 ["value"])
    (at14 : PySem.W.nsIn K mainGlobals "read_ratio" = some (some (.ref t14)))
    (kt14 : PySem.W.keepIn K (.ref t14) = true)
    (ft14 : FnB K "read_ratio" "read_ratio" (top 14) t14 ["text"])
    (at15 : PySem.W.nsIn K mainGlobals "_are_digits" = some (some (.ref t15)))
    (kt15 : PySem.W.keepIn K (.ref t15) = true)
    (ft15 : FnB K "_are_digits" "_are_digits" (top 15) t15 ["text"])
    (at16 : PySem.W.nsIn K mainGlobals "total" = some (some (.ref t16)))
    (kt16 : PySem.W.keepIn K (.ref t16) = true)
    (ft16 : FnB K "total" "total" (top 16) t16 ["numbers"])
    (at17 : PySem.W.nsIn K mainGlobals "greatest" = some (some (.ref t17)))
    (kt17 : PySem.W.keepIn K (.ref t17) = true)
    (ft17 : FnB K "greatest" "greatest" (top 17) t17 ["numbers"])
    (at18 : PySem.W.nsIn K mainGlobals "least" = some (some (.ref t18)))
    (kt18 : PySem.W.keepIn K (.ref t18) = true)
    (ft18 : FnB K "least" "least" (top 18) t18 ["numbers"])
    (at20 : PySem.W.nsIn K mainGlobals "_law_cell" = some (some (.ref t20)))
    (kt20 : PySem.W.keepIn K (.ref t20) = true)
    (ft20 : FnB K "_law_cell" "_law_cell" (top 20) t20 ["_law_script", "_law_k"])
    (at21 : PySem.W.nsIn K mainGlobals "_law_box" = some (some (.ref t21)))
    (kt21 : PySem.W.keepIn K (.ref t21) = true)
    (ft21 : FnB K "_law_box" "_law_box" (top 21) t21 ["_law_cell_here"])
    (at22 : PySem.W.nsIn K mainGlobals "_law_take" = some (some (.ref t22)))
    (kt22 : PySem.W.keepIn K (.ref t22) = true)
    (ft22 : FnB K "_law_take" "_law_take" (top 22) t22 ["_law_box_here", "_law_many"])
    (at23 : PySem.W.nsIn K mainGlobals "_law_low" = some (some (.ref t23)))
    (kt23 : PySem.W.keepIn K (.ref t23) = true)
    (ft23 : FnB K "_law_low" "_law_low" (top 23) t23 ["_law_top", "_law_bottom"])
    (at24 : PySem.W.nsIn K mainGlobals "_law_plus" = some (some (.ref t24)))
    (kt24 : PySem.W.keepIn K (.ref t24) = true)
    (ft24 : FnB K "_law_plus" "_law_plus" (top 24) t24 ["_law_one", "_law_other"])
    (at25 : PySem.W.nsIn K mainGlobals "_law_less" = some (some (.ref t25)))
    (kt25 : PySem.W.keepIn K (.ref t25) = true)
    (ft25 : FnB K "_law_less" "_law_less" (top 25) t25 ["_law_one", "_law_other"])
    (at26 : PySem.W.nsIn K mainGlobals "_law_is" = some (some (.ref t26)))
    (kt26 : PySem.W.keepIn K (.ref t26) = true)
    (ft26 : FnB K "_law_is" "_law_is" (top 26) t26 ["_law_ratio", "_law_pair_here"])
    (at27 : PySem.W.nsIn K mainGlobals "_law_pair" = some (some (.ref t27)))
    (kt27 : PySem.W.keepIn K (.ref t27) = true)
    (ft27 : FnB K "_law_pair" "_law_pair" (top 27) t27 ["_law_box_here"])
    (at28 : PySem.W.nsIn K mainGlobals "_law_written" = some (some (.ref t28)))
    (kt28 : PySem.W.keepIn K (.ref t28) = true)
    (ft28 : FnB K "_law_written" "_law_written" (top 28) t28 ["_law_pair_here"])
    (at29 : PySem.W.nsIn K mainGlobals "_law_plain" = some (some (.ref t29)))
    (kt29 : PySem.W.keepIn K (.ref t29) = true)
    (ft29 : FnB K "_law_plain" "_law_plain" (top 29) t29 ["_law_word"])
    (at30 : PySem.W.nsIn K mainGlobals "_law_due" = some (some (.ref t30)))
    (kt30 : PySem.W.keepIn K (.ref t30) = true)
    (ft30 : FnB K "_law_due" "_law_due" (top 30) t30 ["_law_text"])
    (at31 : PySem.W.nsIn K mainGlobals "_law_near" = some (some (.ref t31)))
    (kt31 : PySem.W.keepIn K (.ref t31) = true)
    (ft31 : FnB K "_law_near" "_law_near" (top 31) t31 ["_law_box_here", "_law_text"])
    (at32 : PySem.W.nsIn K mainGlobals "_law_read_right" = some (some (.ref t32)))
    (kt32 : PySem.W.keepIn K (.ref t32) = true)
    (ft32 : FnB K "_law_read_right" "_law_read_right" (top 32) t32 ["_law_text"])
    (at33 : PySem.W.nsIn K mainGlobals "_law_no_number" = some (some (.ref t33)))
    (kt33 : PySem.W.keepIn K (.ref t33) = true)
    (ft33 : FnB K "_law_no_number" "_law_no_number" (top 33) t33 ["_law_thing"])
    (at34 : PySem.W.nsIn K mainGlobals "_law_lists_right" = some (some (.ref t34)))
    (kt34 : PySem.W.keepIn K (.ref t34) = true)
    (ft34 : FnB K "_law_lists_right" "_law_lists_right" (top 34) t34 ["_law_box_here", "_law_pairs"])
    (at35 : PySem.W.nsIn K mainGlobals "law" = some (some (.ref t35)))
    (kt35 : PySem.W.keepIn K (.ref t35) = true)
    (ft35 : FnB K "law" "law" (top 35) t35 ["_law_script"])
    (am3 : PySem.W.findIn K (.ref C) "__add__" = some (some (.ref m3)))
    (im3 : PySem.W.isFn K (.ref m3) = true)
    (km3 : PySem.W.keepIn K (.ref m3) = true)
    (fm3 : FnB K "__add__" "Ratio.__add__" (mth 3) m3 ["self", "other"])
    (am5 : PySem.W.findIn K (.ref C) "__sub__" = some (some (.ref m5)))
    (im5 : PySem.W.isFn K (.ref m5) = true)
    (km5 : PySem.W.keepIn K (.ref m5) = true)
    (fm5 : FnB K "__sub__" "Ratio.__sub__" (mth 5) m5 ["self", "other"])
    (am7 : PySem.W.findIn K (.ref C) "__mul__" = some (some (.ref m7)))
    (im7 : PySem.W.isFn K (.ref m7) = true)
    (km7 : PySem.W.keepIn K (.ref m7) = true)
    (fm7 : FnB K "__mul__" "Ratio.__mul__" (mth 7) m7 ["self", "other"])
    (am9 : PySem.W.findIn K (.ref C) "__neg__" = some (some (.ref m9)))
    (im9 : PySem.W.isFn K (.ref m9) = true)
    (km9 : PySem.W.keepIn K (.ref m9) = true)
    (fm9 : FnB K "__neg__" "Ratio.__neg__" (mth 9) m9 ["self"])
    (am11 : PySem.W.findIn K (.ref C) "__str__" = some (some (.ref m11)))
    (im11 : PySem.W.isFn K (.ref m11) = true)
    (km11 : PySem.W.keepIn K (.ref m11) = true)
    (fm11 : FnB K "__str__" "Ratio.__str__" (mth 11) m11 ["self"])
    (am13 : PySem.W.findIn K (.ref C) "below" = some (some (.ref m13)))
    (im13 : PySem.W.isFn K (.ref m13) = true)
    (km13 : PySem.W.keepIn K (.ref m13) = true)
    (fm13 : FnB K "below" "Ratio.below" (mth 13) m13 ["self", "number"])
    (am14 : PySem.W.findIn K (.ref C) "text" = some (some (.ref m14)))
    (im14 : PySem.W.isFn K (.ref m14) = true)
    (km14 : PySem.W.keepIn K (.ref m14) = true)
    (fm14 : FnB K "text" "Ratio.text" (mth 14) m14 ["self"])
    (am4 : PySem.W.findIn K (.ref C) "__radd__" = some (some (.ref m4)))
    (am6 : PySem.W.findIn K (.ref C) "__rsub__" = some (some (.ref m6)))
    (am8 : PySem.W.findIn K (.ref C) "__rmul__" = some (some (.ref m8)))
    (pa1 : PySem.W.findIn K (.ref C) "top" = some (some (.ref p1)))
    (pg1 : PySem.W.specialIn K (.ref p1) "__get__" = some (some (.builtin "property.__get__")))
    (pt1 : PySem.W.takesIn K (.ref p1) = some true)
    (pr1 : PySem.W.recIn K p1 "property" = some (.ref m1 :: rest1))
    (fm1 : FnB K "top" "Ratio.top" (mth 1) m1 ["self"])
    (pa2 : PySem.W.findIn K (.ref C) "bottom" = some (some (.ref p2)))
    (pg2 : PySem.W.specialIn K (.ref p2) "__get__" = some (some (.builtin "property.__get__")))
    (pt2 : PySem.W.takesIn K (.ref p2) = some true)
    (pr2 : PySem.W.recIn K p2 "property" = some (.ref m2 :: rest2))
    (fm2 : FnB K "bottom" "Ratio.bottom" (mth 2) m2 ["self"])
    (ai : PySem.W.findIn K (.ref C) "__init__" = some (some (.ref m0)))
    (ii : PySem.W.isFn K (.ref m0) = true)
    (fi : FnI K m0)
    (mks : PySem.W.makesIn K C = true)
    (kC : PySem.W.keepIn K (.ref C) = true)
    (cpg : PySem.W.plainGet K C Str.empty = true)
    (chd : PySem.W.hasDictIn K C = true)
    (cpo : PySem.W.plainOver K C = true)
    (csa : PySem.W.findIn K (.ref C) "__setattr__" = some (some (.builtin "object.__setattr__")))
    (csf : PySem.W.selfFirst K C = true)
    (cob : PySem.W.mroIn K C (.type "object") = some true)
    (noT : PySem.W.findIn K (.ref C) "_top" = some none)
    (noB : PySem.W.findIn K (.ref C) "_bottom" = some none)
    (ha : PySem.W.findIn K (.ref C) "__class__" = some (some (.builtin "object.__class__")))
    (hn : PySem.W.specialIn K (.builtin "object.__class__") "__get__" = some (some (.builtin "getset_descriptor.__get__")))
    (htk : PySem.W.takesIn K (.builtin "object.__class__") = some true)
    (one : PySem.W.kitOne K (.ref C) (.ref C) = some true)
    (isb : PySem.W.subIn K (.type "int") (.ref C) = some false)
    (fo0 : PySem.W.mroIn K C (.type "NoneType") = some false)
    (fn0 : PySem.W.notFirst K C (.type "NoneType") = true)
    (fk0 : PySem.W.kitOne K (.type "NoneType") (.ref C) = some false)
    (fo1 : PySem.W.mroIn K C (.type "bool") = some false)
    (fn1 : PySem.W.notFirst K C (.type "bool") = true)
    (fk1 : PySem.W.kitOne K (.type "bool") (.ref C) = some false)
    (fo2 : PySem.W.mroIn K C (.type "int") = some false)
    (fn2 : PySem.W.notFirst K C (.type "int") = true)
    (fk2 : PySem.W.kitOne K (.type "int") (.ref C) = some false)
    (fo3 : PySem.W.mroIn K C (.type "str") = some false)
    (fn3 : PySem.W.notFirst K C (.type "str") = true)
    (fk3 : PySem.W.kitOne K (.type "str") (.ref C) = some false)
    (fo4 : PySem.W.mroIn K C (.type "list") = some false)
    (fn4 : PySem.W.notFirst K C (.type "list") = true)
    (fk4 : PySem.W.kitOne K (.type "list") (.ref C) = some false)
    (fo5 : PySem.W.mroIn K C (.type "tuple") = some false)
    (fn5 : PySem.W.notFirst K C (.type "tuple") = true)
    (fk5 : PySem.W.kitOne K (.type "tuple") (.ref C) = some false)
    (fo6 : PySem.W.mroIn K C (.type "dict") = some false)
    (fn6 : PySem.W.notFirst K C (.type "dict") = true)
    (fk6 : PySem.W.kitOne K (.type "dict") (.ref C) = some false)
    (z0 : PySem.W.findIn K (.type "int") "__add__" = some w0)
    (z1 : PySem.W.findIn K (.type "int") "__radd__" = some w1)
    (z2 : PySem.W.findIn K (.type "int") "__sub__" = some w2)
    (z3 : PySem.W.findIn K (.type "int") "__rsub__" = some w3)
    (z4 : PySem.W.findIn K (.type "int") "__mul__" = some w4)
    (z5 : PySem.W.findIn K (.type "int") "__rmul__" = some w5)
    (b_len : PySem.W.nsIn K mainGlobals "len" = some none)
    (b_sum : PySem.W.nsIn K mainGlobals "sum" = some none)
    (b_abs : PySem.W.nsIn K mainGlobals "abs" = some none)
    (b_int : PySem.W.nsIn K mainGlobals "int" = some none)
    (b_isinstance : PySem.W.nsIn K mainGlobals "isinstance" = some none)
    (b_bool : PySem.W.nsIn K mainGlobals "bool" = some none)
    (b_range : PySem.W.nsIn K mainGlobals "range" = some none)
    (b_str : PySem.W.nsIn K mainGlobals "str" = some none)
    (b_max : PySem.W.nsIn K mainGlobals "max" = some none)
    (b_min : PySem.W.nsIn K mainGlobals "min" = some none)
    (b_repr : PySem.W.nsIn K mainGlobals "repr" = some none)
    (b_tuple : PySem.W.nsIn K mainGlobals "tuple" = some none)
    (b_gcd : PySem.W.nsIn K mainGlobals "gcd" = some (some (.builtin "math.gcd")))
    : ∃ fd : FuncData, (∀ (s : Shared) (u : Value), BindsTo s fd ⟨[u], []⟩ [("_law_script", u)]) ∧
        ∀ base : Heap, K.In base → base.Ns mainGlobals mg → Kp l.prog w K mg base CX0 7 fa fd ["_law_script"] (spLaw K) := by
  have e := hfa.symm.trans (PySem.W.mg_of X G at35)
  cases e
  have T : Bt mg := ⟨PySem.W.mg_none_of X G b_len, PySem.W.mg_none_of X G b_sum, PySem.W.mg_none_of X G b_abs, PySem.W.mg_none_of X G b_int, PySem.W.mg_none_of X G b_isinstance, PySem.W.mg_none_of X G b_bool, PySem.W.mg_none_of X G b_range, PySem.W.mg_none_of X G b_str, PySem.W.mg_none_of X G b_max, PySem.W.mg_none_of X G b_min, PySem.W.mg_of X G b_gcd⟩
  have gC := PySem.W.mg_of X G aC
  have gD := PySem.W.mg_of X G aD
  have hrp := PySem.W.mg_none_of X G b_repr
  have htp := PySem.W.mg_none_of X G b_tuple
  have far : Far K C := by
    refine ⟨fun T h => ?_, fun T h => ?_⟩ <;>
      (simp only [List.mem_cons, List.not_mem_nil, or_false] at h
       rcases h with h | h | h | h | h | h | h <;> subst h <;> assumption)
  have oth : ∀ T ∈ ["NoneType", "bool", "int", "str", "list", "tuple", "dict"], PySem.W.kitOne K (.type T) (.ref C) = some false := by
    intro T h
    simp only [List.mem_cons, List.not_mem_nil, or_false] at h
    rcases h with h | h | h | h | h | h | h <;> subst h <;> assumption
  have R : Rc K C := ⟨⟨⟨cpg, chd, cpo, csa⟩, csf, cob, fo2⟩, far, noT, noB, ha, hn, htk, one, oth⟩
  obtain ⟨fdI, FI⟩ := fi
  have mkC : Mk K C m0 := ⟨mks, ai, ii, kC⟩
  obtain ⟨d3, F3, b3⟩ := ft3
  obtain ⟨d11, F11, b11⟩ := ft11
  obtain ⟨d12, F12, b12⟩ := ft12
  obtain ⟨d13, F13, b13⟩ := ft13
  obtain ⟨d14, F14, b14⟩ := ft14
  obtain ⟨d15, F15, b15⟩ := ft15
  obtain ⟨d16, F16, b16⟩ := ft16
  obtain ⟨d17, F17, b17⟩ := ft17
  obtain ⟨d18, F18, b18⟩ := ft18
  obtain ⟨d20, F20, b20⟩ := ft20
  obtain ⟨d21, F21, b21⟩ := ft21
  obtain ⟨d22, F22, b22⟩ := ft22
  obtain ⟨d23, F23, b23⟩ := ft23
  obtain ⟨d24, F24, b24⟩ := ft24
  obtain ⟨d25, F25, b25⟩ := ft25
  obtain ⟨d26, F26, b26⟩ := ft26
  obtain ⟨d27, F27, b27⟩ := ft27
  obtain ⟨d28, F28, b28⟩ := ft28
  obtain ⟨d29, F29, b29⟩ := ft29
  obtain ⟨d30, F30, b30⟩ := ft30
  obtain ⟨d31, F31, b31⟩ := ft31
  obtain ⟨d32, F32, b32⟩ := ft32
  obtain ⟨d33, F33, b33⟩ := ft33
  obtain ⟨d34, F34, b34⟩ := ft34
  obtain ⟨d35, F35, b35⟩ := ft35
  obtain ⟨e1, M1, c1⟩ := fm1
  obtain ⟨e2, M2, c2⟩ := fm2
  obtain ⟨e3, M3, c3⟩ := fm3
  obtain ⟨e5, M5, c5⟩ := fm5
  obtain ⟨e7, M7, c7⟩ := fm7
  obtain ⟨e9, M9, c9⟩ := fm9
  obtain ⟨e11, M11, c11⟩ := fm11
  obtain ⟨e13, M13, c13⟩ := fm13
  obtain ⟨e14, M14, c14⟩ := fm14
  refine ⟨d35, fun s v => by
    obtain ⟨oc, od, kV, doc, pm, an, cdv, ct, osl, rfl, lk, hcd⟩ := F35.ex
    exact .of_eq rfl, fun base _ _ => ?_⟩
  have G1 : Ge l.prog w K mg base "BadNumber" B1 D := ge_of X G ge1 gD eo1 rfl ⟨rfl, rfl, rfl, by decide +kernel, rfl, by decide +kernel, by decide +kernel⟩ rfl rfl
  have G2 : Ge l.prog w K mg base "BadText" B2 D := ge_of X G ge2 gD eo2 rfl ⟨rfl, rfl, rfl, by decide +kernel, rfl, by decide +kernel, by decide +kernel⟩ rfl rfl
  have W : Cal l.prog w K mg base "is_whole" 1 ["value"] (spWhole K) := ⟨_, _, ok_whole F3 T, PySem.W.mg_of X G at3, kt3, b3⟩
  have us : Us l.prog w K mg base C := ⟨T, R, ⟨_, _, ok_number F11 T R gC W, PySem.W.mg_of X G at11, kt11, b11⟩, ⟨_, _, ok_parts F12 T R gC, PySem.W.mg_of X G at12, kt12, b12⟩,
    ⟨_, _, mkC, ok_init FI T R, gC, init_binds FI, init_binds1 FI⟩⟩
  have ops : Ops l.prog w K mg base C := ⟨us, ⟨_, _, am3, im3, ok_add M3 us, c3⟩, ⟨_, _, am5, im5, ok_sub M5 us, c5⟩, ⟨_, _, am7, im7, ok_mul M7 us, c7⟩, ⟨_, _, am9, im9, ok_neg M9 us, c9⟩, ⟨_, am4⟩, ⟨_, am6⟩, ⟨_, am8⟩, isb,
    ⟨_, _, z0, z1⟩, ⟨_, _, z2, z3⟩, ⟨_, _, z4, z5⟩⟩
  have Mt : Meth K C "text" m14 := ⟨am14, im14, km14⟩
  have Ft := ok_textX (P := l.prog) (w := w) (mg := mg) (base := base) M14 us
  have Mb : Meth K C "below" m13 := ⟨am13, im13, km13⟩
  have Fb := ok_below (P := l.prog) (w := w) (mg := mg) (base := base) M13 us
  have SM : Mth l.prog w K mg base C "__str__" 3 ["self"] (spTextX C) := ⟨_, _, am11, im11, ok_strX M11 us Mt Ft c14, c11⟩
  have Tb' : Tb l.prog w K mg base C := ⟨R, ⟨_, _, _, ⟨pa1, pg1, pt1, ⟨_, pr1⟩⟩, ok_top M1 R, c1⟩, ⟨_, _, _, ⟨pa2, pg2, pt2, ⟨_, pr2⟩⟩, ok_bot M2 R, c2⟩⟩
  have AS : Cal l.prog w K mg base "as_ratio" 3 ["value"] (spAs C) := ⟨_, _, ok_as F13 us gC W, PySem.W.mg_of X G at13, kt13, b13⟩
  have DG : Cal l.prog w K mg base "_are_digits" 1 ["text"] spDig := ⟨_, _, ok_dig F15, PySem.W.mg_of X G at15, kt15, b15⟩
  have RD := ok_read (P := l.prog) (w := w) (mg := mg) (base := base) F14 us DG G2.gv Mt Ft c14
  have AX := ok_asX (P := l.prog) (w := w) (mg := mg) (base := base) F13 T R gC W G1.gv
  have TO : Cal l.prog w K mg base "total" 4 ["numbers"] (spTotal K C) := ⟨_, _, ok_total F16 ops, PySem.W.mg_of X G at16, kt16, b16⟩
  have GR : Cal l.prog w K mg base "greatest" 5 ["numbers"] (spBest K C MaxFrom) := ⟨_, _, ok_greatest F17 us AS Mb Fb c13, PySem.W.mg_of X G at17, kt17, b17⟩
  have LS : Cal l.prog w K mg base "least" 5 ["numbers"] (spBest K C MinFrom) := ⟨_, _, ok_least F18 us AS Mb Fb c13, PySem.W.mg_of X G at18, kt18, b18⟩
  have TK : Cal l.prog w K mg base "_law_take" 1 ["_law_box_here", "_law_many"] spTake := ⟨_, _, ok_take F22 T, PySem.W.mg_of X G at22, kt22, b22⟩
  have LW : Cal l.prog w K mg base "_law_low" 1 ["_law_top", "_law_bottom"] spLow := ⟨_, _, ok_low F23 T, PySem.W.mg_of X G at23, kt23, b23⟩
  have PL : Cal l.prog w K mg base "_law_plus" 2 ["_law_one", "_law_other"] spPlus := ⟨_, _, ok_plus F24 LW, PySem.W.mg_of X G at24, kt24, b24⟩
  have LE : Cal l.prog w K mg base "_law_less" 1 ["_law_one", "_law_other"] spLess := ⟨_, _, ok_less F25, PySem.W.mg_of X G at25, kt25, b25⟩
  have IS : Cal l.prog w K mg base "_law_is" 3 ["_law_ratio", "_law_pair_here"] (spIsP C) := ⟨_, _, ok_isP F26 T Tb' gC, PySem.W.mg_of X G at26, kt26, b26⟩
  have PN : Cal l.prog w K mg base "_law_plain" 1 ["_law_word"] spPlain := ⟨_, _, ok_plain F29, PySem.W.mg_of X G at29, kt29, b29⟩
  have DU : Cal l.prog w K mg base "_law_due" 2 ["_law_text"] (spDue K) := ⟨_, _, ok_due F30 T PN LW, PySem.W.mg_of X G at30, kt30, b30⟩
  have L : Lw l.prog w K mg base C := ⟨us, ⟨_, _, ok_cell F20 T, PySem.W.mg_of X G at20, kt20, b20⟩, ⟨_, _, ok_box F21 T, PySem.W.mg_of X G at21, kt21, b21⟩, TK, ⟨_, _, ok_pair F27 T TK LW, PySem.W.mg_of X G at27, kt27, b27⟩, ⟨_, _, ok_written F28 T, PySem.W.mg_of X G at28, kt28, b28⟩, IS, AS, ⟨_, _, ok_near F31 T TK, PySem.W.mg_of X G at31, kt31, b31⟩,
    ⟨_, _, kp_rr F32 T hrp DU RD (PySem.W.mg_of X G at14) kt14 b14 G2 IS, PySem.W.mg_of X G at32, kt32, b32⟩, ⟨_, _, kp_nn F33 T hrp AX (PySem.W.mg_of X G at13) kt13 b13 G1, PySem.W.mg_of X G at33, kt33, b33⟩, ⟨_, _, ok_lr F34 us htp TK PL LE IS TO GR LS SM, PySem.W.mg_of X G at34, kt34, b34⟩, SM, ⟨_, _, Mt, Ft, c14⟩⟩
  exact kp_law F35 L
theorem walk03 {l : PySem.W.OpenLaw} {q : Program} {loose : List Str} {XP : (Str → Option Value) → Heap → Prop} {YP : World → Heap → Prop} {d : DefRec} {K : Params → PySem.W.Frag}
    (hn : l.most = some 63) (hdf : d.params.defaults = []) (hY : ∀ (w : World) (h : Heap), YP w h → (K w.params).In h)
    (law : ∀ (w : World) (mg : Str → Option Value) (fa : Addr) (h : Heap), (K w.params).In h → h.Ns mainGlobals mg → mg d.name = some (.ref fa) →
      ∃ fd : FuncData, (∀ (s : Shared) (u : Value), BindsTo s fd ⟨[u], []⟩ [("_law_script", u)]) ∧
        ∀ base : Heap, (K w.params).In base → base.Ns mainGlobals mg → Kp l.prog w (K w.params) mg base CX0 7 fa fd ["_law_script"] (spLaw (K w.params))) :
    PySem.W.WalkO q loose XP YP l.row.toRowW d [] (fun f vs => PySem.call f vs) :=
  walk_kp (k := 7) (CX := fun _ => CX0) (sp := fun w => spLaw (K w.params)) hn (by decide) hdf ⟨rfl, by decide, by decide⟩ hY law
    (fun _ _ a ns h1 _ h2 => ⟨a, ns, rfl, h2, h1, fun _ => rfl⟩) fun _ _ _ _ _ z => z
end K03

open PySem PySem.W PyProof.Rows L2 Vx
set_option Elab.async false
set_option maxRecDepth 100000
set_option maxHeartbeats 0
theorem PySem.Challenge.cw_jointdraws_k03_ratios_written_holds : PySem.Challenge.rw_jointdraws_k03_ratios_written.Holds := by
  w_on; o_law; k_headL; (case hw => w_witness2)
  k_fill
  refine K03.walk03 (l := PySem.Challenge.rw_jointdraws_k03_ratios_written) rfl rfl (fun w h Y => PySem.W.kIn_of Y) ?F
  case F =>
    intro w mg fa h KX G hmg
    refine' K03.all_mk KX G hmg ?aC ?aD ?ge1 ?ge2 ?eo1 ?eo2 ?at3 ?kt3 ?ft3 ?at11 ?kt11 ?ft11 ?at12 ?kt12 ?ft12 ?at13 ?kt13 ?ft13 ?at14 ?kt14 ?ft14 ?at15 ?kt15 ?ft15 ?at16 ?kt16 ?ft16 ?at17 ?kt17 ?ft17 ?at18 ?kt18 ?ft18 ?at20 ?kt20 ?ft20 ?at21 ?kt21 ?ft21 ?at22 ?kt22 ?ft22 ?at23 ?kt23 ?ft23 ?at24 ?kt24 ?ft24 ?at25 ?kt25 ?ft25 ?at26 ?kt26 ?ft26 ?at27 ?kt27 ?ft27 ?at28 ?kt28 ?ft28 ?at29 ?kt29 ?ft29 ?at30 ?kt30 ?ft30 ?at31 ?kt31 ?ft31 ?at32 ?kt32 ?ft32 ?at33 ?kt33 ?ft33 ?at34 ?kt34 ?ft34 ?at35 ?kt35 ?ft35 ?am3 ?im3 ?km3 ?fm3 ?am5 ?im5 ?km5 ?fm5 ?am7 ?im7 ?km7 ?fm7 ?am9 ?im9 ?km9 ?fm9 ?am11 ?im11 ?km11 ?fm11 ?am13 ?im13 ?km13 ?fm13 ?am14 ?im14 ?km14 ?fm14 ?am4 ?am6 ?am8 ?pa1 ?pg1 ?pt1 ?pr1 ?fm1 ?pa2 ?pg2 ?pt2 ?pr2 ?fm2 ?ai ?ii ?fi ?mks ?kC ?cpg ?chd ?cpo ?csa ?csf ?cob ?noT ?noB ?ha ?hn ?htk ?one ?isb ?fo0 ?fn0 ?fk0 ?fo1 ?fn1 ?fk1 ?fo2 ?fn2 ?fk2 ?fo3 ?fn3 ?fk3 ?fo4 ?fn4 ?fk4 ?fo5 ?fn5 ?fk5 ?fo6 ?fn6 ?fk6 ?z0 ?z1 ?z2 ?z3 ?z4 ?z5 ?b_len ?b_sum ?b_abs ?b_int ?b_isinstance ?b_bool ?b_range ?b_str ?b_max ?b_min ?b_repr ?b_tuple ?b_gcd
    (case aC => k_is)
    (case aD => k_is)
    (case ge1 => (refine' K03.ge_mk ?u1 ?u2 ?u3 ?u0 ?u4 ?u5 ?u6 ?u7 (fun _ _ _ _ _ _ us hl => match us, hl with | [_, _], _ => rfl) ?u8; (case u1 => k_is); (case u2 => k_is); (case u3 => decide +kernel); (case u0 => k_is); (case u6 => k_is); (case u7 => k_is); (case u4 => kernel_rfl); (case u5 => kernel_rfl); (case u8 => kernel_rfl)))
    (case ge2 => (refine' K03.ge_mk ?u1 ?u2 ?u3 ?u0 ?u4 ?u5 ?u6 ?u7 (fun _ _ _ _ _ _ us hl => match us, hl with | [_, _], _ => rfl) ?u8; (case u1 => k_is); (case u2 => k_is); (case u3 => decide +kernel); (case u0 => k_is); (case u6 => k_is); (case u7 => k_is); (case u4 => kernel_rfl); (case u5 => kernel_rfl); (case u8 => kernel_rfl)))
    (case eo1 => kernel_rfl)
    (case eo2 => kernel_rfl)
    (case at3 => k_is)
    (case kt3 => k_is)
    (case ft3 => (refine' K03.fb_t3 ?u1 ?u2 ?u3; (case u1 => k_is); (case u2 => k_is); (case u3 => k_is)))
    (case at11 => k_is)
    (case kt11 => k_is)
    (case ft11 => (refine' K03.fb_t11 ?u1 ?u2 ?u3; (case u1 => k_is); (case u2 => k_is); (case u3 => k_is)))
    (case at12 => k_is)
    (case kt12 => k_is)
    (case ft12 => (refine' K03.fb_t12 ?u1 ?u2 ?u3; (case u1 => k_is); (case u2 => k_is); (case u3 => k_is)))
    (case at13 => k_is)
    (case kt13 => k_is)
    (case ft13 => (refine' K03.fb_t13 ?u1 ?u2 ?u3; (case u1 => k_is); (case u2 => k_is); (case u3 => k_is)))
    (case at14 => k_is)
    (case kt14 => k_is)
    (case ft14 => (refine' K03.fb_t14 ?u1 ?u2 ?u3; (case u1 => k_is); (case u2 => k_is); (case u3 => k_is)))
    (case at15 => k_is)
    (case kt15 => k_is)
    (case ft15 => (refine' K03.fb_t15 ?u1 ?u2 ?u3; (case u1 => k_is); (case u2 => k_is); (case u3 => k_is)))
    (case at16 => k_is)
    (case kt16 => k_is)
    (case ft16 => (refine' K03.fb_t16 ?u1 ?u2 ?u3; (case u1 => k_is); (case u2 => k_is); (case u3 => k_is)))
    (case at17 => k_is)
    (case kt17 => k_is)
    (case ft17 => (refine' K03.fb_t17 ?u1 ?u2 ?u3; (case u1 => k_is); (case u2 => k_is); (case u3 => k_is)))
    (case at18 => k_is)
    (case kt18 => k_is)
    (case ft18 => (refine' K03.fb_t18 ?u1 ?u2 ?u3; (case u1 => k_is); (case u2 => k_is); (case u3 => k_is)))
    (case at20 => k_is)
    (case kt20 => k_is)
    (case ft20 => (refine' K03.fb_t20 ?u1 ?u2 ?u3; (case u1 => k_is); (case u2 => k_is); (case u3 => k_is)))
    (case at21 => k_is)
    (case kt21 => k_is)
    (case ft21 => (refine' K03.fb_t21 ?u1 ?u2 ?u3; (case u1 => k_is); (case u2 => k_is); (case u3 => k_is)))
    (case at22 => k_is)
    (case kt22 => k_is)
    (case ft22 => (refine' K03.fb_t22 ?u1 ?u2 ?u3; (case u1 => k_is); (case u2 => k_is); (case u3 => k_is)))
    (case at23 => k_is)
    (case kt23 => k_is)
    (case ft23 => (refine' K03.fb_t23 ?u1 ?u2 ?u3; (case u1 => k_is); (case u2 => k_is); (case u3 => k_is)))
    (case at24 => k_is)
    (case kt24 => k_is)
    (case ft24 => (refine' K03.fb_t24 ?u1 ?u2 ?u3; (case u1 => k_is); (case u2 => k_is); (case u3 => k_is)))
    (case at25 => k_is)
    (case kt25 => k_is)
    (case ft25 => (refine' K03.fb_t25 ?u1 ?u2 ?u3; (case u1 => k_is); (case u2 => k_is); (case u3 => k_is)))
    (case at26 => k_is)
    (case kt26 => k_is)
    (case ft26 => (refine' K03.fb_t26 ?u1 ?u2 ?u3; (case u1 => k_is); (case u2 => k_is); (case u3 => k_is)))
    (case at27 => k_is)
    (case kt27 => k_is)
    (case ft27 => (refine' K03.fb_t27 ?u1 ?u2 ?u3; (case u1 => k_is); (case u2 => k_is); (case u3 => k_is)))
    (case at28 => k_is)
    (case kt28 => k_is)
    (case ft28 => (refine' K03.fb_t28 ?u1 ?u2 ?u3; (case u1 => k_is); (case u2 => k_is); (case u3 => k_is)))
    (case at29 => k_is)
    (case kt29 => k_is)
    (case ft29 => (refine' K03.fb_t29 ?u1 ?u2 ?u3; (case u1 => k_is); (case u2 => k_is); (case u3 => k_is)))
    (case at30 => k_is)
    (case kt30 => k_is)
    (case ft30 => (refine' K03.fb_t30 ?u1 ?u2 ?u3; (case u1 => k_is); (case u2 => k_is); (case u3 => k_is)))
    (case at31 => k_is)
    (case kt31 => k_is)
    (case ft31 => (refine' K03.fb_t31 ?u1 ?u2 ?u3; (case u1 => k_is); (case u2 => k_is); (case u3 => k_is)))
    (case at32 => k_is)
    (case kt32 => k_is)
    (case ft32 => (refine' K03.fb_t32 ?u1 ?u2 ?u3; (case u1 => k_is); (case u2 => k_is); (case u3 => k_is)))
    (case at33 => k_is)
    (case kt33 => k_is)
    (case ft33 => (refine' K03.fb_t33 ?u1 ?u2 ?u3; (case u1 => k_is); (case u2 => k_is); (case u3 => k_is)))
    (case at34 => k_is)
    (case kt34 => k_is)
    (case ft34 => (refine' K03.fb_t34 ?u1 ?u2 ?u3; (case u1 => k_is); (case u2 => k_is); (case u3 => k_is)))
    (case at35 => k_is)
    (case kt35 => k_is)
    (case ft35 => (refine' K03.fb_t35 ?u1 ?u2 ?u3; (case u1 => k_is); (case u2 => k_is); (case u3 => k_is)))
    (case am3 => k_is)
    (case im3 => k_is)
    (case km3 => k_is)
    (case fm3 => (refine' K03.fb_m3 ?u1 ?u2 ?u3; (case u1 => k_is); (case u2 => k_is); (case u3 => k_is)))
    (case am5 => k_is)
    (case im5 => k_is)
    (case km5 => k_is)
    (case fm5 => (refine' K03.fb_m5 ?u1 ?u2 ?u3; (case u1 => k_is); (case u2 => k_is); (case u3 => k_is)))
    (case am7 => k_is)
    (case im7 => k_is)
    (case km7 => k_is)
    (case fm7 => (refine' K03.fb_m7 ?u1 ?u2 ?u3; (case u1 => k_is); (case u2 => k_is); (case u3 => k_is)))
    (case am9 => k_is)
    (case im9 => k_is)
    (case km9 => k_is)
    (case fm9 => (refine' K03.fb_m9 ?u1 ?u2 ?u3; (case u1 => k_is); (case u2 => k_is); (case u3 => k_is)))
    (case am11 => k_is)
    (case im11 => k_is)
    (case km11 => k_is)
    (case fm11 => (refine' K03.fb_m11 ?u1 ?u2 ?u3; (case u1 => k_is); (case u2 => k_is); (case u3 => k_is)))
    (case am13 => k_is)
    (case im13 => k_is)
    (case km13 => k_is)
    (case fm13 => (refine' K03.fb_m13 ?u1 ?u2 ?u3; (case u1 => k_is); (case u2 => k_is); (case u3 => k_is)))
    (case am14 => k_is)
    (case im14 => k_is)
    (case km14 => k_is)
    (case fm14 => (refine' K03.fb_m14 ?u1 ?u2 ?u3; (case u1 => k_is); (case u2 => k_is); (case u3 => k_is)))
    (case am4 => k_is)
    (case am6 => k_is)
    (case am8 => k_is)
    (case pa1 => k_is)
    (case pg1 => k_is)
    (case pt1 => k_is)
    (case pr1 => k_is)
    (case fm1 => (refine' K03.fb_m1 ?u1 ?u2 ?u3; (case u1 => k_is); (case u2 => k_is); (case u3 => k_is)))
    (case pa2 => k_is)
    (case pg2 => k_is)
    (case pt2 => k_is)
    (case pr2 => k_is)
    (case fm2 => (refine' K03.fb_m2 ?u1 ?u2 ?u3; (case u1 => k_is); (case u2 => k_is); (case u3 => k_is)))
    (case ai => k_is)
    (case ii => k_is)
    (case fi => (refine' K03.fi_mk ?u1 ?u2 ?u3 ?u4 ?u5; (case u1 => k_is); (case u2 => k_is); (case u3 => k_is); (case u4 => k_is); (case u5 => rfl)))
    (case mks => k_is)
    (case kC => k_is)
    (case cpg => k_is)
    (case chd => k_is)
    (case cpo => k_is)
    (case csa => k_is)
    (case csf => k_is)
    (case cob => k_is)
    (case noT => k_is)
    (case noB => k_is)
    (case ha => k_is)
    (case hn => k_is)
    (case htk => k_is)
    (case one => kernel_rfl)
    (case isb => k_is)
    (case fo0 => k_is)
    (case fn0 => k_is)
    (case fk0 => kernel_rfl)
    (case fo1 => k_is)
    (case fn1 => k_is)
    (case fk1 => kernel_rfl)
    (case fo2 => k_is)
    (case fn2 => k_is)
    (case fk2 => kernel_rfl)
    (case fo3 => k_is)
    (case fn3 => k_is)
    (case fk3 => kernel_rfl)
    (case fo4 => k_is)
    (case fn4 => k_is)
    (case fk4 => kernel_rfl)
    (case fo5 => k_is)
    (case fn5 => k_is)
    (case fk5 => kernel_rfl)
    (case fo6 => k_is)
    (case fn6 => k_is)
    (case fk6 => kernel_rfl)
    (case z0 => k_is)
    (case z1 => k_is)
    (case z2 => k_is)
    (case z3 => k_is)
    (case z4 => k_is)
    (case z5 => k_is)
    (case b_len => k_is)
    (case b_sum => k_is)
    (case b_abs => k_is)
    (case b_int => k_is)
    (case b_isinstance => k_is)
    (case b_bool => k_is)
    (case b_range => k_is)
    (case b_str => k_is)
    (case b_max => k_is)
    (case b_min => k_is)
    (case b_repr => k_is)
    (case b_tuple => k_is)
    (case b_gcd => k_is)
#print axioms PySem.Challenge.cw_jointdraws_k03_ratios_written_holds
