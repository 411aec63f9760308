import PyProof.Rows.All
import Wide.All
import OpenK.AllK
import Wide.FinOn
import KE.OsRunLaw
import PyProof.EqAt
import PyProof.EqKinds
import PyProof.TupleCall
import KE.KFromBytes
import KE.KExcIs
import PyProof.ReprReads
import HandS.ForMost
import HandS.ForExc
import HandS.ExcInit
import HandS.ExcField
import HandS.ExcValue
import HandS.IsInst
import PySem.Challenge.RW_jointdraws_k01_errors
set_option Elab.async false
set_option linter.all false
set_option maxRecDepth 100000
set_option maxHeartbeats 2000000
/-! Own layer, part A: promises of defs that hold where no nested thing is being written (Kp), and the end of a law over them. -/
namespace Vx
open PySem PySem.Spec PyProof.Rows L2

/-- as FnOk, but only where no repr of a container is under way -/
structure Kp (P : Program) (w : World) (K : PySem.W.Frag) (mg : Str → Option Value) (base : Heap) (CX : CXT)
    (k : Nat) (f : Addr) (fd : FuncData) (ps : List Str) (sp : Sp) : Prop where
  many : ∀ vs H Q E, sp vs H Q E → vs.length = ps.length
  does : ∀ (A : Around) (out : List Env) (s : Shared) (H : Hp) (args : Args) (us : List Value) (vs : List V) (Q : VK) (E : XK),
    Room k A → A.guards = some [] → Env0 P w K mg base A out s H → BindsTo s fd args (ps.zip us) → Vals vs us → sp vs H Q E →
    codeAny (model P w) A (.call (.ref f) args) (CR CX out P w H s Q E) s

section
variable {P : Program} {w : World} {K : PySem.W.Frag} {mg : Str → Option Value} {base : Heap} {CX : CXT}
  {k : Nat} {f : Addr} {fd : FuncData} {ps : List Str} {sp : Sp}
theorem Kp.of (F : FnOk P w K mg base CX k f fd ps sp) : Kp P w K mg base CX k f fd ps sp :=
  ⟨F.len, fun A out s H args us vs Q E hr _ => F.run A out s H args us vs Q E hr⟩
theorem Kp.up {j : Nat} (F : Kp P w K mg base CX j f fd ps sp) (h : j ≤ k) : Kp P w K mg base CX k f fd ps sp :=
  ⟨F.many, fun A out s H args us vs Q E hr => F.does A out s H args us vs Q E (hr.mono h)⟩

/-- a def of the text keeps its promise, by its body -/
theorem kp_fun {x qual : Str} {st : Stmt} {N : List Str} (F : Fun K x qual st f fd) (S : FnScope N ps (defScope st))
    (len : ∀ vs H Q E, sp vs H Q E → vs.length = ps.length)
    (body : ∀ (cdv : Value) (A : Around) (out : List Env) (s : Shared) (H : Hp) (vs : List V) (Q : VK) (E : XK),
      Room k (A.deeper (envOfC qual (defScope st) s.heap.objs.size f cdv)) →
      (A.deeper (envOfC qual (defScope st) s.heap.objs.size f cdv)).guards = some [] → sp vs H Q E →
      ∃ t, PSs (cxOf CX P w K mg base N qual (defScope st) f cdv A out s H E) (defBody st) t ∧
        t { nx := fun _ H' => Q .non H', rt := Q } (start N vs) H) : Kp P w K mg base CX (k + 1) f fd ps sp := by
  obtain ⟨oc, od, kV, doc, pm, an, cdv, ct, osl, rfl, lk, hcd⟩ := F.ex
  constructor
  · exact len
  · intro A out s H args us vs Q E hr hg e0 hb r hsp
    have ll := len _ _ _ _ hsp
    have inK : K.In s.heap := e0.mod.kin.keeps fun b o e => And.left (e0.bs b o e)
    have nolim : s.heap.NoLimit := e0.mod.nolimit.keeps fun b o e => And.left (e0.bs b o e)
    refine codeAny_call_function hr.depth (inK _ _ lk) rfl S.co S.gen rfl (PySem.W.codeRec_of inK hcd) (hb _ _ _ _ ?_)
    refine wpAny_newFunctionEnv_cells S.kind (fun y hy => ?_) fun env he s1 x => ?_
    · have hp := (List.of_mem_zip (show (y.1, y.2) ∈ ps.zip us from hy)).1
      rcases S.par _ hp with q | q
      · exact Or.inl q
      · exact Or.inr ⟨q, PySem.W.cellsFrom_some _ _ _ (Or.inl q)⟩
    · subst he
      refine ⟨nolim.keeps x.toInCall.keep, codeAny_func ?_⟩
      obtain ⟨t, ht, hq⟩ := body cdv A out s H vs Q E (hr.deeper _) hg hsp
      have I := inv_start (CX := CX) (mg := mg) (K := K) (N := N) (E := E) S hr.hd e0 ll r x
      refine wpAny_mono (ht.run [] s1 _ H _ I hq) (fun fl s' hs => ?_) fun _ _ z => z
      cases fl with
      | ret u => exact let ⟨v, σ', H', J, rv, q⟩ := hs; ⟨v, H', J.os, J.bare, J.base, J.hok, rv, q⟩
      | next => exact let ⟨σ', H', J, q⟩ := hs; ⟨V.non, H', J.os, J.bare, J.base, J.hok, rfl, q⟩
      | brk => exact let ⟨_, _, _, q⟩ := hs; q.elim
      | cont => exact let ⟨_, _, _, q⟩ := hs; q.elim
/-- the same where no exception leaves -/
theorem kp_fun0 {x qual : Str} {st : Stmt} {N : List Str} (F : Fun K x qual st f fd) (S : FnScope N ps (defScope st))
    (len : ∀ vs H Q E, sp vs H Q E → vs.length = ps.length)
    (body : ∀ (cdv : Value) (A : Around) (out : List Env) (s : Shared) (H : Hp) (vs : List V) (Q : VK) (E : XK),
      Room k (A.deeper (envOfC qual (defScope st) s.heap.objs.size f cdv)) →
      (A.deeper (envOfC qual (defScope st) s.heap.objs.size f cdv)).guards = some [] → sp vs H Q E →
      ∃ t, PSs (cxOf CX0 P w K mg base N qual (defScope st) f cdv A out s H E).nox (defBody st) t ∧
        t { nx := fun _ H' => Q .non H', rt := Q } (start N vs) H) : Kp P w K mg base CX0 (k + 1) f fd ps sp :=
  kp_fun F S len fun cdv A out s H vs Q E hr hg h => by
    obtain ⟨t, z, q⟩ := body cdv A out s H vs Q E hr hg h
    exact ⟨t, z.nox, q⟩
end

section
variable {X : Cx} {CX : CXT} {k : Nat} {f : Addr} {fd : FuncData} {ps : List Str} {sp : Sp} {dvs : List V} {ds : List Value} {E : XK}
  {x : Str} {p pos : Pos} {e : Expr} {es : List Expr} {t : TA}
theorem kp_run {pins : List (Addr × Obj)} {σ : L2.St} {H : Hp} {s : Shared} {Q : VK} {us : List Value} {vs : List V}
    (F : Kp X.prog X.w X.K X.mg X.base CX k f fd ps sp) (hr : Room k X.A) (hgd : X.A.guards = some []) (hb : Binds X.K fd ps ds) (hd : Vals dvs ds)
    (hx : Passes CX X E) (I : Inv X pins σ H s) (r : Vals vs us) (h : sp (vs ++ dvs) H Q E) :
    wpAny (model X.prog X.w) X.A (call (.ref f) us) (EP X pins σ Q) X.xe s := by
  have rr := Vals.append r hd
  have ll : (us ++ ds).length = ps.length := rr.length.symm.trans (F.many _ _ _ _ h)
  have go := F.does X.A X.stack s H ⟨us, []⟩ _ _ Q E hr hgd I.env0 (hb s us I.kIn ll) rr h
  refine wpAny_call (codeAny_mono go fun res s' hq => ?_)
  match res, hq with
  | .error e, hq => exact hx pins σ H s e s' I hq
  | .ok (.ret u), hq => exact I.after hq
/-- f(e, ..) -/
theorem pe_kp (F : Kp X.prog X.w X.K X.mg X.base CX k f fd ps sp) (hr : Room k X.A) (hgd : X.A.guards = some []) (hg : Gl X x)
    (hm : X.mg x = some (.ref f)) (hk : PySem.W.keepIn X.K (.ref f) = true) (hb : Binds X.K fd ps ds) (hd : Vals dvs ds) (hx : Passes CX X E) (ha : PA X (e :: es) t)
    (hdb : (x == ("__debug__" : Str)) = false := by decide)
    (he : starEach (e :: es) X.env = (false, eval e X.env) :: starEach es X.env := by rfl)
    (hpl : (backTo pos (starEach es X.env)).any (·.1) = false := by rfl) : PE X (.Call (.Name x p) (e :: es) [] pos) (tCall sp dvs E t) :=
  ⟨fun pins s σ H Q I h => wpAny_Call_Name_kw (ld_glob I hg hm
    (PySem.W.callWith_K (h₀ := X.base) I.ok.mod.kin hk (thn (ha.run pos pins s σ H _ I h) fun us s1 ⟨vs, H1, J, r, q⟩ =>
      ⟨J.kIn, kp_run F hr hgd hb hd hx J r q⟩) he hpl) hdb)⟩
/-- f() -/
theorem pe_kp0 (F : Kp X.prog X.w X.K X.mg X.base CX k f fd ps sp) (hr : Room k X.A) (hgd : X.A.guards = some []) (hg : Gl X x)
    (hm : X.mg x = some (.ref f)) (hk : PySem.W.keepIn X.K (.ref f) = true) (hb : Binds X.K fd ps ds) (hd : Vals dvs ds) (hx : Passes CX X E)
    (hdb : (x == ("__debug__" : Str)) = false := by decide) : PE X (.Call (.Name x p) [] [] pos) (tCall sp dvs E tNil) :=
  ⟨fun pins s σ H Q I h => wpAny_Call_Name_kw (ld_glob I hg hm
    (PySem.W.callWith_K0 I.kIn hk (kp_run (us := []) F hr hgd hb hd hx I .nil h)) hdb)⟩
end

/-- what the law's own call is told: over the heap behind the top, the script alone being tracked -/
theorem law_kp {P : Program} {w : World} {K : PySem.W.Frag} {mg mb : Str → Option Value} {CX : CXT} {k : Nat} {fa a : Addr} {fd : FuncData} {x : Str}
    {sp : Sp} {s₁ : Shared} {vs : List Value} {ns : List Int} (KX : K.In s₁.heap) (hns : s₁.heap.Ns mainGlobals mg) (hb : s₁.heap.Ns builtinsNs mb)
    (hbb : ∀ x : Str, x ≠ "__name__" → mb x = bootBuiltins x) (hlim : s₁.heap.NoLimit) (hg : s₁.gens = #[])
    (ha : s₁.heap.get? a = some { cls := .type "list", data := .seq vs.toArray }) (hi : IntsAre vs ns) (hl : ns.length ≤ sizeLine) (hr : Room k callerA)
    (F : ∀ base : Heap, K.In base → base.Ns mainGlobals mg → Kp P w K mg base CX k fa fd [x] sp)
    (hbind : ∀ (s : Shared) (u : Value), BindsTo s fd ⟨[u], []⟩ [(x, u)])
    (hsp : ∀ H : Hp, Only H → SqL K H a (ns.map V.int) → sp [.ref a] H (fun v _ => v = .bl true) fun _ _ _ => False)
    (hCX : ∀ H e s', CX [] H s₁ (fun _ _ _ => False) e s' → False) :
    codeAny (model P w) callerA (.call (.ref fa) ⟨[.ref a], []⟩)
      (fun r s' => r = .ok (.ret (.bool true)) ∧ OldK s₁.heap s'.heap ∧ s'.os = s₁.os ∧ AllBare s'.gens) s₁ := by
  have rv := vals_ints hi
  let ob : Obj := { cls := .type "list", data := .seq vs.toArray }
  -- the heap in which the script alone may be tracked: at a or nowhere
  have main : ∀ H : Hp, (∀ b, b ≠ a → H b = none) → (H a = none ∨ (H a = some (.frz ob (.lst (ns.map V.int))) ∧ K.lookup a = none)) → SqL K H a (ns.map V.int) →
      codeAny (model P w) callerA (.call (.ref fa) ⟨[.ref a], []⟩)
        (fun r s' => r = .ok (.ret (.bool true)) ∧ OldK s₁.heap s'.heap ∧ s'.os = s₁.os ∧ AllBare s'.gens) s₁ := by
    intro H off at_ hS
    have only : Only H := fun b => by
      by_cases e : b = a
      · subst e
        rcases at_ with z | ⟨z, _⟩
        · exact .inl z
        · exact .inr ⟨_, _, z⟩
      · exact .inl (off b e)
    have hok : HOk P w H s₁.heap := fun b u e => by
      by_cases q : b = a
      · subst q
        rcases at_ with z | ⟨z, _⟩
        · rw [z] at e; cases e
        · rw [z] at e; cases e
          exact ⟨ha, by rw [List.length_map]; exact hl, vs, _, rv, ha⟩
      · rw [off b q] at e; cases e
    have dictOff : ∀ {b : Addr} {o : Obj} {es : Array DictEntry} {ep : Nat}, s₁.heap.get? b = some o → o.data = .dict es ep → H b = none := fun {b o es ep} e d => by
      by_cases q : b = a
      · subst q
        rw [ha] at e
        cases e
        cases (show Data.seq vs.toArray _ = Data.dict es ep from d)
      · exact off b q
    have ns_of : ∀ {b : Addr} {m : Str → Option Value}, s₁.heap.Ns b m → (hidT s₁.heap H).Ns b m := fun {b m} z => by
      obtain ⟨o, es, ep, e, d, r⟩ := z
      exact ⟨o, es, ep, hidT_get e (dictOff e d), d, r⟩
    have kin : K.In (hidT s₁.heap H) := fun b o e => hidT_get (KX b o e) (by
      by_cases q : b = a
      · subst q
        rcases at_ with z | ⟨_, z⟩
        · exact z
        · rw [z] at e; cases e
      · exact off b q)
    have hM : Mod K mg (hidT s₁.heap H) := ⟨kin, ns_of hns, ⟨mb, ns_of hb, hbb⟩, by obtain ⟨mc, h1, h2⟩ := hlim; exact ⟨mc, ns_of h1, h2⟩⟩
    have e0 : Env0 P w K mg (hidT s₁.heap H) callerA [] s₁ H :=
      { frames := rfl, mod := hM, bs := fun b o e => of_hidT e, bsz := Nat.le_of_eq (hidT_size _ _), funs := trivial,
        frf := fun b z => absurd (show b ∈ ([] : List Addr) from z) List.not_mem_nil, hok := hok, bare := .of_eq hg }
    have run := (F _ kin (ns_of hns)).does callerA [] s₁ H ⟨[.ref a], []⟩ [.ref a] [.ref a] _ _ hr rfl e0 (hbind s₁ (.ref a)) (.cons rfl .nil) (hsp H only hS)
    refine codeAny_mono run fun res s' h => ?_
    match res, h with
    | .error e, h => exact (hCX H e s' h).elim
    | .ok (.ret u), h =>
      obtain ⟨v, H', os, bare, un, hok', ru, q⟩ := h
      obtain rfl : v = .bl true := q
      obtain rfl : u = Value.bool true := ru
      refine ⟨rfl, OldK.of_keep fun b o e => ?_, os, bare⟩
      by_cases q : H b = none
      · exact un.keep b o e q (fun z => absurd (show b ∈ ([] : List Addr) from z) List.not_mem_nil) List.not_mem_nil
      · rcases only b with z | ⟨o2, xs, z⟩
        · exact absurd z q
        · have t1 := (hok b _ z).1
          have t2 := (hok' b _ (un.frzs b o2 _ z)).1
          rw [e] at t1
          cases t1
          exact t2
  cases hk : K.lookup a with
  | some o =>
    have e := KX a o hk
    rw [ha] at e
    cases e
    exact main (fun _ => none) (fun _ _ => rfl) (.inl rfl)
      (.inr ⟨_, vs.toArray, _, hk, rfl, rfl, rfl, by rw [List.size_toArray, hi.length]; exact hl, by simpa using rv⟩)
  | none =>
    refine main (fun b => if b = a then some (.frz ob (.lst (ns.map V.int))) else none) (fun b q => if_neg q) (.inr ⟨if_pos rfl, hk⟩) (.inl (.inr ⟨ob, if_pos rfl⟩))

/-- the goal that the head leaves, by the law's promise -/
theorem walk_kp {l : PySem.W.OpenLaw} {n k : Nat} {q : Program} {loose : List Str} {XP : (Str → Option Value) → Heap → Prop} {YP : World → Heap → Prop} {d : DefRec}
    {K : Params → PySem.W.Frag} {CX : World → CXT} {sp : World → Sp} {x : Str} (hn : l.most = some n) (hn2 : n ≤ sizeLine) (hdf : d.params.defaults = []) (hr : Room k callerA)
    (hY : ∀ (w : World) (h : Heap), YP w h → (K w.params).In h)
    (F : ∀ (w : World) (mg : Str → Option Value) (fa : Addr) (h : Heap), (K w.params).In h → h.Ns mainGlobals mg → mg d.name = some (.ref fa) →
      ∃ fd : FuncData, (∀ (s : Shared) (u : Value), BindsTo s fd ⟨[u], []⟩ [(x, u)]) ∧
        ∀ base : Heap, (K w.params).In base → base.Ns mainGlobals mg → Kp l.prog w (K w.params) mg base (CX w) k fa fd [x] (sp w))
    (hsp : ∀ (w : World) (H : Hp) (a : Addr) (ns : List Int), ns.length ≤ n → Only H → SqL (K w.params) H a (ns.map V.int) → sp w [.ref a] H (fun v _ => v = .bl true) fun _ _ _ => False)
    (hCX : ∀ (w : World) (H : Hp) (s : Shared) (e : Value) (s' : Shared), CX w [] H s (fun _ _ _ => False) e s' → False) :
    PySem.W.WalkO q loose XP YP l.row.toRowW d [] (fun f vs => PySem.call f vs) := by
  apply Att.attach_call hn hdf
  intro w s₀ s₁ mg mb fa o pm cd doc a vs ns G Y ho hd hcd hmg hobj hints hlen hg
  have kin := hY w _ Y
  obtain ⟨fd, bind, keeps⟩ := F w mg fa _ kin G.T.g hmg
  exact law_kp kin G.T.g G.T.b G.T.builtins G.T.nolimit hg hobj hints (Nat.le_trans hlen hn2) hr keeps bind
    (fun H hO hS => hsp w H a ns hlen hO hS) fun H e s' => hCX w H s₁ e s'
end Vx

set_option Elab.async false
set_option linter.all false
set_option maxRecDepth 100000
set_option maxHeartbeats 4000000
/-! Own layer, part B: exceptions of own classes (below a base below ValueError), made by position or by keyword, as values. -/
namespace PySem
namespace Vex
open PySem.W PySem.Calls PyProof.Rows PySem.HandSPX
section
variable {M : Model} {A : Around} {E : Value → Shared → Prop} {hh : Heap} {gg : Array GenState} {dd : Drawn} {tt : Nat} {oo : OsState}
variable {nm qn : Str} {C N : Addr} {bs bm bmB : List Value} {hdct : Bool} {sn : List Str} {sub : List Value} {ab : Bool} {col : Option Bool} {dr : Option Addr}
  {k0 k1 k2 k3 k5 : Option Value} {B newId initId : String}
theorem check_new_kw (F : ExcBaseFacts B newId initId bmB) (same : ∀ X : String, bm.contains (.type X) = bmB.contains (.type X)) {rest : List Value} {kw : List (Str × Value)} {Q : Unit → Shared → Prop}
    (at_ : hh.get? C = some (excClassObj nm qn C N bs bm hdct sn sub ab col dr k0 k1 k2 k3 k5 newId)) (go : Q () ⟨hh, gg, dd, tt, oo⟩) :
    wpAny M A (checkBuiltinCall newId ⟨.ref C :: rest, kw⟩) Q E ⟨hh, gg, dd, tt, oo⟩ := by
  have inB : (Value.ref C :: bm).contains (.type B) = true := by rw [List.contains_cons, same, F.hasB]; simp
  have nostar := F.noStar
  simp only [checkBuiltinCall, F.newSplit, F.newRow, F.newKind]
  repeat (first
    | refine wpAny_loadPart_at at_ ?_
    | (refine wpAny_isSubtype_exc at_ ?_; rw [inB])
    | refine wpAny_staticBase_exc at_ ?_
    | refine wpAny_madeBy_exc at_ ?_
    | simp only [Bool.false_eq_true, bne_self_eq_false, if_false]
    | wp_step)
  exact go
end
section
variable {prog : Program} {w : World} {A : Around} {E : Value → Shared → Prop} {R : Result → Shared → Prop} {hh : Heap} {gg : Array GenState} {dd : Drawn} {tt : Nat} {oo : OsState}
variable {nm qn : Str} {C N : Addr} {bs bm bmB : List Value} {hdct : Bool} {sn : List Str} {sub : List Value} {ab : Bool} {col : Option Bool} {dr : Option Addr}
  {k0 k1 k2 k3 k5 : Option Value} {B newId initId : String}
/-- the heap behind the making: the arguments' tuple, the exception -/
abbrev laidE (hh : Heap) (C : Addr) (rest : List Value) : Heap := (hh.push (W.kdv_tup rest)).push (excO C hh.objs.size)
theorem new_kw (F : ExcBaseFacts B newId initId bmB) (same : ∀ X : String, bm.contains (.type X) = bmB.contains (.type X)) {rest : List Value} {kw : List (Str × Value)}
    (at_ : hh.get? C = some (excClassObj nm qn C N bs bm hdct sn sub ab col dr k0 k1 k2 k3 k5 newId)) (small : rest.length ≤ sizeLine)
    (go : R (.ok (.ret (.ref (hh.objs.size + 1)))) ⟨laidE hh C rest, gg, dd, tt, oo⟩) :
    codeAny (model prog w) A (.builtin newId ⟨.ref C :: rest, kw⟩) R ⟨hh, gg, dd, tt, oo⟩ := by
  have ends := F.ends
  have inB : (Value.ref C :: bm).contains (.type B) = true := by rw [List.contains_cons, same, F.hasB]; simp
  have notA : (Value.ref C :: bm).contains (.type "AttributeError") = false := by rw [List.contains_cons, same, F.noAttr]; rfl
  have notN : (Value.ref C :: bm).contains (.type "NameError") = false := by rw [List.contains_cons, same, F.noName]; rfl
  apply codeAny_builtinAt F.entry
  unfold Builtin.«BaseException.__new__»
  apply wpAt_bind
  show wpAt _ _ _ (stack >>= _) _ _ _
  refine wpAt_bind (wpAt_stack fun p below => ?_)
  apply wpAt_of_wpAny
  wp_walk
  apply wpAt_of_wpAny
  rw [F.owner]
  repeat (first
    | with_reducible refine wpAny_madeHere_exc F.canon at_ ?_
    | with_reducible refine wpAny_loadPart_at at_ ?_
    | (with_reducible refine wpAny_isSubtype_exc at_ ?_; first | rw [inB] | rw [notA] | rw [notN])
    | wp_step)
  show R _ _
  rw [Heap.size_push]
  exact go
theorem type_call_kw (F : ExcBaseFacts B newId initId bmB) (same : ∀ X : String, bm.contains (.type X) = bmB.contains (.type X)) {rest : List Value} {kw : List (Str × Value)} {fI : Addr} {Q : Fin → Shared → Prop}
    (at_ : hh.get? C = some (excClassObj nm qn C N bs bm hdct sn sub ab col dr k0 k1 k2 k3 k5 newId))
    (hi : W.Looks (model prog w) hh (typeLookup (.ref C) "__init__") (some (.ref fI))) (hb : ∀ self, W.Looks (model prog w) hh (bindSpecial (.ref fI) self) (.ref fI, [self])) (small : rest.length ≤ sizeLine)
    (go : codeAny (model prog w) A (.call (.ref fI) ⟨.ref (hh.objs.size + 1) :: rest, kw⟩)
      (fun r s' => match r with | .ok (.ret v) => v = .none ∧ Q (.done (.ret (.ref (hh.objs.size + 1)))) s' | .ok _ => False | .error e => E e s') ⟨laidE hh C rest, gg, dd, tt, oo⟩) :
    wpAny (model prog w) A (Builtin.«type.__call__» ⟨.ref C :: rest, kw⟩) Q E ⟨hh, gg, dd, tt, oo⟩ := by
  repeat (first
    | with_reducible refine wpAny_loadPart_at at_ ?_
    | with_reducible refine wpAny_madeBy_exc at_ ?_
    | wp_step)
  refine codeAny_call_builtin_code (Code.quiet_builtin _ F.quiet) (check_new_kw F same at_ (new_kw F same at_ small ?_))
  show wpAny _ _ _ _ _ _
  have stay : ∀ b o, hh.get? b = some o → (laidE hh C rest).get? b = some o := fun b o e => Heap.get?_push_of_some _ (Heap.get?_push_of_some _ e)
  have at1 := stay _ _ at_
  have new1 : (laidE hh C rest).get? (hh.objs.size + 1) = some (excO C hh.objs.size) := by heap_get
  have self1 : (Value.ref C :: bm).contains (.ref C) = true := by simp
  have i1 := hi.keeps stay
  have b1 := (hb (.ref (hh.objs.size + 1))).keeps stay
  unfold isInstance
  repeat (first
    | with_reducible refine wpAny_loadPart_at new1 ?_
    | (with_reducible refine wpAny_isSubtype_exc at1 ?_; rw [self1])
    | wp_step)
  show wpAny _ _ (typeLookup (.ref C) _) _ _ _
  apply i1.at
  apply wpAny_holding
  apply wpAny_bind
  apply b1.at
  refine wpAny_bind (wpAny_call (codeAny_mono go fun r s' z => ?_))
  match r, z with
  | .error e, z => exact z
  | .ok (.ret v), ⟨e, z⟩ =>
    subst e
    first
      | exact wpAny_pure (wpAny_pure z)
      | (wp_walk; exact z)
theorem call_kw (F : ExcBaseFacts B newId initId bmB) (same : ∀ X : String, bm.contains (.type X) = bmB.contains (.type X)) {rest : List Value} {kw : List (Str × Value)} {fI : Addr}
    (at_ : hh.get? C = some (excClassObj nm qn C N bs bm hdct sn sub ab col dr k0 k1 k2 k3 k5 newId))
    (hi : W.Looks (model prog w) hh (typeLookup (.ref C) "__init__") (some (.ref fI))) (hb : ∀ self, W.Looks (model prog w) hh (bindSpecial (.ref fI) self) (.ref fI, [self])) (small : rest.length ≤ sizeLine)
    (go : codeAny (model prog w) (A.under (.builtin "type.__call__" ⟨.ref C :: rest, kw⟩)) (.call (.ref fI) ⟨.ref (hh.objs.size + 1) :: rest, kw⟩) (W.InitBack (hh.objs.size + 1) R) ⟨laidE hh C rest, gg, dd, tt, oo⟩) :
    codeAny (model prog w) A (.call (.ref C) ⟨rest, kw⟩) R ⟨hh, gg, dd, tt, oo⟩ := by
  have l1 := tc_lookup
  have l2 := tc_bind (.ref C)
  have ty : (⟨hh, gg, dd, tt, oo⟩ : Shared).TypeIs (.ref C) "type" := ⟨_, at_, rfl⟩
  apply codeAny_of_tree
  show wpAny _ _ (callAny (.ref C) _) _ _ _
  repeat (any_goals (first | assumption | with_reducible refine wpAny_loadPart_at at_ ?_ | wp_step))
  refine ⟨rfl, codeAny_call_builtin_at (Code.quiet_builtin _ (by decide +kernel)) entry_typeCall (wpAny_check_type_call_sub at_ (type_call_kw F same at_ hi hb small (codeAny_mono go fun r s' z => ?_)))⟩
  match r, z with
  | .error _, z => exact z
  | .ok (.ret _), z => exact z
end
end Vex
end PySem

set_option Elab.async false
set_option linter.all false
set_option maxRecDepth 100000
set_option maxHeartbeats 4000000
/-! Own layer, part C: exceptions of own classes as values: made, their field read, isinstance; repr. -/
namespace Vx
open PySem PySem.Spec PyProof.Rows L2

/-- an exception of the class at C, with one field, stands at p -/
def ErrAt (H : Hp) (p C : Addr) (fld : Str) (v : V) : Prop := ∃ d, H p = some (exo p C (some d)) ∧ H d = some (exd d [(fld, v)])
theorem ErrAt.same {H H' : Hp} {p C : Addr} {fld : Str} {v : V} (s : Same H H') (e : ErrAt H p C fld v) : ErrAt H' p C fld v := by
  obtain ⟨d, h1, h2⟩ := e
  exact ⟨d, s _ _ h1, s _ _ h2⟩
/-- an exception of the class at C, whatever it keeps -/
def ErrOf (H : Hp) (p C : Addr) : Prop := H p = some (exo p C none) ∨ ∃ d fs, H p = some (exo p C (some d)) ∧ H d = some (exd d fs)
theorem ErrAt.of {H : Hp} {p C : Addr} {fld : Str} {v : V} (e : ErrAt H p C fld v) : ErrOf H p C := by
  obtain ⟨d, h1, h2⟩ := e
  exact .inr ⟨d, _, h1, h2⟩
theorem ErrOf.same {H H' : Hp} {p C : Addr} (s : Same H H') (e : ErrOf H p C) : ErrOf H' p C := by
  rcases e with e | ⟨d, fs, h1, h2⟩
  · exact .inl (s _ _ e)
  · exact .inr ⟨d, fs, s _ _ h1, s _ _ h2⟩

/-- what the written part says of such a class and its __init__ -/
structure ErC (K : PySem.W.Frag) (C fI : Addr) (fld : Str) : Prop where
  ox : OexC K C
  no : PySem.W.findIn K (.ref C) fld = some none
  iC : PySem.W.findIn K (.ref C) "__init__" = some (some (.ref fI))
  tI : PySem.W.typeIn K (.ref fI) = some (.type "function")
/-- .. for isinstance -/
structure IsC (K : PySem.W.Frag) (C : Addr) : Prop where
  cl : (PySem.W.clsIn K C).isSome = true
  xf : XfC K C
  ha : PySem.W.findIn K (.ref C) "__class__" = some (some (.builtin "object.__class__"))
  hn : PySem.W.specialIn K (.builtin "object.__class__") "__get__" = some (some (.builtin "getset_descriptor.__get__"))
  tk : PySem.W.takesIn K (.builtin "object.__class__") = some true
  hm : PySem.W.mroIn K C (.type "object") = some true

/-- __init__(self, fld): self.fld = fld -/
def spE (K : PySem.W.Frag) (C : Addr) (fld : Str) : Sp := fun vs H Q _ => ∃ (a : Addr) (v : V), vs = [.ref a, v] ∧ H a = some (exo a C none) ∧
  ∀ d, H d = none → d ≠ a → Q .non (upd (upd H d (exd d [(fld, v)])) a (exo a C (some d)))
theorem ok_einit {P : Program} {w : World} {K : PySem.W.Frag} {mg : Str → Option Value} {base : Heap} {st : Stmt} {qual fld : Str} {C fI : Addr} {fd : FuncData} {p1 p2 p3 p4 : Pos}
    (T : ErC K C fI fld) (F : Fun K "__init__" qual st fI fd) (hb : defBody st = [.Assign [.Attribute (.Name "self" p1) fld p2] (.Name fld p3) p4])
    (sc : FnScope ["self", fld] ["self", fld] (defScope st)) (l1 : (defScope st).names.lookup ("self" : Str) = some NameKind.local) (l2 : (defScope st).names.lookup fld = some NameKind.local)
    (n1 : (fld == ("__debug__" : Str)) = false) (n2 : (fld == ("__classdict__" : Str)) = false) : FnOk P w K mg base CX0 1 fI fd ["self", fld] (spE K C fld) := by
  refine F.ok sc (fun vs H Q E h => ?_) (fun cdv A outer s H vs Q E hr h => ?_)
  · obtain ⟨a, v, rfl, _⟩ := h
    rfl
  · obtain ⟨a, v, rfl, ha, go⟩ := h
    rw [hb]
    refine ⟨_, pss_one (ps_ost (pe_var (i := 0) rfl (.inl l1) (by decide) (by decide)) (pe_var (i := 1) rfl (.inl l2) n1 n2)), ?_⟩
    exact ⟨_, rfl, _, rfl, a, C, rfl, T.ox, T.no, .inl ⟨ha, fun dx n ne => go dx n ne⟩⟩

section
variable {X : Cx} {pins : List (Addr × Obj)} {σ : L2.St} {H : Hp} {s : Shared} {C fI : Addr} {fld x : Str} {fd : FuncData} {k : Nat}
theorem run_mkE {Q : VK} {us : List Value} {kw : List (Str × Value)} {u : Value} {v : V} (T : ErC X.K C fI fld) (F1 : FnOk X.prog X.w X.K X.mg X.base CX0 k fI fd ["self", fld] (spE X.K C fld))
    (hr : Room (k + 1) X.A) (small : us.length ≤ 1000) (I : Inv X pins σ H s) (r : RelV v u)
    (bind : ∀ (s' : Shared) (a : Value), X.K.In s'.heap → BindsTo s' fd ⟨a :: us, kw⟩ ((["self", fld] : List Str).zip [a, u]))
    (q : ∀ p H2, Same H H2 → H p = none → ErrAt H2 p C fld v → Q (.ref p) H2) : wpAny (model X.prog X.w) X.A (call (.ref C) us kw) (EP X pins σ Q) X.xe s := by
  obtain ⟨nm, qn, N, bs, bm, sn, sub, ab, col, dd, k0, k1, k2, k3, k5, hC, hbm⟩ := T.ox.cls
  obtain ⟨hp, g, dr, tk, os⟩ := s
  have big : hp.objs.size ≤ hp.objs.size + 1 := Nat.le_succ _
  have fresh : H (hp.objs.size + 1) = none := I.hok.fresh big
  have stay : ∀ b o, hp.get? b = some o → (Vex.laidE hp C us).get? b = some o := fun b o e => Heap.get?_push_of_some _ (Heap.get?_push_of_some _ e)
  have there : (Vex.laidE hp C us).get? (hp.objs.size + 1) = some (PySem.HandSPX.excO C hp.objs.size) := by
    show ((hp.push _).push _).get? _ = _
    heap_get
  have J : Inv X pins σ (upd H (hp.objs.size + 1) (exo (hp.objs.size + 1) C none)) ⟨Vex.laidE hp C us, g, dr, tk, os⟩ :=
    I.laid (t' := tk) (a := hp.objs.size + 1) (o := exo (hp.objs.size + 1) C none) (h' := Vex.laidE hp C us) stay big (exo_ok there)
  have want : spE X.K C fld [.ref (hp.objs.size + 1), v] (upd H (hp.objs.size + 1) (exo (hp.objs.size + 1) C none)) (fun z H2 => z = .non ∧ Q (.ref (hp.objs.size + 1)) H2) E0 := by
    refine ⟨_, v, rfl, upd_same, fun d hd ne => ⟨rfl, q _ _ (fun b o e => ?_) fresh ⟨d, upd_same, (upd_ne ne).trans upd_same⟩⟩⟩
    have hd' : H d = none := by
      rw [upd_ne ne] at hd
      exact hd
    rw [upd_ne (ne_of_none e fresh), upd_ne (ne_of_none e hd'), upd_ne (ne_of_none e fresh)]
    exact e
  have lus : us.length ≤ sizeLine := by
    rw [sizeLine_eq]
    omega
  have go := F1.run _ X.stack _ _ ⟨Value.ref (hp.objs.size + 1) :: us, kw⟩ [Value.ref (hp.objs.size + 1), u] _ _ E0 (hr.make C us kw) (J.env0.make C us kw) (bind _ _ J.kIn) (show Vals [V.ref (hp.objs.size + 1), v] [Value.ref (hp.objs.size + 1), u] from .cons rfl (.cons r .nil)) want
  refine wpAny_call (Vex.call_kw F.excBase_ValueError (fun Y => PySem.HandSPX.refsVE_contains Y bm hbm) (I.kIn _ _ hC) (PySem.W.looks_findIn I.kIn T.iC) (fun self => PySem.W.bind_fn I.kIn self T.tI) lus (codeAny_mono go fun res s' z => ?_))
  match res, z with
  | .ok (.ret u'), z =>
    obtain ⟨v', H2, J2, rv, ev, q2⟩ := J.after z
    subst ev
    exact ⟨rv, .ref _, H2, J2, rfl, q2⟩

/-- a class of errors as the law's defs use it -/
structure Ecl (P : Program) (w : World) (K : PySem.W.Frag) (mg : Str → Option Value) (base : Heap) (x : Str) (C : Addr) (fld : Str) : Prop where
  gC : mg x = some (.ref C)
  is : IsC K C
  no : PySem.W.findIn K (.ref C) fld = some none
  mks : ∃ fI fd, ErC K C fI fld ∧ FnOk P w K mg base CX0 1 fI fd ["self", fld] (spE K C fld) ∧
    (∀ (s : Shared) (a u : Value), K.In s.heap → BindsTo s fd ⟨[a, u], []⟩ ((["self", fld] : List Str).zip [a, u])) ∧
    (∀ (s : Shared) (a u : Value), K.In s.heap → BindsTo s fd ⟨[a], [(fld, u)]⟩ ((["self", fld] : List Str).zip [a, u]))
end

/-- x(e): a new error -/
def tErr (C : Addr) (fld : Str) (te : TE) : TE := fun σ H Q => te σ H fun v H1 => ∀ p H2, Same H1 H2 → H1 p = none → ErrAt H2 p C fld v → Q (.ref p) H2
section
variable {X : Cx} {C : Addr} {fld x : Str} {e : Expr} {te : TE} {p pos kpos : Pos}
theorem pe_mkE (T : Ecl X.prog X.w X.K X.mg X.base x C fld) (hr : Room 2 X.A) (he : PE X e te) (hg : Gl X x := by rfl) (hdb : (x == ("__debug__" : Str)) = false := by decide)
    (hs : starEach [e] X.env = (false, eval e X.env) :: starEach [] X.env := by rfl) : PE X (.Call (.Name x p) [e] [] pos) (tErr C fld te) := by
  refine ⟨fun pins s σ H Q I h => wpAny_Call_Name_kw (ld_glob I hg T.gC ?_ hdb)⟩
  obtain ⟨fI, fd, T1, F1, b1, b2⟩ := T.mks
  refine PySem.W.callWith_K (h₀ := X.base) I.ok.mod.kin T1.ox.kC ?_ hs (by rfl)
  rw [hs]
  show wpAny _ _ (spliced ((false, eval e X.env) :: backTo pos (starEach [] X.env))) _ _ s
  refine Calls.spliced_cons (thn (he.run pins s σ H _ I h) fun u s1 ⟨v, H1, J, ru, q⟩ => Calls.spliced_nil ⟨J.kIn, ?_⟩)
  exact run_mkE (us := [u]) (kw := []) T1 F1 hr (by show 1 ≤ 1000; decide) J ru (fun s' a kin => b1 s' a u kin) q
/-- x(fld=e) -/
theorem pe_mkEk (T : Ecl X.prog X.w X.K X.mg X.base x C fld) (hr : Room 2 X.A) (he : PE X e te) (hg : Gl X x := by rfl) (hdb : (x == ("__debug__" : Str)) = false := by decide) :
    PE X (.Call (.Name x p) [] [⟨some fld, e, kpos⟩] pos) (tErr C fld te) := by
  refine ⟨fun pins s σ H Q I h => wpAny_Call_Name_kw (ld_glob I hg T.gC ?_ hdb)⟩
  obtain ⟨fI, fd, T1, F1, b1, b2⟩ := T.mks
  refine PySem.W.callWith_KW0 (h₀ := X.base) I.ok.mod.kin T1.ox.kC (by rfl) ?_ (by rfl)
  show wpAny _ _ (evalAll [do let v ← eval e X.env; standAt pos; pure v]) _ _ s
  refine wpAny_evalAll_cons (wpAny_bind (thn (he.run pins s σ H _ I h) fun u s1 ⟨v, H1, J, ru, q⟩ => wpAny_bind (wpAny_standAt (wpAny_pure (wpAny_evalAll_nil ⟨J.kIn, ?_⟩)))))
  exact run_mkE (us := []) (kw := [(fld, u)]) T1 F1 hr (by show 0 ≤ 1000; decide) J ru (fun s' a kin => b2 s' a u kin) q
/-- e.fld of such an error -/
def tEfld (K : PySem.W.Frag) (n : Str) (te : TE) : TE := fun σ H Q => te σ H fun y H1 => ∃ (a C : Addr) (v : V), y = .ref a ∧ XfC K C ∧ PySem.W.findIn K (.ref C) n = some none ∧ ErrAt H1 a C n v ∧ Q v H1
theorem pe_efld {n : Str} (he : PE X e te) (hb : attributeBase e n X.env (eval e X.env) = eval e X.env := by rfl) : PE X (.Attribute e n pos) (tEfld X.K n te) := by
  refine ⟨fun pins s σ H Q I h => attr_of hb (thn (he.run pins s σ H _ I h) fun u s1 z => ?_)⟩
  obtain ⟨y, H1, J, ru, a, C, v, rfl, T, no, ⟨d, h1, h2⟩, q⟩ := z
  obtain rfl : u = Value.ref a := ru
  obtain ⟨t1, ob⟩ := exo_at J.hok h1
  obtain ⟨mA, ns, rel⟩ := exd_at J.hok h2
  obtain ⟨od, hod, look⟩ := lookIn_ns ns
  obtain ⟨u, hu, rv⟩ := RelO.some_of (v := v) (o := mA n) (by
    have := rel n
    rw [lookup_put, if_pos rfl] at this
    exact this)
  have at_ : PySem.W.InstAt s1.heap a _ C (some od) := ⟨ob, rfl, rfl, hod⟩
  exact PySem.HandSPX.exc_get J.kIn at_ T.ga T.gg T.exC (PySem.W.findObj_own T.hdC no rfl (by rw [look, hu])) (handed_of rv) ⟨v, H1, J.tok _, rv, q⟩
/-- isinstance(e, c) of such an error -/
def rIsx (K : PySem.W.Frag) : List V → Hp → VK → Prop := fun xs H Q => ∃ (a C : Addr) (c : V) (u : Value) (b : Bool), xs = [.ref a, c] ∧ ClsV c u ∧ ErrOf H a C ∧ IsC K C ∧ PySem.W.kitOne K (.ref C) u = some b ∧ Q (.bl b) H
theorem call_isx : CallR X (.builtin "isinstance") (rIsx X.K) := by
  intro pins s σ H xs us Q I r h
  obtain ⟨a, C, c, u, b, rfl, kc, er, T, e, q⟩ := h
  obtain ⟨u1, u2, rfl, r1, r2⟩ := vals2 r
  obtain rfl := kc.eq r2
  obtain rfl : u1 = Value.ref a := r1
  have kit : ∀ ox od, PySem.W.KitX X.K (.ref a) (.ref C) (fun h => PySem.W.InstAt h a ox C od) := fun ox od =>
    PySem.W.kitx_exc T.cl T.xf.ga T.xf.gg T.xf.exC T.ha T.hn T.tk T.hm
  rcases er with h1 | ⟨d, fs, h1, h2⟩
  · obtain ⟨t1, ob⟩ := exo_at I.hok h1
    exact PySem.W.kia_one (kit _ none) I.kIn ⟨ob, rfl, rfl, trivial⟩ e (fun z => nomatch z) fun tk => ⟨.bl b, H, I.tok tk, rfl, q⟩
  · obtain ⟨t1, ob⟩ := exo_at I.hok h1
    obtain ⟨mA, ns, rel⟩ := exd_at I.hok h2
    obtain ⟨od, hod, look⟩ := lookIn_ns ns
    exact PySem.W.kia_one (kit _ (some od)) I.kIn ⟨ob, rfl, rfl, hod⟩ e (fun z => nomatch z) fun tk => ⟨.bl b, H, I.tok tk, rfl, q⟩
end
/-- x(), a class of errors without an __init__ of its own -/
def tErr0 (C : Addr) : TE := fun _ H Q => ∀ p H2, Same H H2 → H p = none → ErrOf H2 p C → Q (.ref p) H2
theorem pe_mkE0 {X : Cx} {C : Addr} {x : Str} {p pos : Pos} {bmB : List Value} {B newId initId : String} (F : ExcBaseFacts B newId initId bmB) (q : PySem.W.excIn X.K C bmB newId = true)
    (gC : X.mg x = some (.ref C)) (kC : PySem.W.keepIn X.K (.ref C) = true) (hg : Gl X x := by rfl) (hdb : (x == ("__debug__" : Str)) = false := by decide) : PE X (.Call (.Name x p) [] [] pos) (tErr0 C) := by
  refine ⟨fun pins s σ H Q I h => wpAny_Call_Name_kw (ld_glob I hg gC (PySem.W.callWith_K0 I.kIn kC ?_) hdb)⟩
  show wpAny _ _ (call (.ref C) []) _ _ _
  obtain ⟨bm, N, nm, qn, bs, hdct, sn, sub, ab, col, dd, k0, k1, k2, k3, k5, mN, at_, hN, hni, T⟩ := exc_obj I.kIn q
  refine wpAny_call_exc_subT F T at_ hN hni (fun h' a made => ?_) (Nat.zero_le _)
  have fresh : H a = none := I.hok.gone made.new
  obtain ⟨t, ob, _, _⟩ := made.there
  have J := I.laidN (t' := s.toks) (o := exo a C none) made.keeps made.new fresh (exo_ok ob)
  exact ⟨.ref a, _, J, rfl, h a _ (fun b o e => by rw [upd_ne (ne_of_none e fresh)]; exact e) fresh (.inl upd_same)⟩

/-- a value as data: what Dp says, or a dict of one text and one int (the things that laws hand in) -/
inductive Dr (K : PySem.W.Frag) (H : Hp) : V → PyData → Prop where
  | of {v : V} {d : PyData} (h : Dp K H v d) (nd : d.hasDict = false) : Dr K H v d
  | one {a : Addr} {x : Str} {i : Int} (h : H a = some (.dK [(Sum.inr x, .int i)])) : Dr K H (.ref a) (.dict [(.str x, .int i)])
  | empty {a : Addr} (h : H a = some (.dK [])) : Dr K H (.ref a) (.dict [])
theorem Dr.reads {X : Cx} {pins : List (Addr × Obj)} {σ : L2.St} {H : Hp} {s : Shared} (I : Inv X pins σ H s) {v : V} {d : PyData} {u : Value} (h : Dr X.K H v d) (r : RelV v u) :
    ∃ as, Reads s.heap u d as ∧ (d.hasDict = true → sysModules ∉ as) := by
  cases h with
  | of h nd =>
    obtain ⟨as, q⟩ := Dp.reads I d v u h r
    exact ⟨as, q, PyData.noDict_hsm nd⟩
  | @one a x i h =>
    obtain rfl : u = Value.ref a := r
    obtain ⟨_, ns, vs, rel, o, es, ep, ho, hx, hd, _, hp, _⟩ := (show ObjOk X.prog X.w H s.heap a (.dK [(Sum.inr x, V.int i)]) from I.hok a _ h)
    have ne : sysModules ≠ a := fun z => by
      rw [z] at ns
      simp at ns
    cases rel with
    | @cons _ q0 _ _ r1 r2 =>
      cases r2
      obtain ⟨q1, q2⟩ := q0
      obtain ⟨e1, t2, rv⟩ := r1
      obtain rfl : Sum.inr x = q1 := e1
      obtain rfl : q2 = Value.int i t2 := rv
      obtain ⟨l⟩ := es
      cases hp with
      | @cons e0 _ es' _ isk ev rest =>
        cases rest
        obtain ⟨t, ek⟩ := Value.isStrOf_shape (x := x) (v := e0.key) isk
        refine ⟨_, Reads.dict ho hx.1 hd (as := []) (bs := []) ?_ ?_, fun _ z => ?_⟩
        · show ReadsAll s.heap [e0.key] [PyData.str x] []
          rw [ek]
          exact ReadsAll.cons (as := []) (bs := []) (Reads.str x t) ReadsAll.nil
        · show ReadsAll s.heap [e0.val] [PyData.int i] []
          rw [show e0.val = Value.int i t2 from ev]
          exact ReadsAll.cons (as := []) (bs := []) (Reads.int i t2) ReadsAll.nil
        · exact ne (List.mem_singleton.mp z)
  | @empty a h =>
    obtain rfl : u = Value.ref a := r
    obtain ⟨_, ns, vs, rel, o, es, ep, ho, hx, hd, _, hp, _⟩ := (show ObjOk X.prog X.w H s.heap a (.dK []) from I.hok a _ h)
    have ne : sysModules ≠ a := fun z => by
      rw [z] at ns
      simp at ns
    cases rel
    obtain ⟨l⟩ := es
    cases hp
    exact ⟨_, Reads.dict ho hx.1 hd (as := []) (bs := []) ReadsAll.nil ReadsAll.nil, fun _ z => ne (List.mem_singleton.mp z)⟩
/-- repr(v): the text of the data -/
def rRepr (K : PySem.W.Frag) (bound : Nat) : List V → Hp → VK → Prop := fun xs H Q => ∃ v d, xs = [v] ∧ Dr K H v d ∧ d.showable = true ∧ d.depth < bound ∧ d.shown.length ≤ sizeLine ∧ Q (.str d.shown) H
theorem call_reprD {X : Cx} (hg : X.A.guards = some []) (hu : X.A.units + 64 < cLine) : CallR X (.builtin "repr") (rRepr X.K 60) := by
  intro pins s σ H xs us Q I r h
  obtain ⟨v, d, rfl, dr, sh, dep, sz, q⟩ := h
  obtain ⟨u, rfl, ru⟩ := vals1 r
  obtain ⟨as, rd, nosys⟩ := dr.reads I ru
  have fin : ∀ h' t tk, (∀ b o, s.heap.get? b = some o → h'.get? b = some o) → EP X pins σ Q (.str d.shown t) { s with heap := h', toks := tk } :=
    fun h' t tk keep => ⟨.str d.shown, H, I.kept keep, ⟨t, rfl⟩, q⟩
  cases rd with
  | none => exact PySem.P.repr_of_none (fin s.heap _ _ fun _ _ e => e)
  | bool b => exact PySem.P.repr_of_bool (fin s.heap _ _ fun _ _ e => e)
  | int i t => exact PySem.P.repr_of_int (by simpa [PyData.showable] using sh) (fin s.heap _ _ fun _ _ e => e)
  | str x t => exact PySem.P.repr_of_str (fin s.heap _ _ fun _ _ e => e) (by simpa [PyData.shown] using sz)
  | list h1 h2 h3 h4 => exact repr_of_reads' (.list h1 h2 h3 h4) sh nosys hg (by omega) (fun _ _ e => e) fin sz
  | tuple h1 h2 h3 h4 => exact repr_of_reads' (.tuple h1 h2 h3 h4) sh nosys hg (by omega) (fun _ _ e => e) fin sz
  | dict h1 h2 h3 h4 h5 => exact repr_of_reads' (.dict h1 h2 h3 h4 h5) sh nosys hg (by omega) (fun _ _ e => e) fin sz
end Vx

set_option Elab.async false
set_option linter.all false
set_option maxRecDepth 100000
set_option maxHeartbeats 4000000
/-! Own layer, part E: what the written part says of a class of errors, by one look. -/
namespace Vx
open PySem PySem.Spec PyProof.Rows L2
/-- all that is asked of such a class but its own object -/
def errB (K : PySem.W.Frag) (C fI : Addr) (fld : Str) : Bool :=
  decide (PySem.W.findIn K (.ref C) "__setattr__" = some (some (.builtin "object.__setattr__"))) && (decide (PySem.W.subIn K (.ref C) (.type "BaseException") = some true) &&
  (decide (PySem.W.typeIn K (.ref C) = some (.type "type")) && (PySem.W.keepIn K (.ref C) && (decide (PySem.W.findIn K (.ref C) fld = some none) &&
  (decide (PySem.W.findIn K (.ref C) "__init__" = some (some (.ref fI))) && (decide (PySem.W.typeIn K (.ref fI) = some (.type "function")) && PySem.W.keepIn K (.ref fI)))))))
def isB (K : PySem.W.Frag) (C : Addr) : Bool :=
  (PySem.W.clsIn K C).isSome && (xfB K C && (decide (PySem.W.findIn K (.ref C) "__class__" = some (some (.builtin "object.__class__"))) &&
  (decide (PySem.W.specialIn K (.builtin "object.__class__") "__get__" = some (some (.builtin "getset_descriptor.__get__"))) && (decide (PySem.W.takesIn K (.builtin "object.__class__") = some true) &&
  decide (PySem.W.mroIn K C (.type "object") = some true)))))
theorem isB_ok {K : PySem.W.Frag} {C : Addr} (h : isB K C = true) : IsC K C := by
  unfold isB at h
  simp only [Bool.and_eq_true, decide_eq_true_eq] at h
  obtain ⟨h1, h2, h3, h4, h5, h6⟩ := h
  exact ⟨h1, xfB_ok h2, h3, h4, h5, h6⟩
theorem ecl_mk {P : Program} {w : World} {K : PySem.W.Frag} {h : Heap} {mg : Str → Option Value} {x : Str} {C fI : Addr} {fld : Str} {st : Stmt} {p1 p2 p3 p4 : Pos}
    {nm q : Str} {N : Addr} {bs bm : List Value} {sn : List Str} {sub : List Value} {ab : Bool} {col : Option Bool} {dd : Option Addr} {m0 m1 m2 m3 m5 : Option Value} {qual : Str}
    {od an : Option Addr} {sl : Array (Option Value)} {oc kV dc pm cd ct : Value} (X : K.In h) (G : h.Ns mainGlobals mg)
    (aC : PySem.W.nsIn K mainGlobals x = some (some (.ref C)))
    (xL : K.lookup C = some (excClassObj nm q C N bs bm true sn sub ab col dd m0 m1 m2 m3 m5 "ValueError.__new__")) (hbm : PySem.HandSPX.refsVE bm = true)
    (eB : errB K C fI fld = true) (iB : isB K C = true)
    (l1 : K.lookup fI = some ⟨oc, od, .func (PySem.W.fnOf "__init__" qual (defArgs st) (defBody st) (defScope st) .none kV dc pm an cd ct), sl⟩) (c1 : PySem.W.codeIn K cd qual = true)
    (hb : defBody st = [.Assign [.Attribute (.Name "self" p1) fld p2] (.Name fld p3) p4])
    (sc : FnScope ["self", fld] ["self", fld] (defScope st)) (v1 : (defScope st).names.lookup ("self" : Str) = some NameKind.local) (v2 : (defScope st).names.lookup fld = some NameKind.local)
    (n1 : (fld == ("__debug__" : Str)) = false) (n2 : (fld == ("__classdict__" : Str)) = false)
    (b1 : ∀ (a u : Value), bindArgs (PySem.W.fnOf "__init__" qual (defArgs st) (defBody st) (defScope st) .none kV dc pm an cd ct) ⟨[a, u], []⟩ = pure ((["self", fld] : List Str).zip [a, u]))
    (b2 : ∀ (a u : Value), bindArgs (PySem.W.fnOf "__init__" qual (defArgs st) (defBody st) (defScope st) .none kV dc pm an cd ct) ⟨[a], [(fld, u)]⟩ = pure ((["self", fld] : List Str).zip [a, u]))
    (base : Heap) : Ecl P w K mg base x C fld := by
  unfold errB at eB
  simp only [Bool.and_eq_true, decide_eq_true_eq] at eB
  obtain ⟨sa, exC, tyC, kC, no, iC, tI, kI⟩ := eB
  have T : ErC K C fI fld := ⟨⟨⟨nm, q, N, bs, bm, sn, sub, ab, col, dd, m0, m1, m2, m3, m5, xL, hbm⟩, sa, exC, tyC, kC⟩, no, iC, tI⟩
  have F := fun_mk (st := st) l1 c1 kI
  exact ⟨PySem.W.mg_of X G aC, isB_ok iB, no, fI, _, T, ok_einit T F hb sc v1 v2 n1 n2, fun s a u _ => .of_eq (b1 a u), fun s a u _ => .of_eq (b2 a u)⟩
end Vx

set_option Elab.async false
set_option linter.all false
set_option maxRecDepth 100000
set_option maxHeartbeats 4000000
/-! The law over errors: its drawing of numbers. -/
namespace K01
open PySem L2 Vx
def top (i : Nat) : Stmt := PySem.Challenge.pw_jointdraws_k01_errors.main.body.getD i (.Pass ⟨0, 0, 0, 0⟩)
abbrev sCell : Stmt := top 38
abbrev sBox : Stmt := top 39
abbrev sTake : Stmt := top 40
/-- the built-in names that the law uses are still the built-in ones -/
structure Bt (mg : Str → Option Value) : Prop where
  len : mg "len" = none
  sum : mg "sum" = none
  abs : mg "abs" = none
  int : mg "int" = none
  repr : mg "repr" = none
  isi : mg "isinstance" = none
  bool : mg "bool" = none
  range : mg "range" = none
  ve : mg "ValueError" = none
def spCell (K : PySem.W.Frag) : Sp := fun vs H Q _ => ∃ (a : Addr) (ns : List Int) (k : Nat), vs = [.ref a, .int k] ∧ SqL K H a (ns.map V.int) ∧ ns.length ≤ 63 ∧ k < 100 ∧
  ∀ z H', Same H H' → Q (.int z) H'
def spBox : Sp := fun vs H Q _ => ∃ c : Int, vs = [.int c] ∧ ∀ b x y, H b = none → 0 ≤ x → 0 ≤ y → y ≤ 2147483629 → Q (.ref b) (upd H b (.lst [.int x, .int y, .int 0]))
def spTake : Sp := fun vs H Q _ => ∃ (b : Addr) (n x y z : Int), vs = [.ref b, .int n] ∧ H b = some (.lst [.int x, .int y, .int z]) ∧ 0 < n ∧ n < 1073741824 ∧ 0 ≤ y ∧ y ≤ 2147483629 ∧ 0 ≤ z ∧ z ≤ 1000000 ∧
  ∀ r x' z', 0 ≤ r → r < n → z ≤ z' → z' ≤ z + 1 → Q (.int r) (upd H b (.lst [.int x', .int y, .int z']))
section
variable {P : Program} {w : World} {K : PySem.W.Frag} {mg : Str → Option Value} {base : Heap}
theorem scCell : FnScope ["_law_script", "_law_k"] ["_law_script", "_law_k"] (defScope sCell) := ⟨rfl, rfl, rfl, by decide +kernel, rfl, by decide +kernel, by decide +kernel⟩
theorem ok_cell {f : Addr} {fd : FuncData} (F : Fun K "_law_cell" "_law_cell" sCell f fd) (T : Bt mg) : FnOk P w K mg base CX0 1 f fd ["_law_script", "_law_k"] (spCell K) := by
  refine F.ok scCell (fun vs H Q E h => ?_) (fun cdv A outer s H vs Q E hr h => ?_)
  · obtain ⟨a, ns, k, rfl, _⟩ := h
    rfl
  · obtain ⟨a, ns, k, rfl, hS, hl, hk, go⟩ := h
    refine ⟨_, pss_cons (ps_if (pt_cmpR op_lt (pv 1) (pe_callB call_len_seq (by rfl) T.len PySem.boot_len (pa_cons (pv 0) pa_nil)) (nomark _))
        (pss_one (ps_ret (pe_ix ix_list (pv 0) (pv 1) (fun _ _ => rfl)))) pss_nil)
      (pss_one (ps_ret (pe_op op_add (pe_op op_add (pe_op op_mul pe_int (pv 1)) pe_int)
        (pe_op op_mod (pe_callB (cr_sum rfl) (by rfl) T.sum (by decide +kernel) (pa_cons (pe_slice sl_list (pv 0) po_none (po_some pe_int)) pa_nil)) pe_int)))), ?_⟩
    refine ⟨_, rfl, _, rfl, a, _, rfl, .inl hS, _, _, rfl, rfl, _, rfl, ?_⟩
    refine ite2 (fun c => ?_) (fun c => ?_)
    · have c' : k < ns.length := by
        have c2 := of_decide_eq_true c
        rw [List.length_map] at c2
        omega
      refine ⟨_, rfl, _, rfl, a, _, _, .int (ns[k]'c'), rfl, rfl, hS, atI_nat (by rw [List.getElem?_map, List.getElem?_eq_getElem c']; rfl), ?_⟩
      exact go _ _ (Same.refl _)
    · refine ⟨_, rfl, _, _, rfl, rfl, .inl ⟨by decide, by decide⟩, _, _, rfl, rfl, _, rfl, _, rfl, a, _, rfl, hS, fun p hp => ?_⟩
      refine ⟨p, ns.take 1, rfl, ?_, _, _, rfl, rfl, (by show (0 : Int) < 1000003; decide), _, _, rfl, rfl, go _ _ fun b o e => by rw [upd_ne (ne_of_none e hp)]; exact e⟩
      refine .inl (.inl (upd_same.trans ?_))
      congr 1
      show HO.lst (cutV (ns.map V.int) none (some 1)) = _
      congr 1
      cases ns with
      | nil => rfl
      | cons n r =>
        simp [cutV, HT.sIx]
theorem scBox : FnScope ["_law_cell_here"] ["_law_cell_here"] (defScope sBox) := ⟨rfl, rfl, rfl, by decide +kernel, rfl, by decide +kernel, by decide +kernel⟩
theorem ok_box {f : Addr} {fd : FuncData} (F : Fun K "_law_box" "_law_box" sBox f fd) (T : Bt mg) : FnOk P w K mg base CX0 1 f fd ["_law_cell_here"] spBox := by
  refine F.ok scBox (fun vs H Q E h => ?_) (fun cdv A outer s H vs Q E hr h => ?_)
  · obtain ⟨c, rfl, _⟩ := h
    rfl
  · obtain ⟨c, rfl, go⟩ := h
    refine ⟨_, pss_one (ps_ret (pe_lst (pa_cons
        (pe_op op_mul (pe_callB call_abs (by rfl) T.abs (by decide +kernel) (pa_cons (pv 0) pa_nil))
          (pe_callTy call_int1 (by rfl) T.int (by decide +kernel) (pa_cons (pe_cmpR op_ge (pe_callB call_abs (by rfl) T.abs (by decide +kernel) (pa_cons (pv 0) pa_nil)) (pe_op op_pow pe_int pe_int) (nomark _)) pa_nil)))
        (pa_cons (pe_op op_add (pe_op op_mod (pe_callTy call_int1 (by rfl) T.int (by decide +kernel) (pa_cons (pe_callB call_abs (by rfl) T.abs (by decide +kernel) (pa_cons (pv 0) pa_nil)) pa_nil)) pe_int)
            (pe_callTy call_int1 (by rfl) T.int (by decide +kernel) (pa_cons (pe_cmpR op_lt (pv 0) pe_int (nomark _)) pa_nil)))
        (pa_cons pe_int pa_nil))))), ?_⟩
    generalize ea : (if c < 0 then -c else c) = a
    have ha : 0 ≤ a := by
      rw [← ea]
      split <;> omega
    refine ⟨_, rfl, c, rfl, ?_⟩
    rw [ea]
    refine ⟨_, rfl, c, rfl, ?_⟩
    rw [ea]
    refine ⟨_, _, rfl, rfl, ⟨by decide, by decide, by decide⟩, _, _, rfl, rfl, .inr ⟨_, rfl, _, _, rfl, rfl, .inr ?_, ?_⟩⟩
    · split <;> decide
    refine ⟨_, rfl, c, rfl, .inl ⟨_, rfl, _, _, rfl, rfl, (by show (0 : Int) < 2147483629; decide), _, rfl, _, _, rfl, rfl, .inr ⟨_, rfl, _, _, rfl, rfl, (by show 3 ≤ sizeLine; decide), fun b hb => ?_⟩⟩⟩
    rw [ea]
    have hm0 := Int.emod_nonneg a (show (2147483629 : Int) ≠ 0 by decide)
    have hm1 := Int.emod_lt_of_pos a (show (0 : Int) < 2147483629 by decide)
    refine go b _ _ hb ?_ ?_ ?_
    · split <;> simp [ha]
    · split <;> omega
    · split <;> omega
theorem scTake : FnScope ["_law_box_here", "_law_many", "_law_digit", "_law_mixed"] ["_law_box_here", "_law_many"] (defScope sTake) := ⟨rfl, rfl, rfl, by decide +kernel, rfl, by decide +kernel, by decide +kernel⟩
theorem ok_take {f : Addr} {fd : FuncData} (F : Fun K "_law_take" "_law_take" sTake f fd) (T : Bt mg) : FnOk P w K mg base CX0 1 f fd ["_law_box_here", "_law_many"] spTake := by
  refine F.ok scTake (fun vs H Q E h => ?_) (fun cdv A outer s H vs Q E hr h => ?_)
  · obtain ⟨b, n, x, y, z, rfl, _⟩ := h
    rfl
  · obtain ⟨b, n, x, y, z, rfl, hb, n0, n1, y0, y1, z0, z1, go⟩ := h
    refine ⟨_, pss_cons (ps_if (pt_cmpR op_gt (pe_ix ix_list (pv 0) pe_int (fun _ _ => rfl)) pe_int (nomark _))
        (pss_cons (ps_set (i := 2) scTake.nd rfl (.inl rfl) (pe_op op_mod (pe_callTy call_int1 (by rfl) T.int (by decide +kernel) (pa_cons (pe_ix ix_list (pv 0) pe_int (fun _ _ => rfl)) pa_nil)) (pv 1)))
        (pss_cons (ps_asg (pe_op op_fdiv (pe_ix ix_list (pv 0) pe_int (fun _ _ => rfl)) (pv 1)) (pg_sub (pv 0) pe_int set_list))
        (pss_one (ps_ret (pv 2))))) pss_nil)
      (pss_cons (ps_asg (pe_op op_add (pe_ix ix_list (pv 0) pe_int (fun _ _ => rfl)) pe_int) (pg_sub (pv 0) pe_int set_list))
      (pss_cons (ps_set (i := 3) scTake.nd rfl (.inl rfl) (pe_op op_mod (pe_op op_pow (pe_callTy call_int1 (by rfl) T.int (by decide +kernel) (pa_cons (pe_op op_add (pe_op op_add (pe_ix ix_list (pv 0) pe_int (fun _ _ => rfl)) (pe_op op_mul pe_int (pe_ix ix_list (pv 0) pe_int (fun _ _ => rfl)))) pe_int) pa_nil)) pe_int) pe_int))
      (pss_cons (ps_set (i := 3) scTake.nd rfl (.inl rfl) (pe_op op_mod (pe_op op_pow (pe_callTy call_int1 (by rfl) T.int (by decide +kernel) (pa_cons (pe_op op_add (pe_op op_add (pe_op op_fdiv (pv 3) pe_int) (pe_op op_mul pe_int (pe_ix ix_list (pv 0) pe_int (fun _ _ => rfl)))) (pe_ix ix_list (pv 0) pe_int (fun _ _ => rfl))) pa_nil)) pe_int) pe_int))
      (pss_one (ps_ret (pe_op op_mod (pe_op op_fdiv (pv 3) pe_int) (pv 1))))))), ?_⟩
    refine ⟨_, rfl, b, _, 0, .int x, rfl, rfl, SqL.of hb, rfl, _, _, rfl, rfl, _, rfl, ?_⟩
    refine ite2 (fun c => ?_) (fun c => ?_)
    · refine ⟨_, rfl, b, _, 0, .int x, rfl, rfl, SqL.of hb, rfl, .inl ⟨_, rfl, _, rfl, _, _, rfl, rfl, n0, ?_⟩⟩
      refine ⟨_, rfl, b, _, 0, .int x, rfl, rfl, SqL.of hb, rfl, _, rfl, _, _, rfl, rfl, ⟨n0, n1⟩, _, rfl, b, _, 0, 0, rfl, rfl, hb, rfl, _, rfl, ?_⟩
      exact go _ _ z (Int.emod_nonneg x (by omega)) (Int.emod_lt_of_pos x n0) (Int.le_refl _) (by omega)
    · refine ⟨_, rfl, b, _, 2, .int z, rfl, rfl, SqL.of hb, rfl, _, _, rfl, rfl, _, rfl, b, _, 2, 2, rfl, rfl, hb, rfl, ?_⟩
      show tSeq _ _ _ _ (upd H b (.lst [.int x, .int y, .int (z + 1)]))
      generalize eH : upd H b (.lst [.int x, .int y, .int (z + 1)]) = H1
      have hb1 : H1 b = some (.lst [.int x, .int y, .int (z + 1)]) := by
        rw [← eH]
        exact upd_same
      have p5 : ∀ q : Int, q ^ (5 : Int).toNat = q ^ 5 := fun _ => rfl
      refine ⟨_, rfl, b, _, 1, .int y, rfl, rfl, SqL.of hb1, rfl, _, rfl, b, _, 2, .int (z + 1), rfl, rfl, SqL.of hb1, rfl, _, _, rfl, rfl, .inl ⟨by decide, by decide⟩,
        _, _, rfl, rfl, _, _, rfl, rfl, .inl ⟨_, rfl, _, _, rfl, rfl, ⟨by decide, by decide, by omega⟩, _, _, rfl, rfl, (by show (0 : Int) < 2147483647; decide), ?_⟩⟩
      generalize em : (y + 48271 * (z + 1) + 11) ^ (5 : Int).toNat % 2147483647 = m
      have m0 : 0 ≤ m := by
        rw [← em]
        exact Int.emod_nonneg _ (by decide)
      have m1 : m < 2147483647 := by
        rw [← em]
        exact Int.emod_lt_of_pos _ (by decide)
      refine ⟨_, rfl, _, _, rfl, rfl, ⟨by decide, by decide⟩, _, rfl, b, _, 2, .int (z + 1), rfl, rfl, SqL.of hb1, rfl, _, _, rfl, rfl, .inl ⟨by decide, by decide⟩,
        _, _, rfl, rfl, _, rfl, b, _, 1, .int y, rfl, rfl, SqL.of hb1, rfl, _, _, rfl, rfl, .inl ⟨_, rfl, _, _, rfl, rfl, ⟨by decide, by decide, by omega⟩, _, _, rfl, rfl, (by show (0 : Int) < 2147483587; decide), ?_⟩⟩
      refine ⟨_, rfl, _, _, rfl, rfl, ⟨by decide, by decide⟩, _, rfl, _, _, rfl, rfl, n0, ?_⟩
      rw [← eH]
      exact go _ x (z + 1) (Int.emod_nonneg _ (by omega)) (Int.emod_lt_of_pos _ n0) (by omega) (Int.le_refl _)
end
end K01

set_option Elab.async false
set_option linter.all false
set_option maxRecDepth 100000
set_option maxHeartbeats 800000
/-! The law over errors: what is made, and of which classes it is. -/
namespace K01
open PySem L2 Vx
def tab : List (Str × Option Str) := [(Str.ofString "BadBounds", some (Str.ofString "given")), (Str.ofString "BadCorner", some (Str.ofString "given")), (Str.ofString "BadCount", some (Str.ofString "given")), (Str.ofString "BadDraws", some (Str.ofString "given")), (Str.ofString "BadFamily", some (Str.ofString "given")), (Str.ofString "BadGivers", some (Str.ofString "given")), (Str.ofString "BadKind", some (Str.ofString "given")), (Str.ofString "BadLiars", some (Str.ofString "given")), (Str.ofString "BadName", some (Str.ofString "given")), (Str.ofString "BadNames", some (Str.ofString "given")), (Str.ofString "BadNumber", some (Str.ofString "given")), (Str.ofString "BadPath", some (Str.ofString "given")), (Str.ofString "BadPlan", some (Str.ofString "given")), (Str.ofString "BadPrices", some (Str.ofString "given")), (Str.ofString "BadShares", some (Str.ofString "given")), (Str.ofString "BadStake", some (Str.ofString "given")), (Str.ofString "BadStandIn", some (Str.ofString "given")), (Str.ofString "BadText", some (Str.ofString "given")), (Str.ofString "BadWish", some (Str.ofString "given")), (Str.ofString "NoEnd", some (Str.ofString "given")), (Str.ofString "NoPerson", some (Str.ofString "given")), (Str.ofString "NotNow", some (Str.ofString "given")), (Str.ofString "Twice", some (Str.ofString "person")), (Str.ofString "TooMany", some (Str.ofString "count")), (Str.ofString "ByZero", none), (Str.ofString "NothingToUndo", none), (Str.ofString "NotTurns", none), (Str.ofString "UnlikeEnds", none), (Str.ofString "BadBudget", some (Str.ofString "given")), (Str.ofString "BadGuard", some (Str.ofString "given")), (Str.ofString "BadHabit", some (Str.ofString "given")), (Str.ofString "BadMixture", some (Str.ofString "given")), (Str.ofString "BadPlans", some (Str.ofString "given")), (Str.ofString "BadSeason", some (Str.ofString "given")), (Str.ofString "BadWishes", some (Str.ofString "given"))]
/-- what stands of the classes: c i is the address of the i-th one -/
structure Al (P : Program) (w : World) (K : PySem.W.Frag) (mg : Str → Option Value) (base : Heap) (c : Nat → Addr) (d : Addr) : Prop where
  ecl : ∀ i x f, tab[i]? = some (x, some f) → Ecl P w K mg base x (c i) f
  bare : ∀ i x, tab[i]? = some (x, none) → mg x = some (.ref (c i)) ∧ IsC K (c i) ∧ PySem.W.keepIn K (.ref (c i)) = true ∧
    PySem.W.excIn K (c i) [.type "ValueError", .type "Exception", .type "BaseException", .type "object"] "ValueError.__new__" = true
  kit : ∀ i j, i < 35 → j < 35 → PySem.W.kitOne K (.ref (c j)) (.ref (c i)) = some (i == j)
  de : mg "DrawError" = some (.ref d)
  kitD : ∀ j, j < 35 → PySem.W.kitOne K (.ref (c j)) (.ref d) = some true
  kitV : ∀ j, j < 35 → PySem.W.kitOne K (.ref (c j)) (.type "ValueError") = some true
section
variable {P : Program} {w : World} {K : PySem.W.Frag} {mg : Str → Option Value} {base : Heap} {c : Nat → Addr} {d : Addr}
theorem Al.is (T : Al P w K mg base c d) (j : Nat) (h : j < 35) : IsC K (c j) := by
  have hj : j < tab.length := h
  cases e : tab[j] with
  | mk x o =>
    have q : tab[j]? = some (x, o) := by rw [List.getElem?_eq_getElem hj, e]
    cases o with
    | none => exact (T.bare j x q).2.1
    | some f => exact (T.ecl j x f q).is
/-- isinstance(e, x), e in slot i -/
def tIsi (K : PySem.W.Frag) (i : Nat) (C : Addr) : TE := tCB (rIsx K) (tCons (tVar i) (tCons (tC (.ref C)) tNil))
theorem pe_isi {X : Cx} (i : Nat) {C : Addr} {x en : Str} {p p1 p2 pos : Pos} (hm : X.mg "isinstance" = none) (gC : X.mg x = some (.ref C)) (hx : Gl X x) (he : PE X (.Name en p1) (tVar i)) (hi : Gl X "isinstance" := by rfl)
    (hd : (x == ("__debug__" : Str)) = false := by decide) (h1 : starEach [.Name en p1, .Name x p2] X.env = (false, eval (.Name en p1) X.env) :: starEach [.Name x p2] X.env := by rfl) (h2 : starEach [.Name x p2] X.env = (false, eval (.Name x p2) X.env) :: starEach [] X.env := by rfl)
    (hpl : (backTo pos (starEach [.Name x p2] X.env)).any (·.1) = false := by rfl) :
    PE X (.Call (.Name "isinstance" p) [.Name en p1, .Name x p2] [] pos) (tIsi X.K i C) :=
  pe_callB call_isx hi hm (by decide +kernel) (pa_cons he (pa_cons (pe_glob hx gC rfl hd) pa_nil h2) h1) (by decide) (by decide) h1 hpl
theorem rd_isi {i : Nat} {C a D : Addr} {σ : L2.St} {H : Hp} {b : Bool} {Q : VK} (hs : σ[i]? = some (some (.ref a))) (er : ErrOf H a C) (is : IsC K C) (k : PySem.W.kitOne K (.ref C) (.ref D) = some b) (q : Q (.bl b) H) :
    tIsi K i D σ H Q := ⟨_, hs, a, C, _, _, b, rfl, .own _, er, is, k, q⟩
theorem same_new {H : Hp} {l : Addr} {o : HO} (h : H l = none) : Same H (upd H l o) := fun b u e => by
  rw [upd_ne (ne_of_none e h)]
  exact e
/-- errors of the classes is, each with v -/
def Errs (c : Nat → Addr) (f : Str) (v : V) (H : Hp) : List Addr → List Nat → Prop
  | [], [] => True
  | p :: ps, i :: is => ErrAt H p (c i) f v ∧ Errs c f v H ps is
  | _, _ => False
theorem Errs.same {f : Str} {v : V} {H H' : Hp} (s : Same H H') : ∀ {ps : List Addr} {is : List Nat}, Errs c f v H ps is → Errs c f v H' ps is
  | [], [], _ => trivial
  | p :: ps, i :: is, h => ⟨h.1.same s, Errs.same s h.2⟩
  | [], _ :: _, h => h
  | _ :: _, [], h => h

abbrev sFirst : Stmt := top 41
abbrev sKinds : Stmt := top 42
abbrev sMade : Stmt := top 43
abbrev sNamed : Stmt := top 44
abbrev sNew : Stmt := top 45
abbrev sNewNamed : Stmt := top 46
abbrev sSame : Stmt := top 47
abbrev sBases : Stmt := top 48
abbrev sLaw : Stmt := top 49
def bools (n j : Nat) : List V := (List.range n).map fun i => V.bl (i == j)
theorem same_upd {H H1 : Hp} {l : Addr} {o : HO} (s : Same H H1) (f : H l = none) : Same H (upd H1 l o) := fun b u e => by
  rw [upd_ne (ne_of_none e f)]
  exact s b u e
def spBools (c : Nat → Addr) (n : Nat) : Sp := fun vs H Q _ => ∃ (p : Addr) (j : Nat), vs = [.ref p] ∧ j < 35 ∧ ErrOf H p (c j) ∧ ∀ l H', Same H H' → H' l = some (.lst (bools n j)) → Q (.ref l) H'
theorem scFirst : FnScope ["_law_e", "_law_found"] ["_law_e"] (defScope sFirst) := ⟨rfl, rfl, rfl, by decide +kernel, rfl, by decide +kernel, by decide +kernel⟩
theorem ok_first {f : Addr} {fd : FuncData} (F : Fun K "_law_first" "_law_first" sFirst f fd) (B : Bt mg) (T : Al P w K mg base c d) : FnOk P w K mg base CX0 1 f fd ["_law_e"] (spBools c 24) := by
  refine F.ok scFirst (fun vs H Q E h => ?_) (fun cdv A outer s H vs Q E hr h => ?_)
  · obtain ⟨p, j, rfl, _⟩ := h
    rfl
  · obtain ⟨p, j, rfl, hj, er, go⟩ := h
    refine ⟨_, pss_cons (ps_set (i := 1) scFirst.nd rfl (.inl rfl) (pe_lst (pa_cons (pe_isi 0 B.isi ((T.ecl 0 "BadBounds" "given" rfl).gC) (by rfl) (pv 0)) (pa_cons (pe_isi 0 B.isi ((T.ecl 1 "BadCorner" "given" rfl).gC) (by rfl) (pv 0)) (pa_cons (pe_isi 0 B.isi ((T.ecl 2 "BadCount" "given" rfl).gC) (by rfl) (pv 0)) (pa_cons (pe_isi 0 B.isi ((T.ecl 3 "BadDraws" "given" rfl).gC) (by rfl) (pv 0)) pa_nil))))))
      (pss_cons (ps_set (i := 1) scFirst.nd rfl (.inl rfl) (pe_op op_cat (pv 1) (pe_lst (pa_cons (pe_isi 0 B.isi ((T.ecl 4 "BadFamily" "given" rfl).gC) (by rfl) (pv 0)) (pa_cons (pe_isi 0 B.isi ((T.ecl 5 "BadGivers" "given" rfl).gC) (by rfl) (pv 0)) (pa_cons (pe_isi 0 B.isi ((T.ecl 6 "BadKind" "given" rfl).gC) (by rfl) (pv 0)) pa_nil))))))
      (pss_cons (ps_expr (pe_bm PySem.F.plainAttrs_list PySem.F.slot_list_append PySem.F.type_list_append mt_append (pv 1) (pa_cons (pe_isi 0 B.isi ((T.ecl 7 "BadLiars" "given" rfl).gC) (by rfl) (pv 0)) pa_nil)))
      (pss_cons (ps_set (i := 1) scFirst.nd rfl (.inl rfl) (pe_op op_cat (pv 1) (pe_lst (pa_cons (pe_isi 0 B.isi ((T.ecl 8 "BadName" "given" rfl).gC) (by rfl) (pv 0)) (pa_cons (pe_isi 0 B.isi ((T.ecl 9 "BadNames" "given" rfl).gC) (by rfl) (pv 0)) (pa_cons (pe_isi 0 B.isi ((T.ecl 10 "BadNumber" "given" rfl).gC) (by rfl) (pv 0)) (pa_cons (pe_isi 0 B.isi ((T.ecl 11 "BadPath" "given" rfl).gC) (by rfl) (pv 0)) pa_nil)))))))
      (pss_cons (ps_set (i := 1) scFirst.nd rfl (.inl rfl) (pe_op op_cat (pv 1) (pe_lst (pa_cons (pe_isi 0 B.isi ((T.ecl 12 "BadPlan" "given" rfl).gC) (by rfl) (pv 0)) (pa_cons (pe_isi 0 B.isi ((T.ecl 13 "BadPrices" "given" rfl).gC) (by rfl) (pv 0)) (pa_cons (pe_isi 0 B.isi ((T.ecl 14 "BadShares" "given" rfl).gC) (by rfl) (pv 0)) pa_nil))))))
      (pss_cons (ps_expr (pe_bm PySem.F.plainAttrs_list PySem.F.slot_list_append PySem.F.type_list_append mt_append (pv 1) (pa_cons (pe_isi 0 B.isi ((T.ecl 15 "BadStake" "given" rfl).gC) (by rfl) (pv 0)) pa_nil)))
      (pss_cons (ps_set (i := 1) scFirst.nd rfl (.inl rfl) (pe_op op_cat (pv 1) (pe_lst (pa_cons (pe_isi 0 B.isi ((T.ecl 16 "BadStandIn" "given" rfl).gC) (by rfl) (pv 0)) (pa_cons (pe_isi 0 B.isi ((T.ecl 17 "BadText" "given" rfl).gC) (by rfl) (pv 0)) (pa_cons (pe_isi 0 B.isi ((T.ecl 18 "BadWish" "given" rfl).gC) (by rfl) (pv 0)) (pa_cons (pe_isi 0 B.isi ((T.ecl 19 "NoEnd" "given" rfl).gC) (by rfl) (pv 0)) pa_nil)))))))
      (pss_one (ps_ret (pe_op op_cat (pv 1) (pe_lst (pa_cons (pe_isi 0 B.isi ((T.ecl 20 "NoPerson" "given" rfl).gC) (by rfl) (pv 0)) (pa_cons (pe_isi 0 B.isi ((T.ecl 21 "NotNow" "given" rfl).gC) (by rfl) (pv 0)) (pa_cons (pe_isi 0 B.isi ((T.ecl 22 "Twice" "person" rfl).gC) (by rfl) (pv 0)) (pa_cons (pe_isi 0 B.isi ((T.ecl 23 "TooMany" "count" rfl).gC) (by rfl) (pv 0)) pa_nil)))))))))))))), ?_⟩
    refine rd_isi rfl er (T.is j hj) (T.kit 0 j (by decide) hj) ?_
    refine rd_isi rfl er (T.is j hj) (T.kit 1 j (by decide) hj) ?_
    refine rd_isi rfl er (T.is j hj) (T.kit 2 j (by decide) hj) ?_
    refine rd_isi rfl er (T.is j hj) (T.kit 3 j (by decide) hj) ?_
    refine ⟨(by show 4 ≤ sizeLine; decide), fun l1 n1 => ?_⟩
    have f1 := (Same.refl H).free n1
    have s1 := same_upd (o := .lst [V.bl (0 == j), V.bl (1 == j), V.bl (2 == j), V.bl (3 == j)]) (Same.refl H) f1
    have a1 := upd_same (H := H) (a := l1) (o := .lst [V.bl (0 == j), V.bl (1 == j), V.bl (2 == j), V.bl (3 == j)])
    generalize upd H l1 (.lst [V.bl (0 == j), V.bl (1 == j), V.bl (2 == j), V.bl (3 == j)]) = H1 at s1 a1 ⊢
    refine ⟨_, rfl, ?_⟩
    refine rd_isi rfl (er.same s1) (T.is j hj) (T.kit 4 j (by decide) hj) ?_
    refine rd_isi rfl (er.same s1) (T.is j hj) (T.kit 5 j (by decide) hj) ?_
    refine rd_isi rfl (er.same s1) (T.is j hj) (T.kit 6 j (by decide) hj) ?_
    refine ⟨(by show 3 ≤ sizeLine; decide), fun t2 m2 => ?_⟩
    have u2 := same_upd (o := .lst [V.bl (4 == j), V.bl (5 == j), V.bl (6 == j)]) s1 (s1.free m2)
    refine ⟨_, t2, _, _, rfl, rfl, (same_new m2) _ _ a1, upd_same, (by show 4 + 3 ≤ sizeLine; decide), fun l2 n2 => ?_⟩
    have f2 := u2.free n2
    have s2 := same_upd (o := .lst ([V.bl (0 == j), V.bl (1 == j), V.bl (2 == j), V.bl (3 == j)] ++ [V.bl (4 == j), V.bl (5 == j), V.bl (6 == j)])) u2 f2
    have a2 := upd_same (H := upd H1 t2 (.lst [V.bl (4 == j), V.bl (5 == j), V.bl (6 == j)])) (a := l2) (o := .lst ([V.bl (0 == j), V.bl (1 == j), V.bl (2 == j), V.bl (3 == j)] ++ [V.bl (4 == j), V.bl (5 == j), V.bl (6 == j)]))
    generalize upd (upd H1 t2 (.lst [V.bl (4 == j), V.bl (5 == j), V.bl (6 == j)])) l2 (.lst ([V.bl (0 == j), V.bl (1 == j), V.bl (2 == j), V.bl (3 == j)] ++ [V.bl (4 == j), V.bl (5 == j), V.bl (6 == j)])) = H2 at s2 a2 ⊢
    refine ⟨_, rfl, .inl ⟨rfl, _, SqL.of a2⟩, ?_⟩
    refine rd_isi rfl (er.same s2) (T.is j hj) (T.kit 7 j (by decide) hj) ?_
    refine ⟨_, _, _, rfl, rfl, a2, (by show 7 < sizeLine; decide), ?_⟩
    have f3 := f2
    have s3 := same_upd (o := .lst (([V.bl (0 == j), V.bl (1 == j), V.bl (2 == j), V.bl (3 == j)] ++ [V.bl (4 == j), V.bl (5 == j), V.bl (6 == j)]) ++ [V.bl (7 == j)])) s2 f3
    have a3 := upd_same (H := H2) (a := l2) (o := .lst (([V.bl (0 == j), V.bl (1 == j), V.bl (2 == j), V.bl (3 == j)] ++ [V.bl (4 == j), V.bl (5 == j), V.bl (6 == j)]) ++ [V.bl (7 == j)]))
    generalize upd H2 l2 (.lst (([V.bl (0 == j), V.bl (1 == j), V.bl (2 == j), V.bl (3 == j)] ++ [V.bl (4 == j), V.bl (5 == j), V.bl (6 == j)]) ++ [V.bl (7 == j)])) = H3 at s3 a3 ⊢
    refine ⟨_, rfl, ?_⟩
    refine rd_isi rfl (er.same s3) (T.is j hj) (T.kit 8 j (by decide) hj) ?_
    refine rd_isi rfl (er.same s3) (T.is j hj) (T.kit 9 j (by decide) hj) ?_
    refine rd_isi rfl (er.same s3) (T.is j hj) (T.kit 10 j (by decide) hj) ?_
    refine rd_isi rfl (er.same s3) (T.is j hj) (T.kit 11 j (by decide) hj) ?_
    refine ⟨(by show 4 ≤ sizeLine; decide), fun t4 m4 => ?_⟩
    have u4 := same_upd (o := .lst [V.bl (8 == j), V.bl (9 == j), V.bl (10 == j), V.bl (11 == j)]) s3 (s3.free m4)
    refine ⟨_, t4, _, _, rfl, rfl, (same_new m4) _ _ a3, upd_same, (by show 8 + 4 ≤ sizeLine; decide), fun l4 n4 => ?_⟩
    have f4 := u4.free n4
    have s4 := same_upd (o := .lst ((([V.bl (0 == j), V.bl (1 == j), V.bl (2 == j), V.bl (3 == j)] ++ [V.bl (4 == j), V.bl (5 == j), V.bl (6 == j)]) ++ [V.bl (7 == j)]) ++ [V.bl (8 == j), V.bl (9 == j), V.bl (10 == j), V.bl (11 == j)])) u4 f4
    have a4 := upd_same (H := upd H3 t4 (.lst [V.bl (8 == j), V.bl (9 == j), V.bl (10 == j), V.bl (11 == j)])) (a := l4) (o := .lst ((([V.bl (0 == j), V.bl (1 == j), V.bl (2 == j), V.bl (3 == j)] ++ [V.bl (4 == j), V.bl (5 == j), V.bl (6 == j)]) ++ [V.bl (7 == j)]) ++ [V.bl (8 == j), V.bl (9 == j), V.bl (10 == j), V.bl (11 == j)]))
    generalize upd (upd H3 t4 (.lst [V.bl (8 == j), V.bl (9 == j), V.bl (10 == j), V.bl (11 == j)])) l4 (.lst ((([V.bl (0 == j), V.bl (1 == j), V.bl (2 == j), V.bl (3 == j)] ++ [V.bl (4 == j), V.bl (5 == j), V.bl (6 == j)]) ++ [V.bl (7 == j)]) ++ [V.bl (8 == j), V.bl (9 == j), V.bl (10 == j), V.bl (11 == j)])) = H4 at s4 a4 ⊢
    refine ⟨_, rfl, ?_⟩
    refine rd_isi rfl (er.same s4) (T.is j hj) (T.kit 12 j (by decide) hj) ?_
    refine rd_isi rfl (er.same s4) (T.is j hj) (T.kit 13 j (by decide) hj) ?_
    refine rd_isi rfl (er.same s4) (T.is j hj) (T.kit 14 j (by decide) hj) ?_
    refine ⟨(by show 3 ≤ sizeLine; decide), fun t5 m5 => ?_⟩
    have u5 := same_upd (o := .lst [V.bl (12 == j), V.bl (13 == j), V.bl (14 == j)]) s4 (s4.free m5)
    refine ⟨_, t5, _, _, rfl, rfl, (same_new m5) _ _ a4, upd_same, (by show 12 + 3 ≤ sizeLine; decide), fun l5 n5 => ?_⟩
    have f5 := u5.free n5
    have s5 := same_upd (o := .lst (((([V.bl (0 == j), V.bl (1 == j), V.bl (2 == j), V.bl (3 == j)] ++ [V.bl (4 == j), V.bl (5 == j), V.bl (6 == j)]) ++ [V.bl (7 == j)]) ++ [V.bl (8 == j), V.bl (9 == j), V.bl (10 == j), V.bl (11 == j)]) ++ [V.bl (12 == j), V.bl (13 == j), V.bl (14 == j)])) u5 f5
    have a5 := upd_same (H := upd H4 t5 (.lst [V.bl (12 == j), V.bl (13 == j), V.bl (14 == j)])) (a := l5) (o := .lst (((([V.bl (0 == j), V.bl (1 == j), V.bl (2 == j), V.bl (3 == j)] ++ [V.bl (4 == j), V.bl (5 == j), V.bl (6 == j)]) ++ [V.bl (7 == j)]) ++ [V.bl (8 == j), V.bl (9 == j), V.bl (10 == j), V.bl (11 == j)]) ++ [V.bl (12 == j), V.bl (13 == j), V.bl (14 == j)]))
    generalize upd (upd H4 t5 (.lst [V.bl (12 == j), V.bl (13 == j), V.bl (14 == j)])) l5 (.lst (((([V.bl (0 == j), V.bl (1 == j), V.bl (2 == j), V.bl (3 == j)] ++ [V.bl (4 == j), V.bl (5 == j), V.bl (6 == j)]) ++ [V.bl (7 == j)]) ++ [V.bl (8 == j), V.bl (9 == j), V.bl (10 == j), V.bl (11 == j)]) ++ [V.bl (12 == j), V.bl (13 == j), V.bl (14 == j)])) = H5 at s5 a5 ⊢
    refine ⟨_, rfl, .inl ⟨rfl, _, SqL.of a5⟩, ?_⟩
    refine rd_isi rfl (er.same s5) (T.is j hj) (T.kit 15 j (by decide) hj) ?_
    refine ⟨_, _, _, rfl, rfl, a5, (by show 15 < sizeLine; decide), ?_⟩
    have f6 := f5
    have s6 := same_upd (o := .lst ((((([V.bl (0 == j), V.bl (1 == j), V.bl (2 == j), V.bl (3 == j)] ++ [V.bl (4 == j), V.bl (5 == j), V.bl (6 == j)]) ++ [V.bl (7 == j)]) ++ [V.bl (8 == j), V.bl (9 == j), V.bl (10 == j), V.bl (11 == j)]) ++ [V.bl (12 == j), V.bl (13 == j), V.bl (14 == j)]) ++ [V.bl (15 == j)])) s5 f6
    have a6 := upd_same (H := H5) (a := l5) (o := .lst ((((([V.bl (0 == j), V.bl (1 == j), V.bl (2 == j), V.bl (3 == j)] ++ [V.bl (4 == j), V.bl (5 == j), V.bl (6 == j)]) ++ [V.bl (7 == j)]) ++ [V.bl (8 == j), V.bl (9 == j), V.bl (10 == j), V.bl (11 == j)]) ++ [V.bl (12 == j), V.bl (13 == j), V.bl (14 == j)]) ++ [V.bl (15 == j)]))
    generalize upd H5 l5 (.lst ((((([V.bl (0 == j), V.bl (1 == j), V.bl (2 == j), V.bl (3 == j)] ++ [V.bl (4 == j), V.bl (5 == j), V.bl (6 == j)]) ++ [V.bl (7 == j)]) ++ [V.bl (8 == j), V.bl (9 == j), V.bl (10 == j), V.bl (11 == j)]) ++ [V.bl (12 == j), V.bl (13 == j), V.bl (14 == j)]) ++ [V.bl (15 == j)])) = H6 at s6 a6 ⊢
    refine ⟨_, rfl, ?_⟩
    refine rd_isi rfl (er.same s6) (T.is j hj) (T.kit 16 j (by decide) hj) ?_
    refine rd_isi rfl (er.same s6) (T.is j hj) (T.kit 17 j (by decide) hj) ?_
    refine rd_isi rfl (er.same s6) (T.is j hj) (T.kit 18 j (by decide) hj) ?_
    refine rd_isi rfl (er.same s6) (T.is j hj) (T.kit 19 j (by decide) hj) ?_
    refine ⟨(by show 4 ≤ sizeLine; decide), fun t7 m7 => ?_⟩
    have u7 := same_upd (o := .lst [V.bl (16 == j), V.bl (17 == j), V.bl (18 == j), V.bl (19 == j)]) s6 (s6.free m7)
    refine ⟨_, t7, _, _, rfl, rfl, (same_new m7) _ _ a6, upd_same, (by show 16 + 4 ≤ sizeLine; decide), fun l7 n7 => ?_⟩
    have f7 := u7.free n7
    have s7 := same_upd (o := .lst (((((([V.bl (0 == j), V.bl (1 == j), V.bl (2 == j), V.bl (3 == j)] ++ [V.bl (4 == j), V.bl (5 == j), V.bl (6 == j)]) ++ [V.bl (7 == j)]) ++ [V.bl (8 == j), V.bl (9 == j), V.bl (10 == j), V.bl (11 == j)]) ++ [V.bl (12 == j), V.bl (13 == j), V.bl (14 == j)]) ++ [V.bl (15 == j)]) ++ [V.bl (16 == j), V.bl (17 == j), V.bl (18 == j), V.bl (19 == j)])) u7 f7
    have a7 := upd_same (H := upd H6 t7 (.lst [V.bl (16 == j), V.bl (17 == j), V.bl (18 == j), V.bl (19 == j)])) (a := l7) (o := .lst (((((([V.bl (0 == j), V.bl (1 == j), V.bl (2 == j), V.bl (3 == j)] ++ [V.bl (4 == j), V.bl (5 == j), V.bl (6 == j)]) ++ [V.bl (7 == j)]) ++ [V.bl (8 == j), V.bl (9 == j), V.bl (10 == j), V.bl (11 == j)]) ++ [V.bl (12 == j), V.bl (13 == j), V.bl (14 == j)]) ++ [V.bl (15 == j)]) ++ [V.bl (16 == j), V.bl (17 == j), V.bl (18 == j), V.bl (19 == j)]))
    generalize upd (upd H6 t7 (.lst [V.bl (16 == j), V.bl (17 == j), V.bl (18 == j), V.bl (19 == j)])) l7 (.lst (((((([V.bl (0 == j), V.bl (1 == j), V.bl (2 == j), V.bl (3 == j)] ++ [V.bl (4 == j), V.bl (5 == j), V.bl (6 == j)]) ++ [V.bl (7 == j)]) ++ [V.bl (8 == j), V.bl (9 == j), V.bl (10 == j), V.bl (11 == j)]) ++ [V.bl (12 == j), V.bl (13 == j), V.bl (14 == j)]) ++ [V.bl (15 == j)]) ++ [V.bl (16 == j), V.bl (17 == j), V.bl (18 == j), V.bl (19 == j)])) = H7 at s7 a7 ⊢
    refine ⟨_, rfl, ?_⟩
    refine rd_isi rfl (er.same s7) (T.is j hj) (T.kit 20 j (by decide) hj) ?_
    refine rd_isi rfl (er.same s7) (T.is j hj) (T.kit 21 j (by decide) hj) ?_
    refine rd_isi rfl (er.same s7) (T.is j hj) (T.kit 22 j (by decide) hj) ?_
    refine rd_isi rfl (er.same s7) (T.is j hj) (T.kit 23 j (by decide) hj) ?_
    refine ⟨(by show 4 ≤ sizeLine; decide), fun t8 m8 => ?_⟩
    have u8 := same_upd (o := .lst [V.bl (20 == j), V.bl (21 == j), V.bl (22 == j), V.bl (23 == j)]) s7 (s7.free m8)
    refine ⟨_, t8, _, _, rfl, rfl, (same_new m8) _ _ a7, upd_same, (by show 20 + 4 ≤ sizeLine; decide), fun l8 n8 => ?_⟩
    have f8 := u8.free n8
    exact go _ _ (same_upd u8 f8) upd_same
theorem scKinds : FnScope ["_law_e", "_law_found"] ["_law_e"] (defScope sKinds) := ⟨rfl, rfl, rfl, by decide +kernel, rfl, by decide +kernel, by decide +kernel⟩
theorem ok_kinds {f fF : Addr} {fd fdF : FuncData} (F : Fun K "_law_kinds" "_law_kinds" sKinds f fd) (FF : Fun K "_law_first" "_law_first" sFirst fF fdF) (mF : mg "_law_first" = some (.ref fF))
    (bF : Binds K fdF ["_law_e"] []) (B : Bt mg) (T : Al P w K mg base c d) : FnOk P w K mg base CX0 2 f fd ["_law_e"] (spBools c 35) := by
  have GF := ok_first (base := base) FF B T
  refine F.ok scKinds (fun vs H Q E h => ?_) (fun cdv A outer s H vs Q E hr h => ?_)
  · obtain ⟨p, j, rfl, _⟩ := h
    rfl
  · obtain ⟨p, j, rfl, hj, er, go⟩ := h
    refine ⟨_, pss_cons (ps_set (i := 1) scKinds.nd rfl (.inl rfl) (pe_op op_cat (pe_call GF hr (by rfl) mF FF.kp bF .nil pass0 (pa_cons (pv 0) pa_nil)) (pe_lst (pa_cons (pe_isi 0 B.isi ((T.bare 24 "ByZero" rfl).1) (by rfl) (pv 0)) (pa_cons (pe_isi 0 B.isi ((T.bare 25 "NothingToUndo" rfl).1) (by rfl) (pv 0)) (pa_cons (pe_isi 0 B.isi ((T.bare 26 "NotTurns" rfl).1) (by rfl) (pv 0)) pa_nil))))))
      (pss_cons (ps_expr (pe_bm PySem.F.plainAttrs_list PySem.F.slot_list_append PySem.F.type_list_append mt_append (pv 1) (pa_cons (pe_isi 0 B.isi ((T.bare 27 "UnlikeEnds" rfl).1) (by rfl) (pv 0)) pa_nil)))
      (pss_cons (ps_set (i := 1) scKinds.nd rfl (.inl rfl) (pe_op op_cat (pv 1) (pe_lst (pa_cons (pe_isi 0 B.isi ((T.ecl 28 "BadBudget" "given" rfl).gC) (by rfl) (pv 0)) (pa_cons (pe_isi 0 B.isi ((T.ecl 29 "BadGuard" "given" rfl).gC) (by rfl) (pv 0)) (pa_cons (pe_isi 0 B.isi ((T.ecl 30 "BadHabit" "given" rfl).gC) (by rfl) (pv 0)) pa_nil))))))
      (pss_cons (ps_set (i := 1) scKinds.nd rfl (.inl rfl) (pe_op op_cat (pv 1) (pe_lst (pa_cons (pe_isi 0 B.isi ((T.ecl 31 "BadMixture" "given" rfl).gC) (by rfl) (pv 0)) (pa_cons (pe_isi 0 B.isi ((T.ecl 32 "BadPlans" "given" rfl).gC) (by rfl) (pv 0)) (pa_cons (pe_isi 0 B.isi ((T.ecl 33 "BadSeason" "given" rfl).gC) (by rfl) (pv 0)) pa_nil))))))
      (pss_one (ps_ret (pe_op op_cat (pv 1) (pe_lst (pa_cons (pe_isi 0 B.isi ((T.ecl 34 "BadWishes" "given" rfl).gC) (by rfl) (pv 0)) pa_nil)))))))), ?_⟩
    refine ⟨_, rfl, p, j, rfl, hj, er, fun l0 H0 s0 a0 => ?_⟩
    refine rd_isi rfl (er.same s0) (T.is j hj) (T.kit 24 j (by decide) hj) ?_
    refine rd_isi rfl (er.same s0) (T.is j hj) (T.kit 25 j (by decide) hj) ?_
    refine rd_isi rfl (er.same s0) (T.is j hj) (T.kit 26 j (by decide) hj) ?_
    refine ⟨(by show 3 ≤ sizeLine; decide), fun t1 m1 => ?_⟩
    have u1 := same_upd (o := .lst [V.bl (24 == j), V.bl (25 == j), V.bl (26 == j)]) s0 (s0.free m1)
    refine ⟨_, t1, _, _, rfl, rfl, (same_new m1) _ _ a0, upd_same, (by show 24 + 3 ≤ sizeLine; decide), fun l1 n1 => ?_⟩
    have f1 := u1.free n1
    have s1 := same_upd (o := .lst (bools 24 j ++ [V.bl (24 == j), V.bl (25 == j), V.bl (26 == j)])) u1 f1
    have a1 := upd_same (H := upd H0 t1 (.lst [V.bl (24 == j), V.bl (25 == j), V.bl (26 == j)])) (a := l1) (o := .lst (bools 24 j ++ [V.bl (24 == j), V.bl (25 == j), V.bl (26 == j)]))
    generalize upd (upd H0 t1 (.lst [V.bl (24 == j), V.bl (25 == j), V.bl (26 == j)])) l1 (.lst (bools 24 j ++ [V.bl (24 == j), V.bl (25 == j), V.bl (26 == j)])) = H1 at s1 a1 ⊢
    refine ⟨_, rfl, .inl ⟨rfl, _, SqL.of a1⟩, ?_⟩
    refine rd_isi rfl (er.same s1) (T.is j hj) (T.kit 27 j (by decide) hj) ?_
    refine ⟨_, _, _, rfl, rfl, a1, (by show 27 < sizeLine; decide), ?_⟩
    have f2 := f1
    have s2 := same_upd (o := .lst ((bools 24 j ++ [V.bl (24 == j), V.bl (25 == j), V.bl (26 == j)]) ++ [V.bl (27 == j)])) s1 f2
    have a2 := upd_same (H := H1) (a := l1) (o := .lst ((bools 24 j ++ [V.bl (24 == j), V.bl (25 == j), V.bl (26 == j)]) ++ [V.bl (27 == j)]))
    generalize upd H1 l1 (.lst ((bools 24 j ++ [V.bl (24 == j), V.bl (25 == j), V.bl (26 == j)]) ++ [V.bl (27 == j)])) = H2 at s2 a2 ⊢
    refine ⟨_, rfl, ?_⟩
    refine rd_isi rfl (er.same s2) (T.is j hj) (T.kit 28 j (by decide) hj) ?_
    refine rd_isi rfl (er.same s2) (T.is j hj) (T.kit 29 j (by decide) hj) ?_
    refine rd_isi rfl (er.same s2) (T.is j hj) (T.kit 30 j (by decide) hj) ?_
    refine ⟨(by show 3 ≤ sizeLine; decide), fun t3 m3 => ?_⟩
    have u3 := same_upd (o := .lst [V.bl (28 == j), V.bl (29 == j), V.bl (30 == j)]) s2 (s2.free m3)
    refine ⟨_, t3, _, _, rfl, rfl, (same_new m3) _ _ a2, upd_same, (by show 28 + 3 ≤ sizeLine; decide), fun l3 n3 => ?_⟩
    have f3 := u3.free n3
    have s3 := same_upd (o := .lst (((bools 24 j ++ [V.bl (24 == j), V.bl (25 == j), V.bl (26 == j)]) ++ [V.bl (27 == j)]) ++ [V.bl (28 == j), V.bl (29 == j), V.bl (30 == j)])) u3 f3
    have a3 := upd_same (H := upd H2 t3 (.lst [V.bl (28 == j), V.bl (29 == j), V.bl (30 == j)])) (a := l3) (o := .lst (((bools 24 j ++ [V.bl (24 == j), V.bl (25 == j), V.bl (26 == j)]) ++ [V.bl (27 == j)]) ++ [V.bl (28 == j), V.bl (29 == j), V.bl (30 == j)]))
    generalize upd (upd H2 t3 (.lst [V.bl (28 == j), V.bl (29 == j), V.bl (30 == j)])) l3 (.lst (((bools 24 j ++ [V.bl (24 == j), V.bl (25 == j), V.bl (26 == j)]) ++ [V.bl (27 == j)]) ++ [V.bl (28 == j), V.bl (29 == j), V.bl (30 == j)])) = H3 at s3 a3 ⊢
    refine ⟨_, rfl, ?_⟩
    refine rd_isi rfl (er.same s3) (T.is j hj) (T.kit 31 j (by decide) hj) ?_
    refine rd_isi rfl (er.same s3) (T.is j hj) (T.kit 32 j (by decide) hj) ?_
    refine rd_isi rfl (er.same s3) (T.is j hj) (T.kit 33 j (by decide) hj) ?_
    refine ⟨(by show 3 ≤ sizeLine; decide), fun t4 m4 => ?_⟩
    have u4 := same_upd (o := .lst [V.bl (31 == j), V.bl (32 == j), V.bl (33 == j)]) s3 (s3.free m4)
    refine ⟨_, t4, _, _, rfl, rfl, (same_new m4) _ _ a3, upd_same, (by show 31 + 3 ≤ sizeLine; decide), fun l4 n4 => ?_⟩
    have f4 := u4.free n4
    have s4 := same_upd (o := .lst ((((bools 24 j ++ [V.bl (24 == j), V.bl (25 == j), V.bl (26 == j)]) ++ [V.bl (27 == j)]) ++ [V.bl (28 == j), V.bl (29 == j), V.bl (30 == j)]) ++ [V.bl (31 == j), V.bl (32 == j), V.bl (33 == j)])) u4 f4
    have a4 := upd_same (H := upd H3 t4 (.lst [V.bl (31 == j), V.bl (32 == j), V.bl (33 == j)])) (a := l4) (o := .lst ((((bools 24 j ++ [V.bl (24 == j), V.bl (25 == j), V.bl (26 == j)]) ++ [V.bl (27 == j)]) ++ [V.bl (28 == j), V.bl (29 == j), V.bl (30 == j)]) ++ [V.bl (31 == j), V.bl (32 == j), V.bl (33 == j)]))
    generalize upd (upd H3 t4 (.lst [V.bl (31 == j), V.bl (32 == j), V.bl (33 == j)])) l4 (.lst ((((bools 24 j ++ [V.bl (24 == j), V.bl (25 == j), V.bl (26 == j)]) ++ [V.bl (27 == j)]) ++ [V.bl (28 == j), V.bl (29 == j), V.bl (30 == j)]) ++ [V.bl (31 == j), V.bl (32 == j), V.bl (33 == j)])) = H4 at s4 a4 ⊢
    refine ⟨_, rfl, ?_⟩
    refine rd_isi rfl (er.same s4) (T.is j hj) (T.kit 34 j (by decide) hj) ?_
    refine ⟨(by show 1 ≤ sizeLine; decide), fun t5 m5 => ?_⟩
    have u5 := same_upd (o := .lst [V.bl (34 == j)]) s4 (s4.free m5)
    refine ⟨_, t5, _, _, rfl, rfl, (same_new m5) _ _ a4, upd_same, (by show 34 + 1 ≤ sizeLine; decide), fun l5 n5 => ?_⟩
    have f5 := u5.free n5
    exact go _ _ (same_upd u5 f5) upd_same
theorem Errs.snoc {f : Str} {v : V} {H H' : Hp} {p : Addr} {i : Nat} (s : Same H H') (e : ErrAt H' p (c i) f v) : ∀ {ps : List Addr} {is : List Nat}, Errs c f v H ps is → Errs c f v H' (ps ++ [p]) (is ++ [i])
  | [], [], _ => ⟨e, trivial⟩
  | q :: ps, j :: is, h => ⟨h.1.same s, Errs.snoc s e h.2⟩
  | [], _ :: _, h => h.elim
  | _ :: _, [], h => h.elim
def spMade (c : Nat → Addr) (is : List Nat) : Sp := fun vs H Q _ => ∃ v : V, vs = [v] ∧ ∀ l ps H', Same H H' → H' l = some (.lst (ps.map V.ref)) → Errs c "given" v H' ps is → Q (.ref l) H'
theorem scMade : FnScope ["_law_thing", "_law_found"] ["_law_thing"] (defScope sMade) := ⟨rfl, rfl, rfl, by decide +kernel, rfl, by decide +kernel, by decide +kernel⟩
theorem ok_made {f : Addr} {fd : FuncData} (F : Fun K "_law_made" "_law_made" sMade f fd) (T : Al P w K mg base c d) : FnOk P w K mg base CX0 3 f fd ["_law_thing"] (spMade c [0, 1, 2, 3, 4, 5, 6, 7, 8, 9, 10, 11, 12, 13, 14, 15, 16, 17, 18, 19, 20, 21]) := by
  refine F.ok scMade (fun vs H Q E h => ?_) (fun cdv A outer s H vs Q E hr h => ?_)
  · obtain ⟨v, rfl, _⟩ := h
    rfl
  · obtain ⟨v, rfl, go⟩ := h
    refine ⟨_, pss_cons (ps_set (i := 1) scMade.nd rfl (.inl rfl) (pe_lst (pa_cons (pe_mkE (T.ecl 0 "BadBounds" "given" rfl) hr (pv 0)) (pa_cons (pe_mkE (T.ecl 1 "BadCorner" "given" rfl) hr (pv 0)) (pa_cons (pe_mkE (T.ecl 2 "BadCount" "given" rfl) hr (pv 0)) (pa_cons (pe_mkE (T.ecl 3 "BadDraws" "given" rfl) hr (pv 0)) (pa_cons (pe_mkE (T.ecl 4 "BadFamily" "given" rfl) hr (pv 0)) (pa_cons (pe_mkE (T.ecl 5 "BadGivers" "given" rfl) hr (pv 0)) pa_nil))))))))
      (pss_cons (ps_set (i := 1) scMade.nd rfl (.inl rfl) (pe_op op_cat (pv 1) (pe_lst (pa_cons (pe_mkE (T.ecl 6 "BadKind" "given" rfl) hr (pv 0)) (pa_cons (pe_mkE (T.ecl 7 "BadLiars" "given" rfl) hr (pv 0)) (pa_cons (pe_mkE (T.ecl 8 "BadName" "given" rfl) hr (pv 0)) (pa_cons (pe_mkE (T.ecl 9 "BadNames" "given" rfl) hr (pv 0)) (pa_cons (pe_mkE (T.ecl 10 "BadNumber" "given" rfl) hr (pv 0)) (pa_cons (pe_mkE (T.ecl 11 "BadPath" "given" rfl) hr (pv 0)) pa_nil)))))))))
      (pss_cons (ps_set (i := 1) scMade.nd rfl (.inl rfl) (pe_op op_cat (pv 1) (pe_lst (pa_cons (pe_mkE (T.ecl 12 "BadPlan" "given" rfl) hr (pv 0)) (pa_cons (pe_mkE (T.ecl 13 "BadPrices" "given" rfl) hr (pv 0)) (pa_cons (pe_mkE (T.ecl 14 "BadShares" "given" rfl) hr (pv 0)) (pa_cons (pe_mkE (T.ecl 15 "BadStake" "given" rfl) hr (pv 0)) (pa_cons (pe_mkE (T.ecl 16 "BadStandIn" "given" rfl) hr (pv 0)) pa_nil))))))))
      (pss_one (ps_ret (pe_op op_cat (pv 1) (pe_lst (pa_cons (pe_mkE (T.ecl 17 "BadText" "given" rfl) hr (pv 0)) (pa_cons (pe_mkE (T.ecl 18 "BadWish" "given" rfl) hr (pv 0)) (pa_cons (pe_mkE (T.ecl 19 "NoEnd" "given" rfl) hr (pv 0)) (pa_cons (pe_mkE (T.ecl 20 "NoPerson" "given" rfl) hr (pv 0)) (pa_cons (pe_mkE (T.ecl 21 "NotNow" "given" rfl) hr (pv 0)) pa_nil))))))))))), ?_⟩
    have S0 : Same H H := Same.refl H
    have R0 : Errs c "given" v H [] [] := trivial
    refine ⟨_, rfl, fun p1 G1 s1 n1 e1 => ?_⟩
    have S1 := S0.trans s1
    have R1 : Errs c "given" v G1 [p1] [0] := R0.snoc s1 e1
    refine ⟨_, rfl, fun p2 G2 s2 n2 e2 => ?_⟩
    have S2 := S1.trans s2
    have R2 : Errs c "given" v G2 [p1, p2] [0, 1] := R1.snoc s2 e2
    refine ⟨_, rfl, fun p3 G3 s3 n3 e3 => ?_⟩
    have S3 := S2.trans s3
    have R3 : Errs c "given" v G3 [p1, p2, p3] [0, 1, 2] := R2.snoc s3 e3
    refine ⟨_, rfl, fun p4 G4 s4 n4 e4 => ?_⟩
    have S4 := S3.trans s4
    have R4 : Errs c "given" v G4 [p1, p2, p3, p4] [0, 1, 2, 3] := R3.snoc s4 e4
    refine ⟨_, rfl, fun p5 G5 s5 n5 e5 => ?_⟩
    have S5 := S4.trans s5
    have R5 : Errs c "given" v G5 [p1, p2, p3, p4, p5] [0, 1, 2, 3, 4] := R4.snoc s5 e5
    refine ⟨_, rfl, fun p6 G6 s6 n6 e6 => ?_⟩
    have S6 := S5.trans s6
    have R6 : Errs c "given" v G6 [p1, p2, p3, p4, p5, p6] [0, 1, 2, 3, 4, 5] := R5.snoc s6 e6
    refine ⟨(by show 6 ≤ sizeLine; decide), fun l n => ?_⟩
    have S := S6.trans (same_new (o := .lst [V.ref p1, V.ref p2, V.ref p3, V.ref p4, V.ref p5, V.ref p6]) n)
    have R := R6.same (same_new (o := .lst [V.ref p1, V.ref p2, V.ref p3, V.ref p4, V.ref p5, V.ref p6]) n)
    have A := upd_same (H := G6) (a := l) (o := .lst [V.ref p1, V.ref p2, V.ref p3, V.ref p4, V.ref p5, V.ref p6])
    generalize upd G6 l (.lst [V.ref p1, V.ref p2, V.ref p3, V.ref p4, V.ref p5, V.ref p6]) = G at S R A ⊢
    clear n
    have S6 := S
    have R6 := R
    have A6 := A
    refine ⟨_, rfl, ?_⟩
    refine ⟨_, rfl, fun p7 G7 s7 n7 e7 => ?_⟩
    have S7 := S6.trans s7
    have R7 : Errs c "given" v G7 [p1, p2, p3, p4, p5, p6, p7] [0, 1, 2, 3, 4, 5, 6] := R6.snoc s7 e7
    have A7 := s7 _ _ A6
    refine ⟨_, rfl, fun p8 G8 s8 n8 e8 => ?_⟩
    have S8 := S7.trans s8
    have R8 : Errs c "given" v G8 [p1, p2, p3, p4, p5, p6, p7, p8] [0, 1, 2, 3, 4, 5, 6, 7] := R7.snoc s8 e8
    have A8 := s8 _ _ A7
    refine ⟨_, rfl, fun p9 G9 s9 n9 e9 => ?_⟩
    have S9 := S8.trans s9
    have R9 : Errs c "given" v G9 [p1, p2, p3, p4, p5, p6, p7, p8, p9] [0, 1, 2, 3, 4, 5, 6, 7, 8] := R8.snoc s9 e9
    have A9 := s9 _ _ A8
    refine ⟨_, rfl, fun p10 G10 s10 n10 e10 => ?_⟩
    have S10 := S9.trans s10
    have R10 : Errs c "given" v G10 [p1, p2, p3, p4, p5, p6, p7, p8, p9, p10] [0, 1, 2, 3, 4, 5, 6, 7, 8, 9] := R9.snoc s10 e10
    have A10 := s10 _ _ A9
    refine ⟨_, rfl, fun p11 G11 s11 n11 e11 => ?_⟩
    have S11 := S10.trans s11
    have R11 : Errs c "given" v G11 [p1, p2, p3, p4, p5, p6, p7, p8, p9, p10, p11] [0, 1, 2, 3, 4, 5, 6, 7, 8, 9, 10] := R10.snoc s11 e11
    have A11 := s11 _ _ A10
    refine ⟨_, rfl, fun p12 G12 s12 n12 e12 => ?_⟩
    have S12 := S11.trans s12
    have R12 : Errs c "given" v G12 [p1, p2, p3, p4, p5, p6, p7, p8, p9, p10, p11, p12] [0, 1, 2, 3, 4, 5, 6, 7, 8, 9, 10, 11] := R11.snoc s12 e12
    have A12 := s12 _ _ A11
    refine ⟨(by show 6 ≤ sizeLine; decide), fun t m => ?_⟩
    refine ⟨_, t, _, _, rfl, rfl, (same_new m) _ _ A12, upd_same, (by show 6 + 6 ≤ sizeLine; decide), fun l n => ?_⟩
    have S := S12.trans ((same_new (o := .lst [V.ref p7, V.ref p8, V.ref p9, V.ref p10, V.ref p11, V.ref p12]) m).trans (same_new (o := .lst ([V.ref p1, V.ref p2, V.ref p3, V.ref p4, V.ref p5, V.ref p6] ++ [V.ref p7, V.ref p8, V.ref p9, V.ref p10, V.ref p11, V.ref p12])) n))
    have R := R12.same ((same_new (o := .lst [V.ref p7, V.ref p8, V.ref p9, V.ref p10, V.ref p11, V.ref p12]) m).trans (same_new (o := .lst ([V.ref p1, V.ref p2, V.ref p3, V.ref p4, V.ref p5, V.ref p6] ++ [V.ref p7, V.ref p8, V.ref p9, V.ref p10, V.ref p11, V.ref p12])) n))
    have A := upd_same (H := upd G12 t (.lst [V.ref p7, V.ref p8, V.ref p9, V.ref p10, V.ref p11, V.ref p12])) (a := l) (o := .lst ([V.ref p1, V.ref p2, V.ref p3, V.ref p4, V.ref p5, V.ref p6] ++ [V.ref p7, V.ref p8, V.ref p9, V.ref p10, V.ref p11, V.ref p12]))
    generalize upd (upd G12 t (.lst [V.ref p7, V.ref p8, V.ref p9, V.ref p10, V.ref p11, V.ref p12])) l (.lst ([V.ref p1, V.ref p2, V.ref p3, V.ref p4, V.ref p5, V.ref p6] ++ [V.ref p7, V.ref p8, V.ref p9, V.ref p10, V.ref p11, V.ref p12])) = G at S R A ⊢
    clear n m
    have S12 := S
    have R12 := R
    have A12 := A
    refine ⟨_, rfl, ?_⟩
    refine ⟨_, rfl, fun p13 G13 s13 n13 e13 => ?_⟩
    have S13 := S12.trans s13
    have R13 : Errs c "given" v G13 [p1, p2, p3, p4, p5, p6, p7, p8, p9, p10, p11, p12, p13] [0, 1, 2, 3, 4, 5, 6, 7, 8, 9, 10, 11, 12] := R12.snoc s13 e13
    have A13 := s13 _ _ A12
    refine ⟨_, rfl, fun p14 G14 s14 n14 e14 => ?_⟩
    have S14 := S13.trans s14
    have R14 : Errs c "given" v G14 [p1, p2, p3, p4, p5, p6, p7, p8, p9, p10, p11, p12, p13, p14] [0, 1, 2, 3, 4, 5, 6, 7, 8, 9, 10, 11, 12, 13] := R13.snoc s14 e14
    have A14 := s14 _ _ A13
    refine ⟨_, rfl, fun p15 G15 s15 n15 e15 => ?_⟩
    have S15 := S14.trans s15
    have R15 : Errs c "given" v G15 [p1, p2, p3, p4, p5, p6, p7, p8, p9, p10, p11, p12, p13, p14, p15] [0, 1, 2, 3, 4, 5, 6, 7, 8, 9, 10, 11, 12, 13, 14] := R14.snoc s15 e15
    have A15 := s15 _ _ A14
    refine ⟨_, rfl, fun p16 G16 s16 n16 e16 => ?_⟩
    have S16 := S15.trans s16
    have R16 : Errs c "given" v G16 [p1, p2, p3, p4, p5, p6, p7, p8, p9, p10, p11, p12, p13, p14, p15, p16] [0, 1, 2, 3, 4, 5, 6, 7, 8, 9, 10, 11, 12, 13, 14, 15] := R15.snoc s16 e16
    have A16 := s16 _ _ A15
    refine ⟨_, rfl, fun p17 G17 s17 n17 e17 => ?_⟩
    have S17 := S16.trans s17
    have R17 : Errs c "given" v G17 [p1, p2, p3, p4, p5, p6, p7, p8, p9, p10, p11, p12, p13, p14, p15, p16, p17] [0, 1, 2, 3, 4, 5, 6, 7, 8, 9, 10, 11, 12, 13, 14, 15, 16] := R16.snoc s17 e17
    have A17 := s17 _ _ A16
    refine ⟨(by show 5 ≤ sizeLine; decide), fun t m => ?_⟩
    refine ⟨_, t, _, _, rfl, rfl, (same_new m) _ _ A17, upd_same, (by show 12 + 5 ≤ sizeLine; decide), fun l n => ?_⟩
    have S := S17.trans ((same_new (o := .lst [V.ref p13, V.ref p14, V.ref p15, V.ref p16, V.ref p17]) m).trans (same_new (o := .lst (([V.ref p1, V.ref p2, V.ref p3, V.ref p4, V.ref p5, V.ref p6] ++ [V.ref p7, V.ref p8, V.ref p9, V.ref p10, V.ref p11, V.ref p12]) ++ [V.ref p13, V.ref p14, V.ref p15, V.ref p16, V.ref p17])) n))
    have R := R17.same ((same_new (o := .lst [V.ref p13, V.ref p14, V.ref p15, V.ref p16, V.ref p17]) m).trans (same_new (o := .lst (([V.ref p1, V.ref p2, V.ref p3, V.ref p4, V.ref p5, V.ref p6] ++ [V.ref p7, V.ref p8, V.ref p9, V.ref p10, V.ref p11, V.ref p12]) ++ [V.ref p13, V.ref p14, V.ref p15, V.ref p16, V.ref p17])) n))
    have A := upd_same (H := upd G17 t (.lst [V.ref p13, V.ref p14, V.ref p15, V.ref p16, V.ref p17])) (a := l) (o := .lst (([V.ref p1, V.ref p2, V.ref p3, V.ref p4, V.ref p5, V.ref p6] ++ [V.ref p7, V.ref p8, V.ref p9, V.ref p10, V.ref p11, V.ref p12]) ++ [V.ref p13, V.ref p14, V.ref p15, V.ref p16, V.ref p17]))
    generalize upd (upd G17 t (.lst [V.ref p13, V.ref p14, V.ref p15, V.ref p16, V.ref p17])) l (.lst (([V.ref p1, V.ref p2, V.ref p3, V.ref p4, V.ref p5, V.ref p6] ++ [V.ref p7, V.ref p8, V.ref p9, V.ref p10, V.ref p11, V.ref p12]) ++ [V.ref p13, V.ref p14, V.ref p15, V.ref p16, V.ref p17])) = G at S R A ⊢
    clear n m
    have S17 := S
    have R17 := R
    have A17 := A
    refine ⟨_, rfl, ?_⟩
    refine ⟨_, rfl, fun p18 G18 s18 n18 e18 => ?_⟩
    have S18 := S17.trans s18
    have R18 : Errs c "given" v G18 [p1, p2, p3, p4, p5, p6, p7, p8, p9, p10, p11, p12, p13, p14, p15, p16, p17, p18] [0, 1, 2, 3, 4, 5, 6, 7, 8, 9, 10, 11, 12, 13, 14, 15, 16, 17] := R17.snoc s18 e18
    have A18 := s18 _ _ A17
    refine ⟨_, rfl, fun p19 G19 s19 n19 e19 => ?_⟩
    have S19 := S18.trans s19
    have R19 : Errs c "given" v G19 [p1, p2, p3, p4, p5, p6, p7, p8, p9, p10, p11, p12, p13, p14, p15, p16, p17, p18, p19] [0, 1, 2, 3, 4, 5, 6, 7, 8, 9, 10, 11, 12, 13, 14, 15, 16, 17, 18] := R18.snoc s19 e19
    have A19 := s19 _ _ A18
    refine ⟨_, rfl, fun p20 G20 s20 n20 e20 => ?_⟩
    have S20 := S19.trans s20
    have R20 : Errs c "given" v G20 [p1, p2, p3, p4, p5, p6, p7, p8, p9, p10, p11, p12, p13, p14, p15, p16, p17, p18, p19, p20] [0, 1, 2, 3, 4, 5, 6, 7, 8, 9, 10, 11, 12, 13, 14, 15, 16, 17, 18, 19] := R19.snoc s20 e20
    have A20 := s20 _ _ A19
    refine ⟨_, rfl, fun p21 G21 s21 n21 e21 => ?_⟩
    have S21 := S20.trans s21
    have R21 : Errs c "given" v G21 [p1, p2, p3, p4, p5, p6, p7, p8, p9, p10, p11, p12, p13, p14, p15, p16, p17, p18, p19, p20, p21] [0, 1, 2, 3, 4, 5, 6, 7, 8, 9, 10, 11, 12, 13, 14, 15, 16, 17, 18, 19, 20] := R20.snoc s21 e21
    have A21 := s21 _ _ A20
    refine ⟨_, rfl, fun p22 G22 s22 n22 e22 => ?_⟩
    have S22 := S21.trans s22
    have R22 : Errs c "given" v G22 [p1, p2, p3, p4, p5, p6, p7, p8, p9, p10, p11, p12, p13, p14, p15, p16, p17, p18, p19, p20, p21, p22] [0, 1, 2, 3, 4, 5, 6, 7, 8, 9, 10, 11, 12, 13, 14, 15, 16, 17, 18, 19, 20, 21] := R21.snoc s22 e22
    have A22 := s22 _ _ A21
    refine ⟨(by show 5 ≤ sizeLine; decide), fun t m => ?_⟩
    refine ⟨_, t, _, _, rfl, rfl, (same_new m) _ _ A22, upd_same, (by show 17 + 5 ≤ sizeLine; decide), fun l n => ?_⟩
    have S := S22.trans ((same_new (o := .lst [V.ref p18, V.ref p19, V.ref p20, V.ref p21, V.ref p22]) m).trans (same_new (o := .lst ((([V.ref p1, V.ref p2, V.ref p3, V.ref p4, V.ref p5, V.ref p6] ++ [V.ref p7, V.ref p8, V.ref p9, V.ref p10, V.ref p11, V.ref p12]) ++ [V.ref p13, V.ref p14, V.ref p15, V.ref p16, V.ref p17]) ++ [V.ref p18, V.ref p19, V.ref p20, V.ref p21, V.ref p22])) n))
    have R := R22.same ((same_new (o := .lst [V.ref p18, V.ref p19, V.ref p20, V.ref p21, V.ref p22]) m).trans (same_new (o := .lst ((([V.ref p1, V.ref p2, V.ref p3, V.ref p4, V.ref p5, V.ref p6] ++ [V.ref p7, V.ref p8, V.ref p9, V.ref p10, V.ref p11, V.ref p12]) ++ [V.ref p13, V.ref p14, V.ref p15, V.ref p16, V.ref p17]) ++ [V.ref p18, V.ref p19, V.ref p20, V.ref p21, V.ref p22])) n))
    have A := upd_same (H := upd G22 t (.lst [V.ref p18, V.ref p19, V.ref p20, V.ref p21, V.ref p22])) (a := l) (o := .lst ((([V.ref p1, V.ref p2, V.ref p3, V.ref p4, V.ref p5, V.ref p6] ++ [V.ref p7, V.ref p8, V.ref p9, V.ref p10, V.ref p11, V.ref p12]) ++ [V.ref p13, V.ref p14, V.ref p15, V.ref p16, V.ref p17]) ++ [V.ref p18, V.ref p19, V.ref p20, V.ref p21, V.ref p22]))
    exact go l [p1, p2, p3, p4, p5, p6, p7, p8, p9, p10, p11, p12, p13, p14, p15, p16, p17, p18, p19, p20, p21, p22] _ S A R
theorem scNamed : FnScope ["_law_thing", "_law_found"] ["_law_thing"] (defScope sNamed) := ⟨rfl, rfl, rfl, by decide +kernel, rfl, by decide +kernel, by decide +kernel⟩
theorem ok_named {f : Addr} {fd : FuncData} (F : Fun K "_law_named" "_law_named" sNamed f fd) (T : Al P w K mg base c d) : FnOk P w K mg base CX0 3 f fd ["_law_thing"] (spMade c [0, 1, 2, 3, 4, 5, 6, 7, 8, 9, 10, 11, 12, 13, 14, 15, 16, 17, 18, 19, 20, 21]) := by
  refine F.ok scNamed (fun vs H Q E h => ?_) (fun cdv A outer s H vs Q E hr h => ?_)
  · obtain ⟨v, rfl, _⟩ := h
    rfl
  · obtain ⟨v, rfl, go⟩ := h
    refine ⟨_, pss_cons (ps_set (i := 1) scNamed.nd rfl (.inl rfl) (pe_lst (pa_cons (pe_mkEk (T.ecl 0 "BadBounds" "given" rfl) hr (pv 0)) (pa_cons (pe_mkEk (T.ecl 1 "BadCorner" "given" rfl) hr (pv 0)) (pa_cons (pe_mkEk (T.ecl 2 "BadCount" "given" rfl) hr (pv 0)) (pa_cons (pe_mkEk (T.ecl 3 "BadDraws" "given" rfl) hr (pv 0)) pa_nil))))))
      (pss_cons (ps_set (i := 1) scNamed.nd rfl (.inl rfl) (pe_op op_cat (pv 1) (pe_lst (pa_cons (pe_mkEk (T.ecl 4 "BadFamily" "given" rfl) hr (pv 0)) (pa_cons (pe_mkEk (T.ecl 5 "BadGivers" "given" rfl) hr (pv 0)) (pa_cons (pe_mkEk (T.ecl 6 "BadKind" "given" rfl) hr (pv 0)) (pa_cons (pe_mkEk (T.ecl 7 "BadLiars" "given" rfl) hr (pv 0)) pa_nil)))))))
      (pss_cons (ps_set (i := 1) scNamed.nd rfl (.inl rfl) (pe_op op_cat (pv 1) (pe_lst (pa_cons (pe_mkEk (T.ecl 8 "BadName" "given" rfl) hr (pv 0)) (pa_cons (pe_mkEk (T.ecl 9 "BadNames" "given" rfl) hr (pv 0)) (pa_cons (pe_mkEk (T.ecl 10 "BadNumber" "given" rfl) hr (pv 0)) (pa_cons (pe_mkEk (T.ecl 11 "BadPath" "given" rfl) hr (pv 0)) pa_nil)))))))
      (pss_cons (ps_set (i := 1) scNamed.nd rfl (.inl rfl) (pe_op op_cat (pv 1) (pe_lst (pa_cons (pe_mkEk (T.ecl 12 "BadPlan" "given" rfl) hr (pv 0)) (pa_cons (pe_mkEk (T.ecl 13 "BadPrices" "given" rfl) hr (pv 0)) (pa_cons (pe_mkEk (T.ecl 14 "BadShares" "given" rfl) hr (pv 0)) (pa_cons (pe_mkEk (T.ecl 15 "BadStake" "given" rfl) hr (pv 0)) pa_nil)))))))
      (pss_cons (ps_set (i := 1) scNamed.nd rfl (.inl rfl) (pe_op op_cat (pv 1) (pe_lst (pa_cons (pe_mkEk (T.ecl 16 "BadStandIn" "given" rfl) hr (pv 0)) (pa_cons (pe_mkEk (T.ecl 17 "BadText" "given" rfl) hr (pv 0)) (pa_cons (pe_mkEk (T.ecl 18 "BadWish" "given" rfl) hr (pv 0)) (pa_cons (pe_mkEk (T.ecl 19 "NoEnd" "given" rfl) hr (pv 0)) pa_nil)))))))
      (pss_one (ps_ret (pe_op op_cat (pv 1) (pe_lst (pa_cons (pe_mkEk (T.ecl 20 "NoPerson" "given" rfl) hr (pv 0)) (pa_cons (pe_mkEk (T.ecl 21 "NotNow" "given" rfl) hr (pv 0)) pa_nil)))))))))), ?_⟩
    have S0 : Same H H := Same.refl H
    have R0 : Errs c "given" v H [] [] := trivial
    refine ⟨_, rfl, fun p1 G1 s1 n1 e1 => ?_⟩
    have S1 := S0.trans s1
    have R1 : Errs c "given" v G1 [p1] [0] := R0.snoc s1 e1
    refine ⟨_, rfl, fun p2 G2 s2 n2 e2 => ?_⟩
    have S2 := S1.trans s2
    have R2 : Errs c "given" v G2 [p1, p2] [0, 1] := R1.snoc s2 e2
    refine ⟨_, rfl, fun p3 G3 s3 n3 e3 => ?_⟩
    have S3 := S2.trans s3
    have R3 : Errs c "given" v G3 [p1, p2, p3] [0, 1, 2] := R2.snoc s3 e3
    refine ⟨_, rfl, fun p4 G4 s4 n4 e4 => ?_⟩
    have S4 := S3.trans s4
    have R4 : Errs c "given" v G4 [p1, p2, p3, p4] [0, 1, 2, 3] := R3.snoc s4 e4
    refine ⟨(by show 4 ≤ sizeLine; decide), fun l n => ?_⟩
    have S := S4.trans (same_new (o := .lst [V.ref p1, V.ref p2, V.ref p3, V.ref p4]) n)
    have R := R4.same (same_new (o := .lst [V.ref p1, V.ref p2, V.ref p3, V.ref p4]) n)
    have A := upd_same (H := G4) (a := l) (o := .lst [V.ref p1, V.ref p2, V.ref p3, V.ref p4])
    generalize upd G4 l (.lst [V.ref p1, V.ref p2, V.ref p3, V.ref p4]) = G at S R A ⊢
    clear n
    have S4 := S
    have R4 := R
    have A4 := A
    refine ⟨_, rfl, ?_⟩
    refine ⟨_, rfl, fun p5 G5 s5 n5 e5 => ?_⟩
    have S5 := S4.trans s5
    have R5 : Errs c "given" v G5 [p1, p2, p3, p4, p5] [0, 1, 2, 3, 4] := R4.snoc s5 e5
    have A5 := s5 _ _ A4
    refine ⟨_, rfl, fun p6 G6 s6 n6 e6 => ?_⟩
    have S6 := S5.trans s6
    have R6 : Errs c "given" v G6 [p1, p2, p3, p4, p5, p6] [0, 1, 2, 3, 4, 5] := R5.snoc s6 e6
    have A6 := s6 _ _ A5
    refine ⟨_, rfl, fun p7 G7 s7 n7 e7 => ?_⟩
    have S7 := S6.trans s7
    have R7 : Errs c "given" v G7 [p1, p2, p3, p4, p5, p6, p7] [0, 1, 2, 3, 4, 5, 6] := R6.snoc s7 e7
    have A7 := s7 _ _ A6
    refine ⟨_, rfl, fun p8 G8 s8 n8 e8 => ?_⟩
    have S8 := S7.trans s8
    have R8 : Errs c "given" v G8 [p1, p2, p3, p4, p5, p6, p7, p8] [0, 1, 2, 3, 4, 5, 6, 7] := R7.snoc s8 e8
    have A8 := s8 _ _ A7
    refine ⟨(by show 4 ≤ sizeLine; decide), fun t m => ?_⟩
    refine ⟨_, t, _, _, rfl, rfl, (same_new m) _ _ A8, upd_same, (by show 4 + 4 ≤ sizeLine; decide), fun l n => ?_⟩
    have S := S8.trans ((same_new (o := .lst [V.ref p5, V.ref p6, V.ref p7, V.ref p8]) m).trans (same_new (o := .lst ([V.ref p1, V.ref p2, V.ref p3, V.ref p4] ++ [V.ref p5, V.ref p6, V.ref p7, V.ref p8])) n))
    have R := R8.same ((same_new (o := .lst [V.ref p5, V.ref p6, V.ref p7, V.ref p8]) m).trans (same_new (o := .lst ([V.ref p1, V.ref p2, V.ref p3, V.ref p4] ++ [V.ref p5, V.ref p6, V.ref p7, V.ref p8])) n))
    have A := upd_same (H := upd G8 t (.lst [V.ref p5, V.ref p6, V.ref p7, V.ref p8])) (a := l) (o := .lst ([V.ref p1, V.ref p2, V.ref p3, V.ref p4] ++ [V.ref p5, V.ref p6, V.ref p7, V.ref p8]))
    generalize upd (upd G8 t (.lst [V.ref p5, V.ref p6, V.ref p7, V.ref p8])) l (.lst ([V.ref p1, V.ref p2, V.ref p3, V.ref p4] ++ [V.ref p5, V.ref p6, V.ref p7, V.ref p8])) = G at S R A ⊢
    clear n m
    have S8 := S
    have R8 := R
    have A8 := A
    refine ⟨_, rfl, ?_⟩
    refine ⟨_, rfl, fun p9 G9 s9 n9 e9 => ?_⟩
    have S9 := S8.trans s9
    have R9 : Errs c "given" v G9 [p1, p2, p3, p4, p5, p6, p7, p8, p9] [0, 1, 2, 3, 4, 5, 6, 7, 8] := R8.snoc s9 e9
    have A9 := s9 _ _ A8
    refine ⟨_, rfl, fun p10 G10 s10 n10 e10 => ?_⟩
    have S10 := S9.trans s10
    have R10 : Errs c "given" v G10 [p1, p2, p3, p4, p5, p6, p7, p8, p9, p10] [0, 1, 2, 3, 4, 5, 6, 7, 8, 9] := R9.snoc s10 e10
    have A10 := s10 _ _ A9
    refine ⟨_, rfl, fun p11 G11 s11 n11 e11 => ?_⟩
    have S11 := S10.trans s11
    have R11 : Errs c "given" v G11 [p1, p2, p3, p4, p5, p6, p7, p8, p9, p10, p11] [0, 1, 2, 3, 4, 5, 6, 7, 8, 9, 10] := R10.snoc s11 e11
    have A11 := s11 _ _ A10
    refine ⟨_, rfl, fun p12 G12 s12 n12 e12 => ?_⟩
    have S12 := S11.trans s12
    have R12 : Errs c "given" v G12 [p1, p2, p3, p4, p5, p6, p7, p8, p9, p10, p11, p12] [0, 1, 2, 3, 4, 5, 6, 7, 8, 9, 10, 11] := R11.snoc s12 e12
    have A12 := s12 _ _ A11
    refine ⟨(by show 4 ≤ sizeLine; decide), fun t m => ?_⟩
    refine ⟨_, t, _, _, rfl, rfl, (same_new m) _ _ A12, upd_same, (by show 8 + 4 ≤ sizeLine; decide), fun l n => ?_⟩
    have S := S12.trans ((same_new (o := .lst [V.ref p9, V.ref p10, V.ref p11, V.ref p12]) m).trans (same_new (o := .lst (([V.ref p1, V.ref p2, V.ref p3, V.ref p4] ++ [V.ref p5, V.ref p6, V.ref p7, V.ref p8]) ++ [V.ref p9, V.ref p10, V.ref p11, V.ref p12])) n))
    have R := R12.same ((same_new (o := .lst [V.ref p9, V.ref p10, V.ref p11, V.ref p12]) m).trans (same_new (o := .lst (([V.ref p1, V.ref p2, V.ref p3, V.ref p4] ++ [V.ref p5, V.ref p6, V.ref p7, V.ref p8]) ++ [V.ref p9, V.ref p10, V.ref p11, V.ref p12])) n))
    have A := upd_same (H := upd G12 t (.lst [V.ref p9, V.ref p10, V.ref p11, V.ref p12])) (a := l) (o := .lst (([V.ref p1, V.ref p2, V.ref p3, V.ref p4] ++ [V.ref p5, V.ref p6, V.ref p7, V.ref p8]) ++ [V.ref p9, V.ref p10, V.ref p11, V.ref p12]))
    generalize upd (upd G12 t (.lst [V.ref p9, V.ref p10, V.ref p11, V.ref p12])) l (.lst (([V.ref p1, V.ref p2, V.ref p3, V.ref p4] ++ [V.ref p5, V.ref p6, V.ref p7, V.ref p8]) ++ [V.ref p9, V.ref p10, V.ref p11, V.ref p12])) = G at S R A ⊢
    clear n m
    have S12 := S
    have R12 := R
    have A12 := A
    refine ⟨_, rfl, ?_⟩
    refine ⟨_, rfl, fun p13 G13 s13 n13 e13 => ?_⟩
    have S13 := S12.trans s13
    have R13 : Errs c "given" v G13 [p1, p2, p3, p4, p5, p6, p7, p8, p9, p10, p11, p12, p13] [0, 1, 2, 3, 4, 5, 6, 7, 8, 9, 10, 11, 12] := R12.snoc s13 e13
    have A13 := s13 _ _ A12
    refine ⟨_, rfl, fun p14 G14 s14 n14 e14 => ?_⟩
    have S14 := S13.trans s14
    have R14 : Errs c "given" v G14 [p1, p2, p3, p4, p5, p6, p7, p8, p9, p10, p11, p12, p13, p14] [0, 1, 2, 3, 4, 5, 6, 7, 8, 9, 10, 11, 12, 13] := R13.snoc s14 e14
    have A14 := s14 _ _ A13
    refine ⟨_, rfl, fun p15 G15 s15 n15 e15 => ?_⟩
    have S15 := S14.trans s15
    have R15 : Errs c "given" v G15 [p1, p2, p3, p4, p5, p6, p7, p8, p9, p10, p11, p12, p13, p14, p15] [0, 1, 2, 3, 4, 5, 6, 7, 8, 9, 10, 11, 12, 13, 14] := R14.snoc s15 e15
    have A15 := s15 _ _ A14
    refine ⟨_, rfl, fun p16 G16 s16 n16 e16 => ?_⟩
    have S16 := S15.trans s16
    have R16 : Errs c "given" v G16 [p1, p2, p3, p4, p5, p6, p7, p8, p9, p10, p11, p12, p13, p14, p15, p16] [0, 1, 2, 3, 4, 5, 6, 7, 8, 9, 10, 11, 12, 13, 14, 15] := R15.snoc s16 e16
    have A16 := s16 _ _ A15
    refine ⟨(by show 4 ≤ sizeLine; decide), fun t m => ?_⟩
    refine ⟨_, t, _, _, rfl, rfl, (same_new m) _ _ A16, upd_same, (by show 12 + 4 ≤ sizeLine; decide), fun l n => ?_⟩
    have S := S16.trans ((same_new (o := .lst [V.ref p13, V.ref p14, V.ref p15, V.ref p16]) m).trans (same_new (o := .lst ((([V.ref p1, V.ref p2, V.ref p3, V.ref p4] ++ [V.ref p5, V.ref p6, V.ref p7, V.ref p8]) ++ [V.ref p9, V.ref p10, V.ref p11, V.ref p12]) ++ [V.ref p13, V.ref p14, V.ref p15, V.ref p16])) n))
    have R := R16.same ((same_new (o := .lst [V.ref p13, V.ref p14, V.ref p15, V.ref p16]) m).trans (same_new (o := .lst ((([V.ref p1, V.ref p2, V.ref p3, V.ref p4] ++ [V.ref p5, V.ref p6, V.ref p7, V.ref p8]) ++ [V.ref p9, V.ref p10, V.ref p11, V.ref p12]) ++ [V.ref p13, V.ref p14, V.ref p15, V.ref p16])) n))
    have A := upd_same (H := upd G16 t (.lst [V.ref p13, V.ref p14, V.ref p15, V.ref p16])) (a := l) (o := .lst ((([V.ref p1, V.ref p2, V.ref p3, V.ref p4] ++ [V.ref p5, V.ref p6, V.ref p7, V.ref p8]) ++ [V.ref p9, V.ref p10, V.ref p11, V.ref p12]) ++ [V.ref p13, V.ref p14, V.ref p15, V.ref p16]))
    generalize upd (upd G16 t (.lst [V.ref p13, V.ref p14, V.ref p15, V.ref p16])) l (.lst ((([V.ref p1, V.ref p2, V.ref p3, V.ref p4] ++ [V.ref p5, V.ref p6, V.ref p7, V.ref p8]) ++ [V.ref p9, V.ref p10, V.ref p11, V.ref p12]) ++ [V.ref p13, V.ref p14, V.ref p15, V.ref p16])) = G at S R A ⊢
    clear n m
    have S16 := S
    have R16 := R
    have A16 := A
    refine ⟨_, rfl, ?_⟩
    refine ⟨_, rfl, fun p17 G17 s17 n17 e17 => ?_⟩
    have S17 := S16.trans s17
    have R17 : Errs c "given" v G17 [p1, p2, p3, p4, p5, p6, p7, p8, p9, p10, p11, p12, p13, p14, p15, p16, p17] [0, 1, 2, 3, 4, 5, 6, 7, 8, 9, 10, 11, 12, 13, 14, 15, 16] := R16.snoc s17 e17
    have A17 := s17 _ _ A16
    refine ⟨_, rfl, fun p18 G18 s18 n18 e18 => ?_⟩
    have S18 := S17.trans s18
    have R18 : Errs c "given" v G18 [p1, p2, p3, p4, p5, p6, p7, p8, p9, p10, p11, p12, p13, p14, p15, p16, p17, p18] [0, 1, 2, 3, 4, 5, 6, 7, 8, 9, 10, 11, 12, 13, 14, 15, 16, 17] := R17.snoc s18 e18
    have A18 := s18 _ _ A17
    refine ⟨_, rfl, fun p19 G19 s19 n19 e19 => ?_⟩
    have S19 := S18.trans s19
    have R19 : Errs c "given" v G19 [p1, p2, p3, p4, p5, p6, p7, p8, p9, p10, p11, p12, p13, p14, p15, p16, p17, p18, p19] [0, 1, 2, 3, 4, 5, 6, 7, 8, 9, 10, 11, 12, 13, 14, 15, 16, 17, 18] := R18.snoc s19 e19
    have A19 := s19 _ _ A18
    refine ⟨_, rfl, fun p20 G20 s20 n20 e20 => ?_⟩
    have S20 := S19.trans s20
    have R20 : Errs c "given" v G20 [p1, p2, p3, p4, p5, p6, p7, p8, p9, p10, p11, p12, p13, p14, p15, p16, p17, p18, p19, p20] [0, 1, 2, 3, 4, 5, 6, 7, 8, 9, 10, 11, 12, 13, 14, 15, 16, 17, 18, 19] := R19.snoc s20 e20
    have A20 := s20 _ _ A19
    refine ⟨(by show 4 ≤ sizeLine; decide), fun t m => ?_⟩
    refine ⟨_, t, _, _, rfl, rfl, (same_new m) _ _ A20, upd_same, (by show 16 + 4 ≤ sizeLine; decide), fun l n => ?_⟩
    have S := S20.trans ((same_new (o := .lst [V.ref p17, V.ref p18, V.ref p19, V.ref p20]) m).trans (same_new (o := .lst (((([V.ref p1, V.ref p2, V.ref p3, V.ref p4] ++ [V.ref p5, V.ref p6, V.ref p7, V.ref p8]) ++ [V.ref p9, V.ref p10, V.ref p11, V.ref p12]) ++ [V.ref p13, V.ref p14, V.ref p15, V.ref p16]) ++ [V.ref p17, V.ref p18, V.ref p19, V.ref p20])) n))
    have R := R20.same ((same_new (o := .lst [V.ref p17, V.ref p18, V.ref p19, V.ref p20]) m).trans (same_new (o := .lst (((([V.ref p1, V.ref p2, V.ref p3, V.ref p4] ++ [V.ref p5, V.ref p6, V.ref p7, V.ref p8]) ++ [V.ref p9, V.ref p10, V.ref p11, V.ref p12]) ++ [V.ref p13, V.ref p14, V.ref p15, V.ref p16]) ++ [V.ref p17, V.ref p18, V.ref p19, V.ref p20])) n))
    have A := upd_same (H := upd G20 t (.lst [V.ref p17, V.ref p18, V.ref p19, V.ref p20])) (a := l) (o := .lst (((([V.ref p1, V.ref p2, V.ref p3, V.ref p4] ++ [V.ref p5, V.ref p6, V.ref p7, V.ref p8]) ++ [V.ref p9, V.ref p10, V.ref p11, V.ref p12]) ++ [V.ref p13, V.ref p14, V.ref p15, V.ref p16]) ++ [V.ref p17, V.ref p18, V.ref p19, V.ref p20]))
    generalize upd (upd G20 t (.lst [V.ref p17, V.ref p18, V.ref p19, V.ref p20])) l (.lst (((([V.ref p1, V.ref p2, V.ref p3, V.ref p4] ++ [V.ref p5, V.ref p6, V.ref p7, V.ref p8]) ++ [V.ref p9, V.ref p10, V.ref p11, V.ref p12]) ++ [V.ref p13, V.ref p14, V.ref p15, V.ref p16]) ++ [V.ref p17, V.ref p18, V.ref p19, V.ref p20])) = G at S R A ⊢
    clear n m
    have S20 := S
    have R20 := R
    have A20 := A
    refine ⟨_, rfl, ?_⟩
    refine ⟨_, rfl, fun p21 G21 s21 n21 e21 => ?_⟩
    have S21 := S20.trans s21
    have R21 : Errs c "given" v G21 [p1, p2, p3, p4, p5, p6, p7, p8, p9, p10, p11, p12, p13, p14, p15, p16, p17, p18, p19, p20, p21] [0, 1, 2, 3, 4, 5, 6, 7, 8, 9, 10, 11, 12, 13, 14, 15, 16, 17, 18, 19, 20] := R20.snoc s21 e21
    have A21 := s21 _ _ A20
    refine ⟨_, rfl, fun p22 G22 s22 n22 e22 => ?_⟩
    have S22 := S21.trans s22
    have R22 : Errs c "given" v G22 [p1, p2, p3, p4, p5, p6, p7, p8, p9, p10, p11, p12, p13, p14, p15, p16, p17, p18, p19, p20, p21, p22] [0, 1, 2, 3, 4, 5, 6, 7, 8, 9, 10, 11, 12, 13, 14, 15, 16, 17, 18, 19, 20, 21] := R21.snoc s22 e22
    have A22 := s22 _ _ A21
    refine ⟨(by show 2 ≤ sizeLine; decide), fun t m => ?_⟩
    refine ⟨_, t, _, _, rfl, rfl, (same_new m) _ _ A22, upd_same, (by show 20 + 2 ≤ sizeLine; decide), fun l n => ?_⟩
    have S := S22.trans ((same_new (o := .lst [V.ref p21, V.ref p22]) m).trans (same_new (o := .lst ((((([V.ref p1, V.ref p2, V.ref p3, V.ref p4] ++ [V.ref p5, V.ref p6, V.ref p7, V.ref p8]) ++ [V.ref p9, V.ref p10, V.ref p11, V.ref p12]) ++ [V.ref p13, V.ref p14, V.ref p15, V.ref p16]) ++ [V.ref p17, V.ref p18, V.ref p19, V.ref p20]) ++ [V.ref p21, V.ref p22])) n))
    have R := R22.same ((same_new (o := .lst [V.ref p21, V.ref p22]) m).trans (same_new (o := .lst ((((([V.ref p1, V.ref p2, V.ref p3, V.ref p4] ++ [V.ref p5, V.ref p6, V.ref p7, V.ref p8]) ++ [V.ref p9, V.ref p10, V.ref p11, V.ref p12]) ++ [V.ref p13, V.ref p14, V.ref p15, V.ref p16]) ++ [V.ref p17, V.ref p18, V.ref p19, V.ref p20]) ++ [V.ref p21, V.ref p22])) n))
    have A := upd_same (H := upd G22 t (.lst [V.ref p21, V.ref p22])) (a := l) (o := .lst ((((([V.ref p1, V.ref p2, V.ref p3, V.ref p4] ++ [V.ref p5, V.ref p6, V.ref p7, V.ref p8]) ++ [V.ref p9, V.ref p10, V.ref p11, V.ref p12]) ++ [V.ref p13, V.ref p14, V.ref p15, V.ref p16]) ++ [V.ref p17, V.ref p18, V.ref p19, V.ref p20]) ++ [V.ref p21, V.ref p22]))
    exact go l [p1, p2, p3, p4, p5, p6, p7, p8, p9, p10, p11, p12, p13, p14, p15, p16, p17, p18, p19, p20, p21, p22] _ S A R
theorem scNew : FnScope ["_law_thing", "_law_found"] ["_law_thing"] (defScope sNew) := ⟨rfl, rfl, rfl, by decide +kernel, rfl, by decide +kernel, by decide +kernel⟩
theorem ok_new {f : Addr} {fd : FuncData} (F : Fun K "_law_new" "_law_new" sNew f fd) (T : Al P w K mg base c d) : FnOk P w K mg base CX0 3 f fd ["_law_thing"] (spMade c [28, 29, 30, 31, 32, 33, 34]) := by
  refine F.ok scNew (fun vs H Q E h => ?_) (fun cdv A outer s H vs Q E hr h => ?_)
  · obtain ⟨v, rfl, _⟩ := h
    rfl
  · obtain ⟨v, rfl, go⟩ := h
    refine ⟨_, pss_cons (ps_set (i := 1) scNew.nd rfl (.inl rfl) (pe_lst (pa_cons (pe_mkE (T.ecl 28 "BadBudget" "given" rfl) hr (pv 0)) (pa_cons (pe_mkE (T.ecl 29 "BadGuard" "given" rfl) hr (pv 0)) (pa_cons (pe_mkE (T.ecl 30 "BadHabit" "given" rfl) hr (pv 0)) (pa_cons (pe_mkE (T.ecl 31 "BadMixture" "given" rfl) hr (pv 0)) (pa_cons (pe_mkE (T.ecl 32 "BadPlans" "given" rfl) hr (pv 0)) pa_nil)))))))
      (pss_one (ps_ret (pe_op op_cat (pv 1) (pe_lst (pa_cons (pe_mkE (T.ecl 33 "BadSeason" "given" rfl) hr (pv 0)) (pa_cons (pe_mkE (T.ecl 34 "BadWishes" "given" rfl) hr (pv 0)) pa_nil)))))), ?_⟩
    have S0 : Same H H := Same.refl H
    have R0 : Errs c "given" v H [] [] := trivial
    refine ⟨_, rfl, fun p1 G1 s1 n1 e1 => ?_⟩
    have S1 := S0.trans s1
    have R1 : Errs c "given" v G1 [p1] [28] := R0.snoc s1 e1
    refine ⟨_, rfl, fun p2 G2 s2 n2 e2 => ?_⟩
    have S2 := S1.trans s2
    have R2 : Errs c "given" v G2 [p1, p2] [28, 29] := R1.snoc s2 e2
    refine ⟨_, rfl, fun p3 G3 s3 n3 e3 => ?_⟩
    have S3 := S2.trans s3
    have R3 : Errs c "given" v G3 [p1, p2, p3] [28, 29, 30] := R2.snoc s3 e3
    refine ⟨_, rfl, fun p4 G4 s4 n4 e4 => ?_⟩
    have S4 := S3.trans s4
    have R4 : Errs c "given" v G4 [p1, p2, p3, p4] [28, 29, 30, 31] := R3.snoc s4 e4
    refine ⟨_, rfl, fun p5 G5 s5 n5 e5 => ?_⟩
    have S5 := S4.trans s5
    have R5 : Errs c "given" v G5 [p1, p2, p3, p4, p5] [28, 29, 30, 31, 32] := R4.snoc s5 e5
    refine ⟨(by show 5 ≤ sizeLine; decide), fun l n => ?_⟩
    have S := S5.trans (same_new (o := .lst [V.ref p1, V.ref p2, V.ref p3, V.ref p4, V.ref p5]) n)
    have R := R5.same (same_new (o := .lst [V.ref p1, V.ref p2, V.ref p3, V.ref p4, V.ref p5]) n)
    have A := upd_same (H := G5) (a := l) (o := .lst [V.ref p1, V.ref p2, V.ref p3, V.ref p4, V.ref p5])
    generalize upd G5 l (.lst [V.ref p1, V.ref p2, V.ref p3, V.ref p4, V.ref p5]) = G at S R A ⊢
    clear n
    have S5 := S
    have R5 := R
    have A5 := A
    refine ⟨_, rfl, ?_⟩
    refine ⟨_, rfl, fun p6 G6 s6 n6 e6 => ?_⟩
    have S6 := S5.trans s6
    have R6 : Errs c "given" v G6 [p1, p2, p3, p4, p5, p6] [28, 29, 30, 31, 32, 33] := R5.snoc s6 e6
    have A6 := s6 _ _ A5
    refine ⟨_, rfl, fun p7 G7 s7 n7 e7 => ?_⟩
    have S7 := S6.trans s7
    have R7 : Errs c "given" v G7 [p1, p2, p3, p4, p5, p6, p7] [28, 29, 30, 31, 32, 33, 34] := R6.snoc s7 e7
    have A7 := s7 _ _ A6
    refine ⟨(by show 2 ≤ sizeLine; decide), fun t m => ?_⟩
    refine ⟨_, t, _, _, rfl, rfl, (same_new m) _ _ A7, upd_same, (by show 5 + 2 ≤ sizeLine; decide), fun l n => ?_⟩
    have S := S7.trans ((same_new (o := .lst [V.ref p6, V.ref p7]) m).trans (same_new (o := .lst ([V.ref p1, V.ref p2, V.ref p3, V.ref p4, V.ref p5] ++ [V.ref p6, V.ref p7])) n))
    have R := R7.same ((same_new (o := .lst [V.ref p6, V.ref p7]) m).trans (same_new (o := .lst ([V.ref p1, V.ref p2, V.ref p3, V.ref p4, V.ref p5] ++ [V.ref p6, V.ref p7])) n))
    have A := upd_same (H := upd G7 t (.lst [V.ref p6, V.ref p7])) (a := l) (o := .lst ([V.ref p1, V.ref p2, V.ref p3, V.ref p4, V.ref p5] ++ [V.ref p6, V.ref p7]))
    exact go l [p1, p2, p3, p4, p5, p6, p7] _ S A R
theorem scNewNamed : FnScope ["_law_thing", "_law_found"] ["_law_thing"] (defScope sNewNamed) := ⟨rfl, rfl, rfl, by decide +kernel, rfl, by decide +kernel, by decide +kernel⟩
theorem ok_newnamed {f : Addr} {fd : FuncData} (F : Fun K "_law_new_named" "_law_new_named" sNewNamed f fd) (T : Al P w K mg base c d) : FnOk P w K mg base CX0 3 f fd ["_law_thing"] (spMade c [28, 29, 30, 31, 32, 33, 34]) := by
  refine F.ok scNewNamed (fun vs H Q E h => ?_) (fun cdv A outer s H vs Q E hr h => ?_)
  · obtain ⟨v, rfl, _⟩ := h
    rfl
  · obtain ⟨v, rfl, go⟩ := h
    refine ⟨_, pss_cons (ps_set (i := 1) scNewNamed.nd rfl (.inl rfl) (pe_lst (pa_cons (pe_mkEk (T.ecl 28 "BadBudget" "given" rfl) hr (pv 0)) (pa_cons (pe_mkEk (T.ecl 29 "BadGuard" "given" rfl) hr (pv 0)) (pa_cons (pe_mkEk (T.ecl 30 "BadHabit" "given" rfl) hr (pv 0)) (pa_cons (pe_mkEk (T.ecl 31 "BadMixture" "given" rfl) hr (pv 0)) pa_nil))))))
      (pss_one (ps_ret (pe_op op_cat (pv 1) (pe_lst (pa_cons (pe_mkEk (T.ecl 32 "BadPlans" "given" rfl) hr (pv 0)) (pa_cons (pe_mkEk (T.ecl 33 "BadSeason" "given" rfl) hr (pv 0)) (pa_cons (pe_mkEk (T.ecl 34 "BadWishes" "given" rfl) hr (pv 0)) pa_nil))))))), ?_⟩
    have S0 : Same H H := Same.refl H
    have R0 : Errs c "given" v H [] [] := trivial
    refine ⟨_, rfl, fun p1 G1 s1 n1 e1 => ?_⟩
    have S1 := S0.trans s1
    have R1 : Errs c "given" v G1 [p1] [28] := R0.snoc s1 e1
    refine ⟨_, rfl, fun p2 G2 s2 n2 e2 => ?_⟩
    have S2 := S1.trans s2
    have R2 : Errs c "given" v G2 [p1, p2] [28, 29] := R1.snoc s2 e2
    refine ⟨_, rfl, fun p3 G3 s3 n3 e3 => ?_⟩
    have S3 := S2.trans s3
    have R3 : Errs c "given" v G3 [p1, p2, p3] [28, 29, 30] := R2.snoc s3 e3
    refine ⟨_, rfl, fun p4 G4 s4 n4 e4 => ?_⟩
    have S4 := S3.trans s4
    have R4 : Errs c "given" v G4 [p1, p2, p3, p4] [28, 29, 30, 31] := R3.snoc s4 e4
    refine ⟨(by show 4 ≤ sizeLine; decide), fun l n => ?_⟩
    have S := S4.trans (same_new (o := .lst [V.ref p1, V.ref p2, V.ref p3, V.ref p4]) n)
    have R := R4.same (same_new (o := .lst [V.ref p1, V.ref p2, V.ref p3, V.ref p4]) n)
    have A := upd_same (H := G4) (a := l) (o := .lst [V.ref p1, V.ref p2, V.ref p3, V.ref p4])
    generalize upd G4 l (.lst [V.ref p1, V.ref p2, V.ref p3, V.ref p4]) = G at S R A ⊢
    clear n
    have S4 := S
    have R4 := R
    have A4 := A
    refine ⟨_, rfl, ?_⟩
    refine ⟨_, rfl, fun p5 G5 s5 n5 e5 => ?_⟩
    have S5 := S4.trans s5
    have R5 : Errs c "given" v G5 [p1, p2, p3, p4, p5] [28, 29, 30, 31, 32] := R4.snoc s5 e5
    have A5 := s5 _ _ A4
    refine ⟨_, rfl, fun p6 G6 s6 n6 e6 => ?_⟩
    have S6 := S5.trans s6
    have R6 : Errs c "given" v G6 [p1, p2, p3, p4, p5, p6] [28, 29, 30, 31, 32, 33] := R5.snoc s6 e6
    have A6 := s6 _ _ A5
    refine ⟨_, rfl, fun p7 G7 s7 n7 e7 => ?_⟩
    have S7 := S6.trans s7
    have R7 : Errs c "given" v G7 [p1, p2, p3, p4, p5, p6, p7] [28, 29, 30, 31, 32, 33, 34] := R6.snoc s7 e7
    have A7 := s7 _ _ A6
    refine ⟨(by show 3 ≤ sizeLine; decide), fun t m => ?_⟩
    refine ⟨_, t, _, _, rfl, rfl, (same_new m) _ _ A7, upd_same, (by show 4 + 3 ≤ sizeLine; decide), fun l n => ?_⟩
    have S := S7.trans ((same_new (o := .lst [V.ref p5, V.ref p6, V.ref p7]) m).trans (same_new (o := .lst ([V.ref p1, V.ref p2, V.ref p3, V.ref p4] ++ [V.ref p5, V.ref p6, V.ref p7])) n))
    have R := R7.same ((same_new (o := .lst [V.ref p5, V.ref p6, V.ref p7]) m).trans (same_new (o := .lst ([V.ref p1, V.ref p2, V.ref p3, V.ref p4] ++ [V.ref p5, V.ref p6, V.ref p7])) n))
    have A := upd_same (H := upd G7 t (.lst [V.ref p5, V.ref p6, V.ref p7])) (a := l) (o := .lst ([V.ref p1, V.ref p2, V.ref p3, V.ref p4] ++ [V.ref p5, V.ref p6, V.ref p7]))
    exact go l [p1, p2, p3, p4, p5, p6, p7] _ S A R
end
end K01

set_option Elab.async false
set_option linter.all false
set_option maxRecDepth 100000
set_option maxHeartbeats 800000
/-! The law over errors: things that stay what they are, the law's own loops. -/
namespace K01
open PySem L2 Vx
theorem Same.tuple {K : PySem.W.Frag} {H H' : Hp} {a : Addr} {xs : List V} (e : Same H H') (h : SqT K H a xs) : SqT K H' a xs := by
  rcases h with (h | ⟨o, h⟩) | h
  · exact .inl (.inl (e _ _ h))
  · exact .inl (.inr ⟨o, e _ _ h⟩)
  · exact .inr h
mutual
theorem dp_same {K : PySem.W.Frag} {H H' : Hp} (s : Same H H') : ∀ {v : V} {d : PyData}, Dp K H v d → Dp K H' v d
  | _, _, .non => .non
  | _, _, .bl b => .bl b
  | _, _, .int i => .int i
  | _, _, .str x => .str x
  | _, _, .lst h a => .lst (s.seq h) (dpAll_same s a)
  | _, _, .tup h a => .tup (Same.tuple s h) (dpAll_same s a)
theorem dpAll_same {K : PySem.W.Frag} {H H' : Hp} (s : Same H H') : ∀ {vs : List V} {ds : List PyData}, DpAll K H vs ds → DpAll K H' vs ds
  | _, _, .nil => .nil
  | _, _, .cons h t => .cons (dp_same s h) (dpAll_same s t)
end
theorem dr_same {K : PySem.W.Frag} {H H' : Hp} (s : Same H H') {v : V} {d : PyData} (h : Dr K H v d) : Dr K H' v d := by
  cases h with
  | of h nd => exact .of (dp_same s h) nd
  | one h => exact .one (s _ _ h)
  | empty h => exact .empty (s _ _ h)
/-- a value that isinstance(v, bool) can be asked of -/
inductive Bq (K : PySem.W.Frag) (H : Hp) : V → Bool → Prop where
  | non : Bq K H .non false
  | bl (x : Bool) : Bq K H (.bl x) true
  | int (i : Int) : Bq K H (.int i) false
  | str (x : Str) : Bq K H (.str x) false
  | lst {a : Addr} {xs : List V} (e : H a = some (.lst xs)) : Bq K H (.ref a) false
  | tup {a : Addr} {xs : List V} (e : H a = some (.tup xs)) : Bq K H (.ref a) false
  | dct {a : Addr} {xs : List (Key × V)} (e : H a = some (.dK xs)) : Bq K H (.ref a) false
theorem Bq.ty {K : PySem.W.Frag} {H : Hp} {v : V} {b : Bool} (h : Bq K H v b) : ∃ t, TyX K H v t ∧ PySem.W.kitOne K t (.type "bool") = some b := by
  cases h with
  | non => exact ⟨_, .base .non, kit_ty (by decide +kernel)⟩
  | bl x => exact ⟨_, .base (.bl x), kit_ty (by decide +kernel)⟩
  | int i => exact ⟨_, .base (.int i), kit_ty (by decide +kernel)⟩
  | str x => exact ⟨_, .base (.str x), kit_ty (by decide +kernel)⟩
  | lst e => exact ⟨_, .base (.lst e), kit_ty (by decide +kernel)⟩
  | tup e => exact ⟨_, .base (.tup e), kit_ty (by decide +kernel)⟩
  | dct e => exact ⟨_, .base (.dK e), kit_ty (by decide +kernel)⟩
theorem Bq.same {K : PySem.W.Frag} {H H' : Hp} (s : Same H H') {v : V} {b : Bool} (h : Bq K H v b) : Bq K H' v b := by
  cases h with
  | non => exact .non
  | bl x => exact .bl x
  | int i => exact .int i
  | str x => exact .str x
  | lst e => exact .lst (s _ _ e)
  | tup e => exact .tup (s _ _ e)
  | dct e => exact .dct (s _ _ e)
/-- a thing that the law hands to errors -/
def Thing (K : PySem.W.Frag) (H : Hp) (v : V) : Prop := (∃ d, Dr K H v d ∧ d.showable = true ∧ d.depth < 60 ∧ d.shown.length ≤ sizeLine) ∧ ∃ b, Bq K H v b
theorem Thing.same {K : PySem.W.Frag} {H H' : Hp} {v : V} (s : Same H H') (h : Thing K H v) : Thing K H' v := by
  obtain ⟨⟨d, h1, h2⟩, b, h3⟩ := h
  exact ⟨⟨d, dr_same s h1, h2⟩, b, h3.same s⟩
section
variable {P : Program} {w : World} {K : PySem.W.Frag} {mg : Str → Option Value} {base : Heap} {c : Nat → Addr} {d : Addr}
def spSame (K : PySem.W.Frag) : Sp := fun vs H Q _ => ∃ v, vs = [v, v] ∧ Thing K H v ∧ Q (.bl true) H
theorem scSame : FnScope ["_law_found", "_law_thing"] ["_law_found", "_law_thing"] (defScope sSame) := ⟨rfl, rfl, rfl, by decide +kernel, rfl, by decide +kernel, by decide +kernel⟩
theorem kp_same {f : Addr} {fd : FuncData} (F : Fun K "_law_same" "_law_same" sSame f fd) (B : Bt mg) : Kp P w K mg base CX0 1 f fd ["_law_found", "_law_thing"] (spSame K) := by
  refine kp_fun0 F scSame (fun vs H Q E h => ?_) (fun cdv A outer s H vs Q E hr hg h => ?_)
  · obtain ⟨v, rfl, _⟩ := h
    rfl
  · obtain ⟨v, rfl, ⟨⟨d, h1, h2, h3, h4⟩, b, h5⟩, go⟩ := h
    obtain ⟨t, ty, kit⟩ := h5.ty
    have hu := hr.units
    refine ⟨_, pss_one (ps_ret (pe_and (pe_cmpR op_eq (pe_callB (call_reprD hg hu) (by rfl) B.repr (by decide +kernel) (pa_cons (pv 0) pa_nil)) (pe_callB (call_reprD hg hu) (by rfl) B.repr (by decide +kernel) (pa_cons (pv 1) pa_nil)) (nomark _))
      (pe_one (pe_cmpR op_eq (pe_callB call_isi (by rfl) B.isi (by decide +kernel) (pa_cons (pv 0) (pa_cons (pe_bltn (v := .ty "bool") (u := .type "bool") (by rfl) B.bool (by decide +kernel) rfl) pa_nil))) (pe_callB call_isi (by rfl) B.isi (by decide +kernel) (pa_cons (pv 1) (pa_cons (pe_bltn (v := .ty "bool") (u := .type "bool") (by rfl) B.bool (by decide +kernel) rfl) pa_nil))) (nomark _))))), ?_⟩
    refine ⟨_, rfl, v, d, rfl, h1, h2, h3, h4, _, rfl, v, d, rfl, h1, h2, h3, h4, rfl, _, rfl, ?_⟩
    rw [decide_eq_true (rfl : V.str d.shown = V.str d.shown)]
    refine iteT ?_
    refine ⟨_, rfl, v, _, t, _, b, rfl, .ty "bool", ty, kit, _, rfl, v, _, t, _, b, rfl, .ty "bool", ty, kit, by cases b <;> rfl, ?_⟩
    show Q (.bl (decide (V.bl b = V.bl b))) H
    rw [decide_eq_true (rfl : V.bl b = V.bl b)]
    exact go
end
/-! ### lists of truths -/
theorem canLay_bools : ∀ bs : List Bool, PyData.canLayAll0 (bs.map PyData.bool) = true
  | [] => by simp [PyData.canLayAll0]
  | b :: bs => by simp [PyData.canLayAll0, PyData.canLay0, canLay_bools bs]
theorem depth_bools : ∀ bs : List Bool, PyData.depthAll (bs.map PyData.bool) ≤ 1
  | [] => by simp [PyData.depthAll]
  | b :: bs => by
    have := depth_bools bs
    simp [PyData.depthAll, PyData.depth]
    omega
theorem shaped_bools (bs : List Bool) : SeqAt.shaped (.list (bs.map PyData.bool)) = true := by
  have := depth_bools bs
  unfold SeqAt.shaped
  simp [PyData.canLay0, canLay_bools bs, PyData.depth]
  omega
theorem eqv_bools : ∀ bs : List Bool, PyData.eqvAll (bs.map PyData.bool) (bs.map PyData.bool) = true
  | [] => by simp [PyData.eqvAll]
  | b :: bs => by simp [PyData.eqvAll, PyData.eqv, eqv_bools bs]
theorem eqv_boolsL (bs : List Bool) : PyData.eqv (.list (bs.map PyData.bool)) (.list (bs.map PyData.bool)) = true := by
  rw [PyData.eqv]
  exact eqv_bools bs
theorem dp_bools {K : PySem.W.Frag} {H : Hp} : ∀ bs : List Bool, DpAll K H (bs.map V.bl) (bs.map PyData.bool)
  | [] => .nil
  | b :: bs => .cons (.bl b) (dp_bools bs)
/-- errors of the classes is, whatever they keep -/
def Eos (c : Nat → Addr) (H : Hp) (ps : List Addr) (is : List Nat) : Prop := ∀ (k : Nat) (p : Addr), ps[k]? = some p → ∃ i : Nat, is[k]? = some i ∧ ErrOf H p (c i)
section
variable {c : Nat → Addr} {H H' : Hp}
theorem Eos.nil : Eos c H [] [] := fun k p e => by simp at e
theorem Eos.same {ps : List Addr} {is : List Nat} (s : Same H H') (h : Eos c H ps is) : Eos c H' ps is := fun k p e => by
  obtain ⟨i, e2, r⟩ := h k p e
  exact ⟨i, e2, r.same s⟩
theorem Eos.cons {p : Addr} {i : Nat} {ps : List Addr} {is : List Nat} (e : ErrOf H p (c i)) (h : Eos c H ps is) : Eos c H (p :: ps) (i :: is) := fun k q eq => by
  cases k with
  | zero =>
    simp at eq
    subst eq
    exact ⟨i, rfl, e⟩
  | succ k => exact h k q (by simpa using eq)
theorem Errs.eos {f : Str} {v : V} : ∀ {ps : List Addr} {is : List Nat}, Errs c f v H ps is → Eos c H ps is
  | [], [], _ => Eos.nil
  | p :: ps, i :: is, h => Eos.cons h.1.of (Errs.eos h.2)
  | [], _ :: _, h => h.elim
  | _ :: _, [], h => h.elim
theorem Errs.len {f : Str} {v : V} : ∀ {ps : List Addr} {is : List Nat}, Errs c f v H ps is → ps.length = is.length
  | [], [], _ => rfl
  | p :: ps, i :: is, h => congrArg Nat.succ (Errs.len h.2)
  | [], _ :: _, h => h.elim
  | _ :: _, [], h => h.elim
theorem Eos.append {qs : List Addr} {js : List Nat} (h2 : Eos c H qs js) : ∀ {ps : List Addr} {is : List Nat}, ps.length = is.length → Eos c H ps is → Eos c H (ps ++ qs) (is ++ js)
  | [], [], _, _ => h2
  | p :: ps, i :: is, e, h => by
    have t : Eos c H ps is := fun k q e => by
      have := h (k + 1) q (by simpa using e)
      simpa using this
    have h0 : ErrOf H p (c i) := by
      obtain ⟨i', e1, r⟩ := h 0 p rfl
      simp at e1
      subst e1
      exact r
    exact Eos.cons h0 (Eos.append h2 (Nat.succ.inj e) t)
  | [], _ :: _, e, _ => by simp at e
  | _ :: _, [], e, _ => by simp at e
end
section
variable {P : Program} {w : World} {K : PySem.W.Frag} {mg : Str → Option Value} {base : Heap} {c : Nat → Addr} {d : Addr}
def spBases : Sp := fun vs H Q _ => vs = [] ∧ ∀ H', Same H H' → Q (.bl true) H'
theorem scBases : FnScope ["_law_made_here", "_law_k", "_law_other"] [] (defScope sBases) := ⟨rfl, rfl, rfl, by decide +kernel, rfl, by decide +kernel, by decide +kernel⟩
theorem ok_bases {f fM fN fK : Addr} {fd fdM fdN fdK : FuncData} (F : Fun K "_law_bases_right" "_law_bases_right" sBases f fd) (B : Bt mg) (T : Al P w K mg base c d)
    (GM : FnOk P w K mg base CX0 3 fM fdM ["_law_thing"] (spMade c [0, 1, 2, 3, 4, 5, 6, 7, 8, 9, 10, 11, 12, 13, 14, 15, 16, 17, 18, 19, 20, 21])) (mM : mg "_law_made" = some (.ref fM)) (kM : PySem.W.keepIn K (.ref fM) = true) (bM : Binds K fdM ["_law_thing"] [])
    (GN : FnOk P w K mg base CX0 3 fN fdN ["_law_thing"] (spMade c [28, 29, 30, 31, 32, 33, 34])) (mN : mg "_law_new" = some (.ref fN)) (kN : PySem.W.keepIn K (.ref fN) = true) (bN : Binds K fdN ["_law_thing"] [])
    (GK : FnOk P w K mg base CX0 2 fK fdK ["_law_e"] (spBools c 35)) (mK : mg "_law_kinds" = some (.ref fK)) (kK : PySem.W.keepIn K (.ref fK) = true) (bK : Binds K fdK ["_law_e"] []) :
    FnOk P w K mg base CX0 4 f fd [] spBases := by
  refine F.ok scBases (fun vs H Q E h => ?_) (fun cdv A outer s H vs Q E hr h => ?_)
  · obtain ⟨rfl, _⟩ := h
    rfl
  · obtain ⟨rfl, go⟩ := h
    have hr2 : Room 2 _ := hr.mono (by decide)
    have hu := hr.units
    refine ⟨_, pss_cons (ps_set (i := 0) scBases.nd rfl (.inl rfl) (pe_op op_cat (pe_call GM hr (by rfl) mM kM bM .nil pass0 (pa_cons pe_str pa_nil))
        (pe_lst (pa_cons (pe_mkE (T.ecl 22 "Twice" "person" rfl) hr2 pe_str) (pa_cons (pe_mkE (T.ecl 23 "TooMany" "count" rfl) hr2 pe_int)
          (pa_cons (pe_mkE0 PySem.F.excBase_ValueError (T.bare 24 "ByZero" rfl).2.2.2 (T.bare 24 "ByZero" rfl).1 (T.bare 24 "ByZero" rfl).2.2.1)
          (pa_cons (pe_mkE0 PySem.F.excBase_ValueError (T.bare 25 "NothingToUndo" rfl).2.2.2 (T.bare 25 "NothingToUndo" rfl).1 (T.bare 25 "NothingToUndo" rfl).2.2.1)
          (pa_cons (pe_mkE0 PySem.F.excBase_ValueError (T.bare 26 "NotTurns" rfl).2.2.2 (T.bare 26 "NotTurns" rfl).1 (T.bare 26 "NotTurns" rfl).2.2.1)
          (pa_cons (pe_mkE0 PySem.F.excBase_ValueError (T.bare 27 "UnlikeEnds" rfl).2.2.2 (T.bare 27 "UnlikeEnds" rfl).1 (T.bare 27 "UnlikeEnds" rfl).2.2.1) pa_nil)))))))))
      (pss_cons (ps_set (i := 0) scBases.nd rfl (.inl rfl) (pe_op op_cat (pv 0) (pe_call GN hr (by rfl) mN kN bN .nil pass0 (pa_cons pe_str pa_nil))))
      (pss_cons (ps_for PassesOwn.never rfl (pi_range1 rfl B.range (pa_cons pe_int pa_nil)) (pg_name (i := 1) scBases.nd rfl (Or.inr rfl))
        (pss_cons (ps_if (PW.pt (pw_or (pt_not (pt_val (pe_callB call_isx (by rfl) B.isi (by decide +kernel) (pa_cons (pe_ix ix_list (pv 0) (pv 1) (fun _ _ => rfl)) (pa_cons (pe_glob (v := .ref d) (by rfl) T.de rfl) pa_nil)))))
            (pw_or1 (pt_not (pt_val (pe_callB call_isx (by rfl) B.isi (by decide +kernel) (pa_cons (pe_ix ix_list (pv 0) (pv 1) (fun _ _ => rfl)) (pa_cons (pe_bltn (v := .ty "ValueError") (u := .type "ValueError") (by rfl) B.ve (by decide +kernel) rfl) pa_nil))))))))
          (pss_one (ps_ret pe_bl)) pss_nil)
        (pss_one (ps_if (pt_cmpR (op_neD hu) (pe_call GK hr2 (by rfl) mK kK bK .nil pass0 (pa_cons (pe_ix ix_list (pv 0) (pv 1) (fun _ _ => rfl)) pa_nil))
            (pe_lc (own := [("_law_other", 2)]) (g := gName 2) (tt := tYes) rfl scBases.nd (pi_range1 rfl B.range (pa_cons pe_int pa_nil)) (blkOk_by (N := ["_law_made_here", "_law_k", "_law_other"]) (sc := defScope sBases) (by decide +kernel))
              (fun _ _ _ _ _ => pg_name (i := 2) scBases.nd rfl (Or.inl rfl)) (fun _ _ _ _ _ => pts_nil) (fun _ _ _ _ _ => pe_cmpR op_eq (pv 2) (pv 1) (nomark _))) (nomark _))
          (pss_one (ps_ret pe_bl)) pss_nil))))
      (pss_one (ps_ret pe_bl)))), ?_⟩
    refine ⟨_, rfl, fun l1 ps1 H1 s1 a1 r1 => ?_⟩
    refine fun p1 G1 t1 n1 e1 => ?_
    refine fun p2 G2 t2 n2 e2 => ?_
    refine fun p3 G3 t3 n3 e3 => ?_
    refine fun p4 G4 t4 n4 e4 => ?_
    refine fun p5 G5 t5 n5 e5 => ?_
    refine fun p6 G6 t6 n6 e6 => ?_
    refine ⟨by show 6 ≤ sizeLine; decide, fun l2 m2 => ?_⟩
    have T5 := t6; have T4 := t5.trans T5; have T3 := t4.trans T4; have T2 := t3.trans T3; have T1 := t2.trans T2; have T0 := t1.trans T1
    have u2 := same_new (o := .lst [.ref p1, .ref p2, .ref p3, .ref p4, .ref p5, .ref p6]) m2
    have at2 := upd_same (H := G6) (a := l2) (o := .lst [.ref p1, .ref p2, .ref p3, .ref p4, .ref p5, .ref p6])
    have r2 : Eos c (upd G6 l2 (.lst [.ref p1, .ref p2, .ref p3, .ref p4, .ref p5, .ref p6])) [p1, p2, p3, p4, p5, p6] [22, 23, 24, 25, 26, 27] := Eos.same u2
      (.cons (e1.of.same T1) (.cons (e2.of.same T2) (.cons (e3.same T3) (.cons (e4.same T4) (.cons (e5.same T5) (.cons e6 .nil))))))
    have a1' := (T0.trans u2) _ _ a1
    have S2 := s1.trans (T0.trans u2)
    have r12 := Eos.append r2 (Errs.len r1) (Eos.same (T0.trans u2) r1.eos)
    have len1 := Errs.len r1
    generalize upd G6 l2 (.lst [.ref p1, .ref p2, .ref p3, .ref p4, .ref p5, .ref p6]) = G at at2 a1' S2 r12 ⊢
    have z1 : (ps1.map V.ref).length = 22 := by
      rw [List.length_map, len1]
      rfl
    refine ⟨l1, l2, _, _, rfl, rfl, a1', at2, (by rw [z1]; show 22 + 6 ≤ sizeLine; decide), fun l3 m3 => ?_⟩
    have S3 := S2.trans (same_new (o := .lst (ps1.map V.ref ++ [.ref p1, .ref p2, .ref p3, .ref p4, .ref p5, .ref p6])) m3)
    have r3 := Eos.same (same_new (o := .lst (ps1.map V.ref ++ [.ref p1, .ref p2, .ref p3, .ref p4, .ref p5, .ref p6])) m3) r12
    have a3 := upd_same (H := G) (a := l3) (o := .lst (ps1.map V.ref ++ [.ref p1, .ref p2, .ref p3, .ref p4, .ref p5, .ref p6]))
    generalize upd G l3 (.lst (ps1.map V.ref ++ [.ref p1, .ref p2, .ref p3, .ref p4, .ref p5, .ref p6])) = G3' at S3 r3 a3 ⊢
    refine ⟨_, rfl, _, rfl, fun l4 ps4 H4 s4 a4 r4 => ?_⟩
    have len4 := Errs.len r4
    have z4 : (ps4.map V.ref).length = 7 := by
      rw [List.length_map, len4]
      rfl
    refine ⟨l3, l4, _, _, rfl, rfl, s4 _ _ a3, a4, (by rw [List.length_append, z1, z4]; show 22 + 6 + 7 ≤ sizeLine; decide), fun l5 m5 => ?_⟩
    have S5 := (S3.trans s4).trans (same_new (o := .lst ((ps1.map V.ref ++ [.ref p1, .ref p2, .ref p3, .ref p4, .ref p5, .ref p6]) ++ ps4.map V.ref)) m5)
    have a5 := upd_same (H := H4) (a := l5) (o := .lst ((ps1.map V.ref ++ [.ref p1, .ref p2, .ref p3, .ref p4, .ref p5, .ref p6]) ++ ps4.map V.ref))
    have e5' : (ps1.map V.ref ++ [.ref p1, .ref p2, .ref p3, .ref p4, .ref p5, .ref p6]) ++ ps4.map V.ref = ((ps1 ++ [p1, p2, p3, p4, p5, p6]) ++ ps4).map V.ref := by simp
    have r5 := Eos.same (same_new (o := .lst ((ps1.map V.ref ++ [.ref p1, .ref p2, .ref p3, .ref p4, .ref p5, .ref p6]) ++ ps4.map V.ref)) m5)
      (Eos.append r4.eos (by rw [List.length_append, len1]; rfl) (Eos.same s4 r3))
    generalize upd H4 l5 (.lst ((ps1.map V.ref ++ [.ref p1, .ref p2, .ref p3, .ref p4, .ref p5, .ref p6]) ++ ps4.map V.ref)) = H5 at S5 r5 a5 ⊢
    rw [e5'] at a5
    have r6 : Eos c H5 ((ps1 ++ [p1, p2, p3, p4, p5, p6]) ++ ps4) (List.range 35) := r5
    have zl : ((ps1 ++ [p1, p2, p3, p4, p5, p6]) ++ ps4).length = 35 := by
      rw [List.length_append, List.length_append, len1, len4]
      rfl
    generalize (ps1 ++ [p1, p2, p3, p4, p5, p6]) ++ ps4 = ps at a5 r6 zl
    clear r5
    refine ⟨35, rfl, by decide, by decide, for_range (n := 35) (fun i σ H2 => (∃ o1 o2, σ = [some (.ref l5), o1, o2]) ∧ Same H5 H2) ⟨⟨_, _, rfl⟩, Same.refl _⟩ ?_ ?_⟩
    · rintro i σ H2 hi ⟨⟨o1, o2, rfl⟩, s6⟩
      obtain ⟨p, hp⟩ : ∃ p, ps[i]? = some p := ⟨_, List.getElem?_eq_getElem (by omega)⟩
      obtain ⟨i', hi', er⟩ := r6 i p hp
      rw [List.getElem?_range hi] at hi'
      cases hi'
      have ez : (0 : Int) + (i : Int) = (i : Int) := by omega
      rw [ez]
      have er2 := er.same s6
      have at6 := s6 _ _ a5
      have item : (ps.map V.ref)[i]? = some (.ref p) := by rw [List.getElem?_map, hp]; rfl
      refine ⟨_, rfl, _, rfl, l5, _, _, .ref p, rfl, rfl, SqL.of at6, atI_nat item, p, c i, _, _, true, rfl, .own d, er2, T.is i hi, T.kitD i hi, true, rfl, ?_⟩
      refine iteF ?_
      refine ⟨_, rfl, _, rfl, l5, _, _, .ref p, rfl, rfl, SqL.of at6, atI_nat item, p, c i, _, _, true, rfl, .ty "ValueError", er2, T.is i hi, T.kitV i hi, true, rfl, ?_⟩
      refine iteF ?_
      refine ⟨_, rfl, _, rfl, l5, _, _, .ref p, rfl, rfl, SqL.of at6, atI_nat item, p, i, rfl, hi, er2, fun l7 H7 s7 a7 => ?_⟩
      refine ⟨35, rfl, by decide, by decide, fun D hD => lc_range (lo := 0) (n := 35) (fun m H8 => H8 D = some (.lst (((List.range m).map (· == i)).map V.bl)) ∧ Same H7 H8) ⟨upd_same, same_new hD⟩ ?_ ?_⟩
      · rintro m H8 hm ⟨hD8, s8⟩
        refine ⟨rfl, iteT (B := True) ?_⟩
        refine ⟨_, rfl, _, rfl, rfl, _, hD8, ?_, ?_, ?_⟩
        · rw [List.length_map, List.length_map, List.length_range]
          exact Nat.lt_trans hm (by show 35 < sizeLine; decide)
        · refine upd_same.trans ?_
          have eb : decide (V.int (0 + (m : Int)) = V.int (i : Int)) = (m == i) := by
            rw [dec_int]
            by_cases h : m = i
            · subst h
              simp
            · have h1 : (m == i) = false := by simpa using h
              have h2 : ((0 : Int) + (m : Int) == (i : Int)) = false := by
                simp
                omega
              rw [h1, h2]
          show some (HO.lst (_ ++ [V.bl (decide (V.int (0 + (m : Int)) = V.int (i : Int)))])) = _
          rw [eb, List.range_succ]
          simp
        · exact same_upd s8 hD
      · rintro H8 ⟨hD8, s8⟩
        have a8 := s8 _ _ a7
        have eb : bools 35 i = ((List.range 35).map (· == i)).map V.bl := by
          unfold bools
          rw [List.map_map]
          rfl
        rw [eb] at a8
        refine ⟨_, _, .lst (SqL.of a8) (dp_bools _), .lst (SqL.of hD8) (dp_bools _), shaped_bools _, shaped_bools _, _, rfl, ?_⟩
        show if (!PyData.eqv _ _) = true then _ else _
        rw [eqv_boolsL]
        exact iteF ⟨⟨_, _, rfl⟩, (s6.trans s7).trans s8⟩
    · rintro σ H2 ⟨_, s6⟩
      exact go _ (S5.trans s6)
end
end K01

set_option Elab.async false
set_option linter.all false
set_option maxRecDepth 100000
set_option maxHeartbeats 1600000
/-! The law over errors: the law itself. -/
namespace K01
open PySem L2 Vx
abbrev ids1 : List Nat := [0, 1, 2, 3, 4, 5, 6, 7, 8, 9, 10, 11, 12, 13, 14, 15, 16, 17, 18, 19, 20, 21]
abbrev ids2 : List Nat := [28, 29, 30, 31, 32, 33, 34]
/-- a def that the law calls -/
structure Cal (P : Program) (w : World) (K : PySem.W.Frag) (mg : Str → Option Value) (base : Heap) (x : Str) (k : Nat) (ps : List Str) (sp : Sp) : Prop where
  ex : ∃ f fd, FnOk P w K mg base CX0 k f fd ps sp ∧ mg x = some (.ref f) ∧ PySem.W.keepIn K (.ref f) = true ∧ Binds K fd ps []
structure CalK (P : Program) (w : World) (K : PySem.W.Frag) (mg : Str → Option Value) (base : Heap) (x : Str) (k : Nat) (ps : List Str) (sp : Sp) : Prop where
  ex : ∃ f fd, Kp P w K mg base CX0 k f fd ps sp ∧ mg x = some (.ref f) ∧ PySem.W.keepIn K (.ref f) = true ∧ Binds K fd ps []
section
variable {X : Cx} {k : Nat} {ps : List Str} {sp : Sp} {x : Str} {p pos : Pos} {e : Expr} {es : List Expr} {t : TA}
theorem pe_cal (C : Cal X.prog X.w X.K X.mg X.base x k ps sp) (hr : Room k X.A) (ha : PA X (e :: es) t) (hg : Gl X x := by rfl)
    (hdb : (x == ("__debug__" : Str)) = false := by decide) (he : starEach (e :: es) X.env = (false, eval e X.env) :: starEach es X.env := by rfl)
    (hpl : (backTo pos (starEach es X.env)).any (·.1) = false := by rfl) : PE X (.Call (.Name x p) (e :: es) [] pos) (tCall sp [] E0 t) := by
  obtain ⟨f, fd, F, m, kp, b⟩ := C.ex
  exact pe_call F hr hg m kp b .nil pass0 ha hdb he hpl
theorem pe_cal0 (C : Cal X.prog X.w X.K X.mg X.base x k ps sp) (hr : Room k X.A) (hg : Gl X x := by rfl)
    (hdb : (x == ("__debug__" : Str)) = false := by decide) : PE X (.Call (.Name x p) [] [] pos) (tCall sp [] E0 tNil) := by
  obtain ⟨f, fd, F, m, kp, b⟩ := C.ex
  exact pe_call0 F hr hg m kp b .nil pass0 hdb
theorem pe_calk (C : CalK X.prog X.w X.K X.mg X.base x k ps sp) (hr : Room k X.A) (hgd : X.A.guards = some []) (ha : PA X (e :: es) t) (hg : Gl X x := by rfl)
    (hdb : (x == ("__debug__" : Str)) = false := by decide) (he : starEach (e :: es) X.env = (false, eval e X.env) :: starEach es X.env := by rfl)
    (hpl : (backTo pos (starEach es X.env)).any (·.1) = false := by rfl) : PE X (.Call (.Name x p) (e :: es) [] pos) (tCall sp [] E0 t) := by
  obtain ⟨f, fd, F, m, kp, b⟩ := C.ex
  exact pe_kp F hr hgd hg m kp b .nil pass0 ha hdb he hpl
end
section
variable {P : Program} {w : World} {K : PySem.W.Frag} {mg : Str → Option Value} {base : Heap} {c : Nat → Addr} {d : Addr}
def spLaw (K : PySem.W.Frag) : Sp := fun vs H Q _ => ∃ (a : Addr) (ns : List Int), vs = [.ref a] ∧ SqL K H a (ns.map V.int) ∧ ns.length ≤ 63 ∧ ∀ H', Q (.bl true) H'
abbrev NL : List Str := ["_law_script", "_law_k", "_law_box_here", "_law_some", "_law_one", "_law_other", "_law_thing", "_law_e"]
theorem scLaw : FnScope NL ["_law_script"] (defScope sLaw) := ⟨rfl, rfl, rfl, by decide +kernel, rfl, by decide +kernel, by decide +kernel⟩
abbrev tSame (K : PySem.W.Frag) (a b : TE) : TE := tCall (spSame K) [] E0 (tCons a (tCons b tNil))
theorem rd_not {f : Str} {C : Addr} {i : Nat} {v : V} {σ : L2.St} {H : Hp} {Q : Bool → Hp → Prop} (h1 : σ[i]? = some (some v)) (th : Thing K H v) (xf : XfC K C) (no : PySem.W.findIn K (.ref C) f = some none)
    (go : ∀ H', Same H H' → Q false H') : tNot (tB (tSame K (tEfld K f (tErr C f (tVar i))) (tVar i))) σ H Q := by
  refine ⟨v, h1, fun p H2 s n e => ⟨p, C, v, rfl, xf, no, e, v, h1, v, rfl, th.same s, true, rfl, ?_⟩⟩
  exact go H2 s
theorem rd_or {f g : Str} {C D' : Addr} {i j : Nat} {u v : V} {σ : L2.St} {H : Hp} {D : Ends} {A : TS} (h1 : σ[i]? = some (some u)) (h2 : σ[j]? = some (some v)) (t1 : Thing K H u) (t2 : Thing K H v)
    (xf : XfC K C) (no : PySem.W.findIn K (.ref C) f = some none) (xf' : XfC K D') (no' : PySem.W.findIn K (.ref D') g = some none) (go : ∀ H', Same H H' → D.nx σ H') :
    tIfS (tOr (tNot (tB (tSame K (tEfld K f (tErr C f (tVar i))) (tVar i)))) (tNot (tB (tSame K (tEfld K g (tErr D' g (tVar j))) (tVar j))))) A tNext D σ H := by
  unfold tIfS tOr
  refine rd_not h1 t1 xf no fun H1 s1 => ?_
  refine iteF ?_
  refine rd_not h2 (t2.same s1) xf' no' fun H2 s2 => ?_
  exact iteF (go H2 (s1.trans s2))
theorem rd_comp {is : List Nat} {σ : L2.St} {H : Hp} {v : V} {D : Ends} {A : TS} (hl : 7 < σ.length) (h6 : σ[6]? = some (some v)) (th : Thing K H v)
    (xf : ∀ i ∈ is, XfC K (c i) ∧ PySem.W.findIn K (.ref (c i)) "given" = some none) (small : is.length ≤ 40) (go : ∀ H', Same H H' → D.nx σ H') :
    tIfS (tTest (tOp (rNeD K) (tLc (iList K (tOp rCat (tCall (spMade c is) [] E0 (tCons (tVar 6) tNil)) (tCall (spMade c is) [] E0 (tCons (tVar 6) tNil)))) (gName 7)
      (tNot (tB (tSame K (tEfld K "given" (tVar 7)) (tVar 6)))) (tVar 7) [7]) (tLst tNil))) A tNext D σ H := by
  refine ⟨v, h6, v, rfl, fun l1 ps1 H1 s1 a1 r1 => ⟨v, h6, v, rfl, fun l2 ps2 H2 s2 a2 r2 => ?_⟩⟩
  have len1 := Errs.len r1
  have len2 := Errs.len r2
  refine ⟨l1, l2, _, _, rfl, rfl, s2 _ _ a1, a2, ?_, fun l3 m3 => ?_⟩
  · rw [List.length_map, List.length_map, len1, len2]
    have : (80 : Nat) ≤ sizeLine := by decide
    omega
  have s3 := same_new (o := .lst (ps1.map V.ref ++ ps2.map V.ref)) m3
  have a3 := upd_same (H := H2) (a := l3) (o := .lst (ps1.map V.ref ++ ps2.map V.ref))
  have S3 := (s1.trans s2).trans s3
  have all : ∀ (k : Nat) (x : V), (ps1.map V.ref ++ ps2.map V.ref)[k]? = some x → ∃ p i, x = .ref p ∧ i ∈ is ∧ ErrAt (upd H2 l3 (.lst (ps1.map V.ref ++ ps2.map V.ref))) p (c i) "given" v := by
    intro k x e
    have one : ∀ {ps : List Addr} {is' : List Nat} {H' : Hp}, Errs c "given" v H' ps is' → ∀ p ∈ ps, ∃ i ∈ is', ErrAt H' p (c i) "given" v := by
      intro ps
      induction ps with
      | nil => intro is' H' _ p hp; cases hp
      | cons q ps ih =>
        intro is' H' h p hp
        cases is' with
        | nil => exact h.elim
        | cons i is' =>
          rcases List.mem_cons.mp hp with e | hp
          · subst e
            exact ⟨i, List.mem_cons_self, h.1⟩
          · obtain ⟨i', hi', r⟩ := ih h.2 p hp
            exact ⟨i', List.mem_cons_of_mem _ hi', r⟩
    rcases List.mem_append.mp (List.mem_of_getElem? e) with hm | hm
    · obtain ⟨p, hp, rfl⟩ := List.mem_map.mp hm
      obtain ⟨i, hi, r⟩ := one r1 p hp
      exact ⟨p, i, rfl, hi, r.same (s2.trans s3)⟩
    · obtain ⟨p, hp, rfl⟩ := List.mem_map.mp hm
      obtain ⟨i, hi, r⟩ := one r2 p hp
      exact ⟨p, i, rfl, hi, r.same s3⟩
  generalize upd H2 l3 (.lst (ps1.map V.ref ++ ps2.map V.ref)) = H3 at s3 a3 S3 all ⊢
  refine ⟨l3, rfl, ⟨_, SqL.of a3⟩, fun D hD => lc_list (K := K) (a := l3) (xs := ps1.map V.ref ++ ps2.map V.ref) (fun _ H8 => H8 D = some (.lst []) ∧ Same H3 H8) ⟨upd_same, same_new hD⟩ (fun i H8 _ h => SqL.of (h.2 _ _ a3)) ?_ ?_⟩
  · rintro i x H8 hx ⟨hD8, s8⟩
    obtain ⟨p, i', rfl, hi', er⟩ := all i x hx
    obtain ⟨x1, x2⟩ := xf i' hi'
    have w7 : ((wipe σ [7]).set 7 (some (V.ref p)))[7]? = some (some (.ref p)) := by
      show ((σ.set 7 none).set 7 (some (V.ref p)))[7]? = _
      rw [List.getElem?_set_self (by rw [List.length_set]; exact hl)]
    have w6 : ((wipe σ [7]).set 7 (some (V.ref p)))[6]? = some (some v) := by
      show ((σ.set 7 none).set 7 (some (V.ref p)))[6]? = _
      rw [List.getElem?_set_ne (by decide), List.getElem?_set_ne (by decide)]
      exact h6
    refine ⟨?_, ?_⟩
    · show (((σ.set 7 none).set 7 (some (V.ref p))).set 7 none) = σ.set 7 none
      rw [List.set_set, List.set_set]
    · refine ⟨_, w7, p, c i', v, rfl, x1, x2, er.same s8, v, w6, v, rfl, th.same (S3.trans s8), true, rfl, ?_⟩
      exact iteF ⟨hD8, s8⟩
  · rintro H8 ⟨hD8, s8⟩
    refine ⟨Nat.zero_le _, fun q hq => ?_⟩
    have sq := same_new (o := .lst []) hq
    refine ⟨_, _, .lst (SqL.of (sq _ _ hD8)) .nil, .lst (SqL.of upd_same) .nil, shaped_bools [], shaped_bools [], _, rfl, ?_⟩
    show if (!PyData.eqv (.list []) (.list [])) = true then _ else _
    rw [show PyData.eqv (.list []) (.list []) = true from eqv_boolsL []]
    exact iteF (go _ ((S3.trans s8).trans sq))
theorem given1 (T : Al P w K mg base c d) : ∀ i ∈ ids1, XfC K (c i) ∧ PySem.W.findIn K (.ref (c i)) "given" = some none := by
  intro i hi
  simp only [ids1, List.mem_cons, List.not_mem_nil, or_false] at hi
  rcases hi with h | h | h | h | h | h | h | h | h | h | h | h | h | h | h | h | h | h | h | h | h | h <;> subst h <;> exact ⟨(T.is _ (by decide)).xf, (T.ecl _ _ _ rfl).no⟩
theorem given2 (T : Al P w K mg base c d) : ∀ i ∈ ids2, XfC K (c i) ∧ PySem.W.findIn K (.ref (c i)) "given" = some none := by
  intro i hi
  simp only [ids2, List.mem_cons, List.not_mem_nil, or_false] at hi
  rcases hi with h | h | h | h | h | h | h <;> subst h <;> exact ⟨(T.is _ (by decide)).xf, (T.ecl _ _ _ rfl).no⟩
theorem things_of {G : Hp} {t1 l1 d1 t2 t3 : Addr} (D1 : G t1 = some (.tup [.int 1, .int 2])) (D2 : G l1 = some (.lst [.str "x"])) (D3 : G d1 = some (.dK (mergeK [] [(Sum.inr "k", .int 1)]))) (D4 : G t2 = some (.tup [.int 0])) (D5 : G t3 = some (.tup [.ref t2]))
    (k : Nat) (v : V) (hk : ([.str "p", .int 0, .non, .int (-3), .ref t1, .ref l1, .bl true, .ref d1, .int (10 ^ (29 : Int).toNat), .str "", .bl false, .ref t3] : List V)[k]? = some v) : Thing K G v := by
  have hk12 : k < 12 := (List.getElem?_eq_some_iff.mp hk).1
  have D3' : G d1 = some (.dK [(Sum.inr "k", .int 1)]) := D3
  have tt1 : Dp K G (.ref t1) (.tuple [.int 1, .int 2]) := .tup (.inl (.inl D1)) (.cons (.int 1) (.cons (.int 2) .nil))
  have tl1 : Dp K G (.ref l1) (.list [.str "x"]) := .lst (SqL.of D2) (.cons (.str _) .nil)
  have tt2 : Dp K G (.ref t2) (.tuple [.int 0]) := .tup (.inl (.inl D4)) (.cons (.int 0) .nil)
  have tt3 : Dp K G (.ref t3) (.tuple [.tuple [.int 0]]) := .tup (.inl (.inl D5)) (.cons tt2 .nil)
  have hs : k = 0 ∨ k = 1 ∨ k = 2 ∨ k = 3 ∨ k = 4 ∨ k = 5 ∨ k = 6 ∨ k = 7 ∨ k = 8 ∨ k = 9 ∨ k = 10 ∨ k = 11 := by omega
  rcases hs with h | h | h | h | h | h | h | h | h | h | h | h <;> subst h <;> cases hk
  · exact ⟨⟨_, .of (.str _) (by decide +kernel), by decide +kernel, by decide +kernel, by decide +kernel⟩, _, .str _⟩
  · exact ⟨⟨_, .of (.int _) (by decide +kernel), by decide +kernel, by decide +kernel, by decide +kernel⟩, _, .int _⟩
  · exact ⟨⟨_, .of .non (by decide +kernel), by decide +kernel, by decide +kernel, by decide +kernel⟩, _, .non⟩
  · exact ⟨⟨_, .of (.int _) (by decide +kernel), by decide +kernel, by decide +kernel, by decide +kernel⟩, _, .int _⟩
  · exact ⟨⟨_, .of tt1 (by decide +kernel), by decide +kernel, by decide +kernel, by decide +kernel⟩, _, .tup D1⟩
  · exact ⟨⟨_, .of tl1 (by decide +kernel), by decide +kernel, by decide +kernel, by decide +kernel⟩, _, .lst D2⟩
  · exact ⟨⟨_, .of (.bl _) (by decide +kernel), by decide +kernel, by decide +kernel, by decide +kernel⟩, _, .bl _⟩
  · exact ⟨⟨_, .one D3', by decide +kernel, by decide +kernel, by decide +kernel⟩, _, .dct D3'⟩
  · exact ⟨⟨_, .of (.int _) (by decide +kernel), by decide +kernel, by decide +kernel, by decide +kernel⟩, _, .int _⟩
  · exact ⟨⟨_, .of (.str _) (by decide +kernel), by decide +kernel, by decide +kernel, by decide +kernel⟩, _, .str _⟩
  · exact ⟨⟨_, .of (.bl _) (by decide +kernel), by decide +kernel, by decide +kernel, by decide +kernel⟩, _, .bl _⟩
  · exact ⟨⟨_, .of tt3 (by decide +kernel), by decide +kernel, by decide +kernel, by decide +kernel⟩, _, .tup D5⟩
theorem kp_law {f : Addr} {fd : FuncData} (F : Fun K "law" "law" sLaw f fd) (B : Bt mg) (T : Al P w K mg base c d)
    (CC : Cal P w K mg base "_law_cell" 1 ["_law_script", "_law_k"] (spCell K)) (CB : Cal P w K mg base "_law_box" 1 ["_law_cell_here"] spBox) (CT : Cal P w K mg base "_law_take" 1 ["_law_box_here", "_law_many"] spTake)
    (CM : Cal P w K mg base "_law_made" 3 ["_law_thing"] (spMade c ids1)) (CN : Cal P w K mg base "_law_named" 3 ["_law_thing"] (spMade c ids1)) (CO : Cal P w K mg base "_law_new" 3 ["_law_thing"] (spMade c ids2)) (CP : Cal P w K mg base "_law_new_named" 3 ["_law_thing"] (spMade c ids2))
    (CS : CalK P w K mg base "_law_same" 1 ["_law_found", "_law_thing"] (spSame K)) (CR : Cal P w K mg base "_law_bases_right" 4 [] spBases) : Kp P w K mg base CX0 5 f fd ["_law_script"] (spLaw K) := by
  refine kp_fun0 F scLaw (fun vs H Q E h => ?_) (fun cdv A outer s H vs Q E hr hg h => ?_)
  · obtain ⟨a, ns, rfl, _⟩ := h
    rfl
  · obtain ⟨a, ns, rfl, hS, hlen, go⟩ := h
    have hr1 : Room 1 _ := hr.mono (by decide)
    have hr2 : Room 2 _ := hr.mono (by decide)
    have hr3 : Room 3 _ := hr.mono (by decide)
    have hu := hr.units
    refine ⟨_, pss_cons (ps_for PassesOwn.never rfl (pi_range1 rfl B.range (pa_cons pe_int pa_nil)) (pg_name (i := 1) scLaw.nd rfl (Or.inl rfl))
        (pss_cons (ps_set (i := 2) scLaw.nd rfl (.inl rfl) (pe_cal CB hr1 (pa_cons (pe_cal CC hr1 (pa_cons (pv 0) (pa_cons (pv 1) pa_nil))) pa_nil)))
        (pss_cons (ps_set (i := 3) scLaw.nd rfl (.inl rfl) (pe_lst (pa_cons pe_str (pa_cons pe_int (pa_cons pe_non (pa_cons (pe_un un_neg pe_int) (pa_cons (pe_tup (pa_cons pe_int (pa_cons pe_int pa_nil)))
          (pa_cons (pe_lst (pa_cons pe_str pa_nil)) (pa_cons pe_bl (pa_cons (pe_disp (pps_cons pe_str pe_int pps_nil) (by rfl) (by rfl) (fun z => by cases z) (by decide)) (pa_cons (pe_op op_pow pe_int pe_int)
          (pa_cons pe_str (pa_cons pe_bl (pa_cons (pe_tup (pa_cons (pe_tup (pa_cons pe_int pa_nil)) pa_nil)) pa_nil))))))))))))))
        (pss_cons (ps_par (i := 4) (j := 5) (by rfl) scLaw.nd rfl rfl (by decide) rfl rfl (pa_cons (pe_ix ix_list (pv 3) (pe_cal CT hr1 (pa_cons (pv 2) (pa_cons pe_int pa_nil))) (fun _ _ => rfl))
          (pa_cons (pe_ix ix_list (pv 3) (pe_cal CT hr1 (pa_cons (pv 2) (pa_cons pe_int pa_nil))) (fun _ _ => rfl)) pa_nil)) (by rfl))
        (pss_cons (ps_for PassesOwn.never rfl (pi_list (pe_lst (pa_cons (pv 4) (pa_cons (pv 5) pa_nil)))) (pg_name (i := 6) scLaw.nd rfl (Or.inr rfl))
          (pss_cons (ps_if (pt_cmpR (op_neD hu) (pe_lc (own := [("_law_e", 7)]) (g := gName 7) (tt := tNot (tB (tSame K (tEfld K "given" (tVar 7)) (tVar 6)))) rfl scLaw.nd
              (pi_list (pe_op op_cat (pe_cal CM hr3 (pa_cons (pv 6) pa_nil)) (pe_cal CN hr3 (pa_cons (pv 6) pa_nil)))) (blkOk_by (N := NL) (sc := defScope sLaw) (by decide +kernel))
              (fun _ _ _ _ _ => pg_name (i := 7) scLaw.nd rfl (Or.inl rfl)) (fun _ _ _ _ _ => pts_one (pt_not (pt_val (pe_calk CS hr1 hg (pa_cons (pe_efld (pv 7)) (pa_cons (pv 6) pa_nil)))))) (fun _ _ _ _ _ => pv 7)) (pe_lst pa_nil) (nomark _))
            (pss_one (ps_ret pe_bl)) pss_nil)
          (pss_cons (ps_if (pt_cmpR (op_neD hu) (pe_lc (own := [("_law_e", 7)]) (g := gName 7) (tt := tNot (tB (tSame K (tEfld K "given" (tVar 7)) (tVar 6)))) rfl scLaw.nd
              (pi_list (pe_op op_cat (pe_cal CO hr3 (pa_cons (pv 6) pa_nil)) (pe_cal CP hr3 (pa_cons (pv 6) pa_nil)))) (blkOk_by (N := NL) (sc := defScope sLaw) (by decide +kernel))
              (fun _ _ _ _ _ => pg_name (i := 7) scLaw.nd rfl (Or.inl rfl)) (fun _ _ _ _ _ => pts_one (pt_not (pt_val (pe_calk CS hr1 hg (pa_cons (pe_efld (pv 7)) (pa_cons (pv 6) pa_nil)))))) (fun _ _ _ _ _ => pv 7)) (pe_lst pa_nil) (nomark _))
            (pss_one (ps_ret pe_bl)) pss_nil)
          (pss_one (ps_if (PW.pt (pw_or (pt_not (pt_val (pe_calk CS hr1 hg (pa_cons (pe_efld (pe_mkEk (T.ecl 22 "Twice" "person" rfl) hr2 (pv 6))) (pa_cons (pv 6) pa_nil)))))
              (pw_or1 (pt_not (pt_val (pe_calk CS hr1 hg (pa_cons (pe_efld (pe_mkEk (T.ecl 23 "TooMany" "count" rfl) hr2 (pv 6))) (pa_cons (pv 6) pa_nil))))))))
            (pss_one (ps_ret pe_bl)) pss_nil)))))
        (pss_one (ps_if (PW.pt (pw_or (pt_not (pt_val (pe_calk CS hr1 hg (pa_cons (pe_efld (pe_mkE (T.ecl 22 "Twice" "person" rfl) hr2 (pv 4))) (pa_cons (pv 4) pa_nil)))))
              (pw_or1 (pt_not (pt_val (pe_calk CS hr1 hg (pa_cons (pe_efld (pe_mkE (T.ecl 23 "TooMany" "count" rfl) hr2 (pv 5))) (pa_cons (pv 5) pa_nil))))))))
            (pss_one (ps_ret pe_bl)) pss_nil)))))))
      (pss_one (ps_ret (pe_cal0 CR hr))), ?_⟩
    refine ⟨2, rfl, by decide, by decide, for_range (n := 2) (fun i σ H1 => (∃ v1 v2 v3 v4 v5 v6 v7, σ = [some (.ref a), v1, v2, v3, v4, v5, v6, v7]) ∧ Same H H1) ⟨⟨_, _, _, _, _, _, _, rfl⟩, Same.refl _⟩ ?_ ?_⟩
    · rintro i σ H1 hi ⟨⟨v1, v2, v3, v4, v5, v6, v7, rfl⟩, s1⟩
      have ez : (0 : Int) + (i : Int) = (i : Int) := by omega
      rw [ez]
      -- the box
      refine ⟨_, rfl, _, rfl, a, ns, i, rfl, s1.seq hS, hlen, by omega, fun z H2 s2 => ⟨z, rfl, fun b x y hb x0 y0 y1 => ?_⟩⟩
      have b0 : H b = none := (s1.trans s2).free hb
      have at0 := upd_same (H := H2) (a := b) (o := .lst [.int x, .int y, .int 0])
      have S0 := same_upd (o := .lst [.int x, .int y, .int 0]) (s1.trans s2) b0
      generalize upd H2 b (.lst [.int x, .int y, .int 0]) = G0 at at0 S0 ⊢
      clear s1 s2 hb
      -- the things
      refine ⟨_, rfl, by show 2 ≤ sizeLine; decide, fun t1 n1 => ?_⟩
      have w1 := same_new (o := .tup [.int 1, .int 2]) n1
      have c1 := upd_same (H := G0) (a := t1) (o := .tup [.int 1, .int 2])
      have m1 : t1 ≠ b := fun e => by rw [e, at0] at n1; cases n1
      generalize upd G0 t1 (.tup [.int 1, .int 2]) = G1 at w1 c1 ⊢
      refine ⟨by show 1 ≤ sizeLine; decide, fun l1 n2 => ?_⟩
      have w2 := same_new (o := .lst [.str "x"]) n2
      have c2 := upd_same (H := G1) (a := l1) (o := .lst [.str "x"])
      have m2 : l1 ≠ b := fun e => by rw [e, w1 _ _ at0] at n2; cases n2
      generalize upd G1 l1 (.lst [.str "x"]) = G2 at w2 c2 ⊢
      refine fun d1 n3 => ⟨upd_same, [(Sum.inr "k", .int 1)], rfl, by decide, ?_⟩
      have w3 : Same G2 (upd (upd G2 d1 (.dK [])) d1 (.dK (mergeK [] [(Sum.inr "k", .int 1)]))) := same_upd (same_new n3) n3
      have c3 := upd_same (H := upd G2 d1 (.dK [])) (a := d1) (o := .dK (mergeK [] [(Sum.inr "k", .int 1)]))
      have m3 : d1 ≠ b := fun e => by rw [e, w2 _ _ (w1 _ _ at0)] at n3; cases n3
      generalize upd (upd G2 d1 (.dK [])) d1 (.dK (mergeK [] [(Sum.inr "k", .int 1)])) = G3 at w3 c3 ⊢
      refine ⟨_, _, rfl, rfl, ⟨by decide, by decide, by decide⟩, ?_⟩
      refine ⟨by show 1 ≤ sizeLine; decide, fun t2 n4 => ?_⟩
      have w4 := same_new (o := .tup [.int 0]) n4
      have c4 := upd_same (H := G3) (a := t2) (o := .tup [.int 0])
      have m4 : t2 ≠ b := fun e => by rw [e, w3 _ _ (w2 _ _ (w1 _ _ at0))] at n4; cases n4
      generalize upd G3 t2 (.tup [.int 0]) = G4 at w4 c4 ⊢
      refine ⟨by show 1 ≤ sizeLine; decide, fun t3 n5 => ?_⟩
      have w5 := same_new (o := .tup [.ref t2]) n5
      have c5 := upd_same (H := G4) (a := t3) (o := .tup [.ref t2])
      have m5 : t3 ≠ b := fun e => by rw [e, w4 _ _ (w3 _ _ (w2 _ _ (w1 _ _ at0)))] at n5; cases n5
      generalize upd G4 t3 (.tup [.ref t2]) = G5 at w5 c5 ⊢
      refine ⟨by show 12 ≤ sizeLine; decide, fun l6 n6 => ?_⟩
      have w6 := same_new (o := .lst [.str "p", .int 0, .non, .int (-3), .ref t1, .ref l1, .bl true, .ref d1, .int (10 ^ (29 : Int).toNat), .str "", .bl false, .ref t3]) n6
      have c6 := upd_same (H := G5) (a := l6) (o := .lst [.str "p", .int 0, .non, .int (-3), .ref t1, .ref l1, .bl true, .ref d1, .int (10 ^ (29 : Int).toNat), .str "", .bl false, .ref t3])
      have m6 : l6 ≠ b := fun e => by rw [e, w5 _ _ (w4 _ _ (w3 _ _ (w2 _ _ (w1 _ _ at0))))] at n6; cases n6
      have at6 := w6 _ _ (w5 _ _ (w4 _ _ (w3 _ _ (w2 _ _ (w1 _ _ at0)))))
      have S6 := S0.trans (w1.trans (w2.trans (w3.trans (w4.trans (w5.trans w6)))))
      have C1 := w6 _ _ (w5 _ _ (w4 _ _ (w3 _ _ (w2 _ _ c1))))
      have C2 := w6 _ _ (w5 _ _ (w4 _ _ (w3 _ _ c2)))
      have C3 := w6 _ _ (w5 _ _ (w4 _ _ c3))
      have C4 := w6 _ _ (w5 _ _ c4)
      have C5 := w6 _ _ c5
      generalize eit : ([.str "p", .int 0, .non, .int (-3), .ref t1, .ref l1, .bl true, .ref d1, .int (10 ^ (29 : Int).toNat), .str "", .bl false, .ref t3] : List V) = items at c6 w6 at6 S6 C1 C2 C3 C4 C5 ⊢
      generalize upd G5 l6 (.lst items) = G6 at w6 c6 at6 S6 C1 C2 C3 C4 C5 ⊢
      clear w1 w2 w3 w4 w5 w6 c1 c2 c3 c4 c5 n1 n2 n3 n4 n5 n6
      have zi : items.length = 12 := by rw [← eit]; rfl
      have pick : ∀ r : Int, 0 ≤ r → r < 12 → ∃ v, items[r.toNat]? = some v ∧ atI items r = some v := fun r r0 r1 => by
        have hl : r.toNat < items.length := by omega
        refine ⟨_, List.getElem?_eq_getElem hl, ?_⟩
        have e := atI_nat (List.getElem?_eq_getElem hl)
        rwa [Int.toNat_of_nonneg r0] at e
      refine ⟨_, rfl, _, rfl, b, 12, x, y, 0, rfl, at6, by decide, by decide, y0, y1, by decide, by decide, fun r1 x1 z1 ra rb za zb => ?_⟩
      obtain ⟨u1, g1, p1⟩ := pick r1 ra rb
      have at7 := upd_same (H := G6) (a := b) (o := .lst [.int x1, .int y, .int z1])
      refine ⟨l6, _, r1, u1, rfl, rfl, SqL.of ((upd_ne m6).trans c6), p1, ?_⟩
      refine ⟨_, rfl, _, rfl, b, 12, x1, y, z1, rfl, at7, by decide, by decide, y0, y1, by omega, by omega, fun r2 x2 z2 rc rd zc zd => ?_⟩
      obtain ⟨u2, g2, p2⟩ := pick r2 rc rd
      refine ⟨l6, _, r2, u2, rfl, rfl, SqL.of ((upd_ne m6).trans ((upd_ne m6).trans c6)), p2, u1, u2, rfl, ?_⟩
      have up : ∀ {q : Addr} {o : HO}, q ≠ b → G6 q = some o → upd (upd G6 b (.lst [.int x1, .int y, .int z1])) b (.lst [.int x2, .int y, .int z2]) q = some o := fun h e => (upd_ne h).trans ((upd_ne h).trans e)
      have D1 := up m1 C1
      have D2 := up m2 C2
      have D3 := up m3 C3
      have D4 := up m4 C4
      have D5 := up m5 C5
      have S7 := same_upd (o := .lst [.int x2, .int y, .int z2]) (same_upd (o := .lst [.int x1, .int y, .int z1]) S6 b0) b0
      generalize upd (upd G6 b (.lst [.int x1, .int y, .int z1])) b (.lst [.int x2, .int y, .int z2]) = G7 at D1 D2 D3 D4 D5 S7 ⊢
      clear up
      have things : ∀ (k : Nat) (v : V), items[k]? = some v → Thing K G7 v := by
        intro k v hk
        rw [← eit] at hk
        exact things_of D1 D2 D3 D4 D5 k v hk
      have th1 := things _ _ g1
      have th2 := things _ _ g2
      clear things pick
      -- for thing in [one, other]
      refine ⟨_, rfl, _, rfl, by show 2 ≤ sizeLine; decide, fun l7 n7 => ⟨l7, rfl, ⟨_, SqL.of upd_same⟩, ?_⟩⟩
      have w7 := same_new (o := .lst [u1, u2]) n7
      have c7 := upd_same (H := G7) (a := l7) (o := .lst [u1, u2])
      generalize upd G7 l7 (.lst [u1, u2]) = G8 at w7 c7 ⊢
      refine for_list (K := K) (a := l7) (xs := [u1, u2]) (fun _ σ H9 => (∃ v6 v7, σ = [some (.ref a), some (.int i), some (.ref b), some (.ref l6), some u1, some u2, v6, v7]) ∧ Same G8 H9) ⟨⟨_, _, rfl⟩, Same.refl _⟩ (fun _ _ H9 _ h => SqL.of (h.2 _ _ c7)) ?_ ?_
      · rintro k t σ H9 hk ⟨⟨v6, v7, rfl⟩, s9⟩
        have th : Thing K H9 t := by
          have := List.mem_of_getElem? hk
          simp at this
          rcases this with rfl | rfl
          · exact th1.same (w7.trans s9)
          · exact th2.same (w7.trans s9)
        have xf : ∀ i < 35, XfC K (c i) := fun i hi => (T.is i hi).xf
        refine rd_comp (c := c) (is := ids1) (by show 7 < 8; decide) rfl th (given1 T) (by decide) fun H10 s10 => ?_
        refine rd_comp (c := c) (is := ids2) (by show 7 < 8; decide) rfl (th.same s10) (given2 T) (by decide) fun H11 s11 => ?_
        refine rd_or (i := 6) (j := 6) rfl rfl (th.same (s10.trans s11)) (th.same (s10.trans s11)) (xf 22 (by decide)) (T.ecl 22 "Twice" "person" rfl).no (xf 23 (by decide)) (T.ecl 23 "TooMany" "count" rfl).no fun H12 s12 => ?_
        exact ⟨⟨_, _, rfl⟩, s9.trans (s10.trans (s11.trans s12))⟩
      · rintro σ H9 ⟨⟨v6, v7, rfl⟩, s9⟩
        have xf : ∀ i < 35, XfC K (c i) := fun i hi => (T.is i hi).xf
        refine rd_or (i := 4) (j := 5) rfl rfl (th1.same (w7.trans s9)) (th2.same (w7.trans s9)) (xf 22 (by decide)) (T.ecl 22 "Twice" "person" rfl).no (xf 23 (by decide)) (T.ecl 23 "TooMany" "count" rfl).no fun H12 s12 => ?_
        exact ⟨⟨_, _, _, _, _, _, _, rfl⟩, S7.trans (w7.trans (s9.trans s12))⟩
    · rintro σ H1 ⟨⟨v1, v2, v3, v4, v5, v6, v7, rfl⟩, s1⟩
      exact ⟨rfl, fun H' s2 => go H'⟩
end
theorem walk01 {l : PySem.W.OpenLaw} {q : Program} {loose : List Str} {XP : (Str → Option Value) → Heap → Prop} {YP : World → Heap → Prop} {d : DefRec} {K : Params → PySem.W.Frag}
    (hn : l.most = some 63) (hdf : d.params.defaults = []) (hY : ∀ (w : World) (h : Heap), YP w h → (K w.params).In h)
    (law : ∀ (w : World) (mg : Str → Option Value) (fa : Addr) (h : Heap), (K w.params).In h → h.Ns mainGlobals mg → mg d.name = some (.ref fa) →
      ∃ fd : FuncData, (∀ (s : Shared) (u : Value), BindsTo s fd ⟨[u], []⟩ [("_law_script", u)]) ∧
        ∀ base : Heap, (K w.params).In base → base.Ns mainGlobals mg → Kp l.prog w (K w.params) mg base CX0 5 fa fd ["_law_script"] (spLaw (K w.params))) :
    PySem.W.WalkO q loose XP YP l.row.toRowW d [] (fun f vs => PySem.call f vs) :=
  walk_kp (k := 5) (CX := fun _ => CX0) (sp := fun w => spLaw (K w.params)) hn (by decide) hdf ⟨rfl, by decide, by decide⟩ hY law
    (fun _ _ a ns h1 _ h2 => ⟨a, ns, rfl, h2, h1, fun _ => rfl⟩) fun _ _ _ _ _ z => z
end K01

set_option Elab.async false
set_option linter.all false
set_option maxRecDepth 100000
set_option maxHeartbeats 1600000
/-! ### what the top has written -/
namespace K01
open PySem L2 Vx
def adrs : List Nat := [436, 398, 379, 208, 417, 132, 113, 341, 94, 474, 56, 246, 360, 455, 170, 284, 189, 75, 265, 303, 322, 517, 151, 227, 37, 529, 486, 498, 548, 624, 662, 567, 605, 586, 643]
def cA (i : Nat) : Addr := adrs.getD i 0
def AllOf (R : Nat → Str × Option Str → Prop) : Nat → List (Str × Option Str) → Prop
  | _, [] => True
  | n, t :: r => R n t ∧ AllOf R (n + 1) r
theorem AllOf.at {R : Nat → Str × Option Str → Prop} : ∀ {l : List (Str × Option Str)} {n k : Nat} {t : Str × Option Str}, AllOf R n l → l[k]? = some t → R (n + k) t
  | [], n, k, t, _, e => by simp at e
  | x :: r, n, 0, t, h, e => by
    simp at e
    subst e
    exact h.1
  | x :: r, n, k + 1, t, h, e => by
    have := AllOf.at (k := k) h.2 (by simpa using e)
    rwa [show n + 1 + k = n + (k + 1) by omega] at this
def Row (P : Program) (w : World) (K : PySem.W.Frag) (mg : Str → Option Value) (base : Heap) (i : Nat) (t : Str × Option Str) : Prop :=
  match t.2 with
  | some f => Ecl P w K mg base t.1 (cA i) f
  | none => mg t.1 = some (.ref (cA i)) ∧ IsC K (cA i) ∧ PySem.W.keepIn K (.ref (cA i)) = true ∧ PySem.W.excIn K (cA i) [.type "ValueError", .type "Exception", .type "BaseException", .type "object"] "ValueError.__new__" = true
/-- isinstance among the classes, by one look -/
def kitB35 (K : PySem.W.Frag) (d : Addr) : Bool := (List.range 35).all fun j => (decide (PySem.W.kitOne K (.ref (cA j)) (.ref d) = some true) && (decide (PySem.W.kitOne K (.ref (cA j)) (.type "ValueError") = some true) &&
  (List.range 35).all fun i => decide (PySem.W.kitOne K (.ref (cA j)) (.ref (cA i)) = some (i == j))))
theorem al_mk {P : Program} {w : World} {K : PySem.W.Frag} {mg : Str → Option Value} {base : Heap} {d : Addr} (de : mg "DrawError" = some (.ref d)) (kt : kitB35 K d = true) (rows : AllOf (Row P w K mg base) 0 tab) : Al P w K mg base cA d := by
  unfold kitB35 at kt
  simp only [List.all_eq_true, List.mem_range, Bool.and_eq_true, decide_eq_true_eq] at kt
  refine ⟨fun i x f e => ?_, fun i x e => ?_, fun i j hi hj => (kt j hj).2.2 i hi, de, fun j hj => (kt j hj).1, fun j hj => (kt j hj).2.1⟩
  · have := rows.at e
    rw [Nat.zero_add] at this
    exact this
  · have := rows.at e
    rw [Nat.zero_add] at this
    exact this
theorem bare_mk {K : PySem.W.Frag} {h : Heap} {mg : Str → Option Value} {x : Str} {C : Addr} (X : K.In h) (G : h.Ns mainGlobals mg) (aC : PySem.W.nsIn K mainGlobals x = some (some (.ref C))) (iB : isB K C = true) (k : PySem.W.keepIn K (.ref C) = true)
    (e : PySem.W.excIn K C [.type "ValueError", .type "Exception", .type "BaseException", .type "object"] "ValueError.__new__" = true) :
    mg x = some (.ref C) ∧ IsC K C ∧ PySem.W.keepIn K (.ref C) = true ∧ PySem.W.excIn K C [.type "ValueError", .type "Exception", .type "BaseException", .type "object"] "ValueError.__new__" = true :=
  ⟨PySem.W.mg_of X G aC, isB_ok iB, k, e⟩
theorem all_mk {l : PySem.W.OpenLaw} {w : World} {K : PySem.W.Frag} {h : Heap} {mg : Str → Option Value} {fa d : Addr} (X : K.In h) (G : h.Ns mainGlobals mg) (hfa : mg "law" = some (.ref fa)) (T : ∀ base, Al l.prog w K mg base cA d)
    {od0 an0 : Option Addr} {sl0 : Array (Option Value)} {oc0 kV0 dc0 pm0 cd0 ct0 : Value} {f0 : Addr}
    {od1 an1 : Option Addr} {sl1 : Array (Option Value)} {oc1 kV1 dc1 pm1 cd1 ct1 : Value} {f1 : Addr}
    {od2 an2 : Option Addr} {sl2 : Array (Option Value)} {oc2 kV2 dc2 pm2 cd2 ct2 : Value} {f2 : Addr}
    {od3 an3 : Option Addr} {sl3 : Array (Option Value)} {oc3 kV3 dc3 pm3 cd3 ct3 : Value} {f3 : Addr}
    {od4 an4 : Option Addr} {sl4 : Array (Option Value)} {oc4 kV4 dc4 pm4 cd4 ct4 : Value} {f4 : Addr}
    {od5 an5 : Option Addr} {sl5 : Array (Option Value)} {oc5 kV5 dc5 pm5 cd5 ct5 : Value} {f5 : Addr}
    {od6 an6 : Option Addr} {sl6 : Array (Option Value)} {oc6 kV6 dc6 pm6 cd6 ct6 : Value} {f6 : Addr}
    {od7 an7 : Option Addr} {sl7 : Array (Option Value)} {oc7 kV7 dc7 pm7 cd7 ct7 : Value} {f7 : Addr}
    {od8 an8 : Option Addr} {sl8 : Array (Option Value)} {oc8 kV8 dc8 pm8 cd8 ct8 : Value} {f8 : Addr}
    {od9 an9 : Option Addr} {sl9 : Array (Option Value)} {oc9 kV9 dc9 pm9 cd9 ct9 : Value} {f9 : Addr}
    {od10 an10 : Option Addr} {sl10 : Array (Option Value)} {oc10 kV10 dc10 pm10 cd10 ct10 : Value} {f10 : Addr}
    {od11 an11 : Option Addr} {sl11 : Array (Option Value)} {oc11 kV11 dc11 pm11 cd11 ct11 : Value} {f11 : Addr}
    (a0 : PySem.W.nsIn K mainGlobals "_law_cell" = some (some (.ref f0))) (l0 : K.lookup f0 = some ⟨oc0, od0, .func (PySem.W.fnOf "_law_cell" "_law_cell" (defArgs sCell) (defBody sCell) (defScope sCell) .none kV0 dc0 pm0 an0 cd0 ct0), sl0⟩) (c0 : PySem.W.codeIn K cd0 "_law_cell" = true) (k0 : PySem.W.keepIn K (.ref f0) = true)
    (a1 : PySem.W.nsIn K mainGlobals "_law_box" = some (some (.ref f1))) (l1 : K.lookup f1 = some ⟨oc1, od1, .func (PySem.W.fnOf "_law_box" "_law_box" (defArgs sBox) (defBody sBox) (defScope sBox) .none kV1 dc1 pm1 an1 cd1 ct1), sl1⟩) (c1 : PySem.W.codeIn K cd1 "_law_box" = true) (k1 : PySem.W.keepIn K (.ref f1) = true)
    (a2 : PySem.W.nsIn K mainGlobals "_law_take" = some (some (.ref f2))) (l2 : K.lookup f2 = some ⟨oc2, od2, .func (PySem.W.fnOf "_law_take" "_law_take" (defArgs sTake) (defBody sTake) (defScope sTake) .none kV2 dc2 pm2 an2 cd2 ct2), sl2⟩) (c2 : PySem.W.codeIn K cd2 "_law_take" = true) (k2 : PySem.W.keepIn K (.ref f2) = true)
    (a3 : PySem.W.nsIn K mainGlobals "_law_first" = some (some (.ref f3))) (l3 : K.lookup f3 = some ⟨oc3, od3, .func (PySem.W.fnOf "_law_first" "_law_first" (defArgs sFirst) (defBody sFirst) (defScope sFirst) .none kV3 dc3 pm3 an3 cd3 ct3), sl3⟩) (c3 : PySem.W.codeIn K cd3 "_law_first" = true) (k3 : PySem.W.keepIn K (.ref f3) = true)
    (a4 : PySem.W.nsIn K mainGlobals "_law_kinds" = some (some (.ref f4))) (l4 : K.lookup f4 = some ⟨oc4, od4, .func (PySem.W.fnOf "_law_kinds" "_law_kinds" (defArgs sKinds) (defBody sKinds) (defScope sKinds) .none kV4 dc4 pm4 an4 cd4 ct4), sl4⟩) (c4 : PySem.W.codeIn K cd4 "_law_kinds" = true) (k4 : PySem.W.keepIn K (.ref f4) = true)
    (a5 : PySem.W.nsIn K mainGlobals "_law_made" = some (some (.ref f5))) (l5 : K.lookup f5 = some ⟨oc5, od5, .func (PySem.W.fnOf "_law_made" "_law_made" (defArgs sMade) (defBody sMade) (defScope sMade) .none kV5 dc5 pm5 an5 cd5 ct5), sl5⟩) (c5 : PySem.W.codeIn K cd5 "_law_made" = true) (k5 : PySem.W.keepIn K (.ref f5) = true)
    (a6 : PySem.W.nsIn K mainGlobals "_law_named" = some (some (.ref f6))) (l6 : K.lookup f6 = some ⟨oc6, od6, .func (PySem.W.fnOf "_law_named" "_law_named" (defArgs sNamed) (defBody sNamed) (defScope sNamed) .none kV6 dc6 pm6 an6 cd6 ct6), sl6⟩) (c6 : PySem.W.codeIn K cd6 "_law_named" = true) (k6 : PySem.W.keepIn K (.ref f6) = true)
    (a7 : PySem.W.nsIn K mainGlobals "_law_new" = some (some (.ref f7))) (l7 : K.lookup f7 = some ⟨oc7, od7, .func (PySem.W.fnOf "_law_new" "_law_new" (defArgs sNew) (defBody sNew) (defScope sNew) .none kV7 dc7 pm7 an7 cd7 ct7), sl7⟩) (c7 : PySem.W.codeIn K cd7 "_law_new" = true) (k7 : PySem.W.keepIn K (.ref f7) = true)
    (a8 : PySem.W.nsIn K mainGlobals "_law_new_named" = some (some (.ref f8))) (l8 : K.lookup f8 = some ⟨oc8, od8, .func (PySem.W.fnOf "_law_new_named" "_law_new_named" (defArgs sNewNamed) (defBody sNewNamed) (defScope sNewNamed) .none kV8 dc8 pm8 an8 cd8 ct8), sl8⟩) (c8 : PySem.W.codeIn K cd8 "_law_new_named" = true) (k8 : PySem.W.keepIn K (.ref f8) = true)
    (a9 : PySem.W.nsIn K mainGlobals "_law_same" = some (some (.ref f9))) (l9 : K.lookup f9 = some ⟨oc9, od9, .func (PySem.W.fnOf "_law_same" "_law_same" (defArgs sSame) (defBody sSame) (defScope sSame) .none kV9 dc9 pm9 an9 cd9 ct9), sl9⟩) (c9 : PySem.W.codeIn K cd9 "_law_same" = true) (k9 : PySem.W.keepIn K (.ref f9) = true)
    (a10 : PySem.W.nsIn K mainGlobals "_law_bases_right" = some (some (.ref f10))) (l10 : K.lookup f10 = some ⟨oc10, od10, .func (PySem.W.fnOf "_law_bases_right" "_law_bases_right" (defArgs sBases) (defBody sBases) (defScope sBases) .none kV10 dc10 pm10 an10 cd10 ct10), sl10⟩) (c10 : PySem.W.codeIn K cd10 "_law_bases_right" = true) (k10 : PySem.W.keepIn K (.ref f10) = true)
    (a11 : PySem.W.nsIn K mainGlobals "law" = some (some (.ref f11))) (l11 : K.lookup f11 = some ⟨oc11, od11, .func (PySem.W.fnOf "law" "law" (defArgs sLaw) (defBody sLaw) (defScope sLaw) .none kV11 dc11 pm11 an11 cd11 ct11), sl11⟩) (c11 : PySem.W.codeIn K cd11 "law" = true) (k11 : PySem.W.keepIn K (.ref f11) = true)
    (zlen : PySem.W.nsIn K mainGlobals "len" = some none)
    (zsum : PySem.W.nsIn K mainGlobals "sum" = some none)
    (zabs : PySem.W.nsIn K mainGlobals "abs" = some none)
    (zint : PySem.W.nsIn K mainGlobals "int" = some none)
    (zrepr : PySem.W.nsIn K mainGlobals "repr" = some none)
    (zisi : PySem.W.nsIn K mainGlobals "isinstance" = some none)
    (zbool : PySem.W.nsIn K mainGlobals "bool" = some none)
    (zrange : PySem.W.nsIn K mainGlobals "range" = some none)
    (zve : PySem.W.nsIn K mainGlobals "ValueError" = some none) :
    ∃ fd : FuncData, (∀ (s : Shared) (u : Value), BindsTo s fd ⟨[u], []⟩ [("_law_script", u)]) ∧
        ∀ base : Heap, K.In base → base.Ns mainGlobals mg → Kp l.prog w K mg base CX0 5 fa fd ["_law_script"] (spLaw K) := by
  have e := hfa.symm.trans (PySem.W.mg_of X G a11)
  cases e
  have B : Bt mg := ⟨PySem.W.mg_none_of X G zlen, PySem.W.mg_none_of X G zsum, PySem.W.mg_none_of X G zabs, PySem.W.mg_none_of X G zint, PySem.W.mg_none_of X G zrepr, PySem.W.mg_none_of X G zisi, PySem.W.mg_none_of X G zbool, PySem.W.mg_none_of X G zrange, PySem.W.mg_none_of X G zve⟩
  have F0 := fun_mk (st := sCell) l0 c0 k0
  have m0 := PySem.W.mg_of X G a0
  have b0 := F0.binds (ps := ["_law_script", "_law_k"]) fun _ _ _ _ _ _ us hl => match us, hl with | [_, _], _ => rfl
  have F1 := fun_mk (st := sBox) l1 c1 k1
  have m1 := PySem.W.mg_of X G a1
  have b1 := F1.binds (ps := ["_law_cell_here"]) fun _ _ _ _ _ _ us hl => match us, hl with | [_], _ => rfl
  have F2 := fun_mk (st := sTake) l2 c2 k2
  have m2 := PySem.W.mg_of X G a2
  have b2 := F2.binds (ps := ["_law_box_here", "_law_many"]) fun _ _ _ _ _ _ us hl => match us, hl with | [_, _], _ => rfl
  have F3 := fun_mk (st := sFirst) l3 c3 k3
  have m3 := PySem.W.mg_of X G a3
  have b3 := F3.binds (ps := ["_law_e"]) fun _ _ _ _ _ _ us hl => match us, hl with | [_], _ => rfl
  have F4 := fun_mk (st := sKinds) l4 c4 k4
  have m4 := PySem.W.mg_of X G a4
  have b4 := F4.binds (ps := ["_law_e"]) fun _ _ _ _ _ _ us hl => match us, hl with | [_], _ => rfl
  have F5 := fun_mk (st := sMade) l5 c5 k5
  have m5 := PySem.W.mg_of X G a5
  have b5 := F5.binds (ps := ["_law_thing"]) fun _ _ _ _ _ _ us hl => match us, hl with | [_], _ => rfl
  have F6 := fun_mk (st := sNamed) l6 c6 k6
  have m6 := PySem.W.mg_of X G a6
  have b6 := F6.binds (ps := ["_law_thing"]) fun _ _ _ _ _ _ us hl => match us, hl with | [_], _ => rfl
  have F7 := fun_mk (st := sNew) l7 c7 k7
  have m7 := PySem.W.mg_of X G a7
  have b7 := F7.binds (ps := ["_law_thing"]) fun _ _ _ _ _ _ us hl => match us, hl with | [_], _ => rfl
  have F8 := fun_mk (st := sNewNamed) l8 c8 k8
  have m8 := PySem.W.mg_of X G a8
  have b8 := F8.binds (ps := ["_law_thing"]) fun _ _ _ _ _ _ us hl => match us, hl with | [_], _ => rfl
  have F9 := fun_mk (st := sSame) l9 c9 k9
  have m9 := PySem.W.mg_of X G a9
  have b9 := F9.binds (ps := ["_law_found", "_law_thing"]) fun _ _ _ _ _ _ us hl => match us, hl with | [_, _], _ => rfl
  have F10 := fun_mk (st := sBases) l10 c10 k10
  have m10 := PySem.W.mg_of X G a10
  have b10 := F10.binds (ps := []) fun _ _ _ _ _ _ us hl => match us, hl with | [], _ => rfl
  have F11 := fun_mk (st := sLaw) l11 c11 k11
  have m11 := PySem.W.mg_of X G a11
  refine ⟨PySem.W.fnOf "law" "law" (defArgs sLaw) (defBody sLaw) (defScope sLaw) .none kV11 dc11 pm11 an11 cd11 ct11, fun s v => .of_eq rfl, fun base _ _ => ?_⟩
  have T := T base
  have CM : Cal l.prog w K mg base "_law_made" 3 ["_law_thing"] (spMade cA ids1) := ⟨_, _, ok_made F5 T, m5, k5, b5⟩
  have CN : Cal l.prog w K mg base "_law_named" 3 ["_law_thing"] (spMade cA ids1) := ⟨_, _, ok_named F6 T, m6, k6, b6⟩
  have CO : Cal l.prog w K mg base "_law_new" 3 ["_law_thing"] (spMade cA ids2) := ⟨_, _, ok_new F7 T, m7, k7, b7⟩
  have CP : Cal l.prog w K mg base "_law_new_named" 3 ["_law_thing"] (spMade cA ids2) := ⟨_, _, ok_newnamed F8 T, m8, k8, b8⟩
  exact kp_law F11 B T ⟨_, _, ok_cell F0 B, m0, k0, b0⟩ ⟨_, _, ok_box F1 B, m1, k1, b1⟩ ⟨_, _, ok_take F2 B, m2, k2, b2⟩ CM CN CO CP ⟨_, _, kp_same F9 B, m9, k9, b9⟩
    ⟨_, _, ok_bases F10 B T (ok_made F5 T) m5 k5 b5 (ok_new F7 T) m7 k7 b7 (ok_kinds F4 F3 m3 b3 B T) m4 k4 b4, m10, k10, b10⟩
end K01

open PySem PySem.W PyProof.Rows L2 Vx
set_option Elab.async false
set_option maxRecDepth 100000
set_option maxHeartbeats 0
theorem PySem.Challenge.cw_jointdraws_k01_errors_holds : PySem.Challenge.rw_jointdraws_k01_errors.Holds := by
  w_on; o_law; k_headL; (case hw => w_witness2)
  k_fill
  refine K01.walk01 (l := PySem.Challenge.rw_jointdraws_k01_errors) rfl rfl (fun w h Y => PySem.W.kIn_of Y) ?F
  case F =>
    intro w mg fa h KX G hmg
    refine' K01.all_mk (d := 24) KX G hmg ?T ?a0 ?l0 ?c0 ?k0 ?a1 ?l1 ?c1 ?k1 ?a2 ?l2 ?c2 ?k2 ?a3 ?l3 ?c3 ?k3 ?a4 ?l4 ?c4 ?k4 ?a5 ?l5 ?c5 ?k5 ?a6 ?l6 ?c6 ?k6 ?a7 ?l7 ?c7 ?k7 ?a8 ?l8 ?c8 ?k8 ?a9 ?l9 ?c9 ?k9 ?a10 ?l10 ?c10 ?k10 ?a11 ?l11 ?c11 ?k11 ?zlen ?zsum ?zabs ?zint ?zrepr ?zisi ?zbool ?zrange ?zve
    rotate_left
    (case a0 => k_is); (case l0 => k_is); (case c0 => k_is); (case k0 => k_is)
    (case a1 => k_is); (case l1 => k_is); (case c1 => k_is); (case k1 => k_is)
    (case a2 => k_is); (case l2 => k_is); (case c2 => k_is); (case k2 => k_is)
    (case a3 => k_is); (case l3 => k_is); (case c3 => k_is); (case k3 => k_is)
    (case a4 => k_is); (case l4 => k_is); (case c4 => k_is); (case k4 => k_is)
    (case a5 => k_is); (case l5 => k_is); (case c5 => k_is); (case k5 => k_is)
    (case a6 => k_is); (case l6 => k_is); (case c6 => k_is); (case k6 => k_is)
    (case a7 => k_is); (case l7 => k_is); (case c7 => k_is); (case k7 => k_is)
    (case a8 => k_is); (case l8 => k_is); (case c8 => k_is); (case k8 => k_is)
    (case a9 => k_is); (case l9 => k_is); (case c9 => k_is); (case k9 => k_is)
    (case a10 => k_is); (case l10 => k_is); (case c10 => k_is); (case k10 => k_is)
    (case a11 => k_is); (case l11 => k_is); (case c11 => k_is); (case k11 => k_is)
    (case zlen => k_is)
    (case zsum => k_is)
    (case zabs => k_is)
    (case zint => k_is)
    (case zrepr => k_is)
    (case zisi => k_is)
    (case zbool => k_is)
    (case zrange => k_is)
    (case zve => k_is)
    intro base
    refine' K01.al_mk (PySem.W.mg_of KX G ?de) ?kt ⟨?e0, ?e1, ?e2, ?e3, ?e4, ?e5, ?e6, ?e7, ?e8, ?e9, ?e10, ?e11, ?e12, ?e13, ?e14, ?e15, ?e16, ?e17, ?e18, ?e19, ?e20, ?e21, ?e22, ?e23, ?e24, ?e25, ?e26, ?e27, ?e28, ?e29, ?e30, ?e31, ?e32, ?e33, ?e34, trivial⟩
    rotate_left
    (case de => k_is)
    (case e0 => (refine' Vx.ecl_mk (x := "BadBounds") (C := 436) (fI := 433) (fld := "given") (st := inClass (K01.top 23) 0) (qual := "BadBounds.__init__") KX G ?u1 ?u2 ?u3 ?u4 ?u5 ?u6 ?u7 rfl ⟨rfl, rfl, rfl, by decide +kernel, rfl, by decide +kernel, by decide +kernel⟩ rfl rfl (by decide) (by decide) (fun _ _ => rfl) (fun _ _ => rfl) base; (case u1 => k_is); (case u2 => k_is); (case u3 => decide +kernel); (case u4 => kernel_rfl); (case u5 => kernel_rfl); (case u6 => k_is); (case u7 => k_is)))
    (case e1 => (refine' Vx.ecl_mk (x := "BadCorner") (C := 398) (fI := 395) (fld := "given") (st := inClass (K01.top 21) 0) (qual := "BadCorner.__init__") KX G ?u1 ?u2 ?u3 ?u4 ?u5 ?u6 ?u7 rfl ⟨rfl, rfl, rfl, by decide +kernel, rfl, by decide +kernel, by decide +kernel⟩ rfl rfl (by decide) (by decide) (fun _ _ => rfl) (fun _ _ => rfl) base; (case u1 => k_is); (case u2 => k_is); (case u3 => decide +kernel); (case u4 => kernel_rfl); (case u5 => kernel_rfl); (case u6 => k_is); (case u7 => k_is)))
    (case e2 => (refine' Vx.ecl_mk (x := "BadCount") (C := 379) (fI := 376) (fld := "given") (st := inClass (K01.top 20) 0) (qual := "BadCount.__init__") KX G ?u1 ?u2 ?u3 ?u4 ?u5 ?u6 ?u7 rfl ⟨rfl, rfl, rfl, by decide +kernel, rfl, by decide +kernel, by decide +kernel⟩ rfl rfl (by decide) (by decide) (fun _ _ => rfl) (fun _ _ => rfl) base; (case u1 => k_is); (case u2 => k_is); (case u3 => decide +kernel); (case u4 => kernel_rfl); (case u5 => kernel_rfl); (case u6 => k_is); (case u7 => k_is)))
    (case e3 => (refine' Vx.ecl_mk (x := "BadDraws") (C := 208) (fI := 205) (fld := "given") (st := inClass (K01.top 11) 0) (qual := "BadDraws.__init__") KX G ?u1 ?u2 ?u3 ?u4 ?u5 ?u6 ?u7 rfl ⟨rfl, rfl, rfl, by decide +kernel, rfl, by decide +kernel, by decide +kernel⟩ rfl rfl (by decide) (by decide) (fun _ _ => rfl) (fun _ _ => rfl) base; (case u1 => k_is); (case u2 => k_is); (case u3 => decide +kernel); (case u4 => kernel_rfl); (case u5 => kernel_rfl); (case u6 => k_is); (case u7 => k_is)))
    (case e4 => (refine' Vx.ecl_mk (x := "BadFamily") (C := 417) (fI := 414) (fld := "given") (st := inClass (K01.top 22) 0) (qual := "BadFamily.__init__") KX G ?u1 ?u2 ?u3 ?u4 ?u5 ?u6 ?u7 rfl ⟨rfl, rfl, rfl, by decide +kernel, rfl, by decide +kernel, by decide +kernel⟩ rfl rfl (by decide) (by decide) (fun _ _ => rfl) (fun _ _ => rfl) base; (case u1 => k_is); (case u2 => k_is); (case u3 => decide +kernel); (case u4 => kernel_rfl); (case u5 => kernel_rfl); (case u6 => k_is); (case u7 => k_is)))
    (case e5 => (refine' Vx.ecl_mk (x := "BadGivers") (C := 132) (fI := 129) (fld := "given") (st := inClass (K01.top 7) 0) (qual := "BadGivers.__init__") KX G ?u1 ?u2 ?u3 ?u4 ?u5 ?u6 ?u7 rfl ⟨rfl, rfl, rfl, by decide +kernel, rfl, by decide +kernel, by decide +kernel⟩ rfl rfl (by decide) (by decide) (fun _ _ => rfl) (fun _ _ => rfl) base; (case u1 => k_is); (case u2 => k_is); (case u3 => decide +kernel); (case u4 => kernel_rfl); (case u5 => kernel_rfl); (case u6 => k_is); (case u7 => k_is)))
    (case e6 => (refine' Vx.ecl_mk (x := "BadKind") (C := 113) (fI := 110) (fld := "given") (st := inClass (K01.top 6) 0) (qual := "BadKind.__init__") KX G ?u1 ?u2 ?u3 ?u4 ?u5 ?u6 ?u7 rfl ⟨rfl, rfl, rfl, by decide +kernel, rfl, by decide +kernel, by decide +kernel⟩ rfl rfl (by decide) (by decide) (fun _ _ => rfl) (fun _ _ => rfl) base; (case u1 => k_is); (case u2 => k_is); (case u3 => decide +kernel); (case u4 => kernel_rfl); (case u5 => kernel_rfl); (case u6 => k_is); (case u7 => k_is)))
    (case e7 => (refine' Vx.ecl_mk (x := "BadLiars") (C := 341) (fI := 338) (fld := "given") (st := inClass (K01.top 18) 0) (qual := "BadLiars.__init__") KX G ?u1 ?u2 ?u3 ?u4 ?u5 ?u6 ?u7 rfl ⟨rfl, rfl, rfl, by decide +kernel, rfl, by decide +kernel, by decide +kernel⟩ rfl rfl (by decide) (by decide) (fun _ _ => rfl) (fun _ _ => rfl) base; (case u1 => k_is); (case u2 => k_is); (case u3 => decide +kernel); (case u4 => kernel_rfl); (case u5 => kernel_rfl); (case u6 => k_is); (case u7 => k_is)))
    (case e8 => (refine' Vx.ecl_mk (x := "BadName") (C := 94) (fI := 91) (fld := "given") (st := inClass (K01.top 5) 0) (qual := "BadName.__init__") KX G ?u1 ?u2 ?u3 ?u4 ?u5 ?u6 ?u7 rfl ⟨rfl, rfl, rfl, by decide +kernel, rfl, by decide +kernel, by decide +kernel⟩ rfl rfl (by decide) (by decide) (fun _ _ => rfl) (fun _ _ => rfl) base; (case u1 => k_is); (case u2 => k_is); (case u3 => decide +kernel); (case u4 => kernel_rfl); (case u5 => kernel_rfl); (case u6 => k_is); (case u7 => k_is)))
    (case e9 => (refine' Vx.ecl_mk (x := "BadNames") (C := 474) (fI := 471) (fld := "given") (st := inClass (K01.top 25) 0) (qual := "BadNames.__init__") KX G ?u1 ?u2 ?u3 ?u4 ?u5 ?u6 ?u7 rfl ⟨rfl, rfl, rfl, by decide +kernel, rfl, by decide +kernel, by decide +kernel⟩ rfl rfl (by decide) (by decide) (fun _ _ => rfl) (fun _ _ => rfl) base; (case u1 => k_is); (case u2 => k_is); (case u3 => decide +kernel); (case u4 => kernel_rfl); (case u5 => kernel_rfl); (case u6 => k_is); (case u7 => k_is)))
    (case e10 => (refine' Vx.ecl_mk (x := "BadNumber") (C := 56) (fI := 53) (fld := "given") (st := inClass (K01.top 3) 0) (qual := "BadNumber.__init__") KX G ?u1 ?u2 ?u3 ?u4 ?u5 ?u6 ?u7 rfl ⟨rfl, rfl, rfl, by decide +kernel, rfl, by decide +kernel, by decide +kernel⟩ rfl rfl (by decide) (by decide) (fun _ _ => rfl) (fun _ _ => rfl) base; (case u1 => k_is); (case u2 => k_is); (case u3 => decide +kernel); (case u4 => kernel_rfl); (case u5 => kernel_rfl); (case u6 => k_is); (case u7 => k_is)))
    (case e11 => (refine' Vx.ecl_mk (x := "BadPath") (C := 246) (fI := 243) (fld := "given") (st := inClass (K01.top 13) 0) (qual := "BadPath.__init__") KX G ?u1 ?u2 ?u3 ?u4 ?u5 ?u6 ?u7 rfl ⟨rfl, rfl, rfl, by decide +kernel, rfl, by decide +kernel, by decide +kernel⟩ rfl rfl (by decide) (by decide) (fun _ _ => rfl) (fun _ _ => rfl) base; (case u1 => k_is); (case u2 => k_is); (case u3 => decide +kernel); (case u4 => kernel_rfl); (case u5 => kernel_rfl); (case u6 => k_is); (case u7 => k_is)))
    (case e12 => (refine' Vx.ecl_mk (x := "BadPlan") (C := 360) (fI := 357) (fld := "given") (st := inClass (K01.top 19) 0) (qual := "BadPlan.__init__") KX G ?u1 ?u2 ?u3 ?u4 ?u5 ?u6 ?u7 rfl ⟨rfl, rfl, rfl, by decide +kernel, rfl, by decide +kernel, by decide +kernel⟩ rfl rfl (by decide) (by decide) (fun _ _ => rfl) (fun _ _ => rfl) base; (case u1 => k_is); (case u2 => k_is); (case u3 => decide +kernel); (case u4 => kernel_rfl); (case u5 => kernel_rfl); (case u6 => k_is); (case u7 => k_is)))
    (case e13 => (refine' Vx.ecl_mk (x := "BadPrices") (C := 455) (fI := 452) (fld := "given") (st := inClass (K01.top 24) 0) (qual := "BadPrices.__init__") KX G ?u1 ?u2 ?u3 ?u4 ?u5 ?u6 ?u7 rfl ⟨rfl, rfl, rfl, by decide +kernel, rfl, by decide +kernel, by decide +kernel⟩ rfl rfl (by decide) (by decide) (fun _ _ => rfl) (fun _ _ => rfl) base; (case u1 => k_is); (case u2 => k_is); (case u3 => decide +kernel); (case u4 => kernel_rfl); (case u5 => kernel_rfl); (case u6 => k_is); (case u7 => k_is)))
    (case e14 => (refine' Vx.ecl_mk (x := "BadShares") (C := 170) (fI := 167) (fld := "given") (st := inClass (K01.top 9) 0) (qual := "BadShares.__init__") KX G ?u1 ?u2 ?u3 ?u4 ?u5 ?u6 ?u7 rfl ⟨rfl, rfl, rfl, by decide +kernel, rfl, by decide +kernel, by decide +kernel⟩ rfl rfl (by decide) (by decide) (fun _ _ => rfl) (fun _ _ => rfl) base; (case u1 => k_is); (case u2 => k_is); (case u3 => decide +kernel); (case u4 => kernel_rfl); (case u5 => kernel_rfl); (case u6 => k_is); (case u7 => k_is)))
    (case e15 => (refine' Vx.ecl_mk (x := "BadStake") (C := 284) (fI := 281) (fld := "given") (st := inClass (K01.top 15) 0) (qual := "BadStake.__init__") KX G ?u1 ?u2 ?u3 ?u4 ?u5 ?u6 ?u7 rfl ⟨rfl, rfl, rfl, by decide +kernel, rfl, by decide +kernel, by decide +kernel⟩ rfl rfl (by decide) (by decide) (fun _ _ => rfl) (fun _ _ => rfl) base; (case u1 => k_is); (case u2 => k_is); (case u3 => decide +kernel); (case u4 => kernel_rfl); (case u5 => kernel_rfl); (case u6 => k_is); (case u7 => k_is)))
    (case e16 => (refine' Vx.ecl_mk (x := "BadStandIn") (C := 189) (fI := 186) (fld := "given") (st := inClass (K01.top 10) 0) (qual := "BadStandIn.__init__") KX G ?u1 ?u2 ?u3 ?u4 ?u5 ?u6 ?u7 rfl ⟨rfl, rfl, rfl, by decide +kernel, rfl, by decide +kernel, by decide +kernel⟩ rfl rfl (by decide) (by decide) (fun _ _ => rfl) (fun _ _ => rfl) base; (case u1 => k_is); (case u2 => k_is); (case u3 => decide +kernel); (case u4 => kernel_rfl); (case u5 => kernel_rfl); (case u6 => k_is); (case u7 => k_is)))
    (case e17 => (refine' Vx.ecl_mk (x := "BadText") (C := 75) (fI := 72) (fld := "given") (st := inClass (K01.top 4) 0) (qual := "BadText.__init__") KX G ?u1 ?u2 ?u3 ?u4 ?u5 ?u6 ?u7 rfl ⟨rfl, rfl, rfl, by decide +kernel, rfl, by decide +kernel, by decide +kernel⟩ rfl rfl (by decide) (by decide) (fun _ _ => rfl) (fun _ _ => rfl) base; (case u1 => k_is); (case u2 => k_is); (case u3 => decide +kernel); (case u4 => kernel_rfl); (case u5 => kernel_rfl); (case u6 => k_is); (case u7 => k_is)))
    (case e18 => (refine' Vx.ecl_mk (x := "BadWish") (C := 265) (fI := 262) (fld := "given") (st := inClass (K01.top 14) 0) (qual := "BadWish.__init__") KX G ?u1 ?u2 ?u3 ?u4 ?u5 ?u6 ?u7 rfl ⟨rfl, rfl, rfl, by decide +kernel, rfl, by decide +kernel, by decide +kernel⟩ rfl rfl (by decide) (by decide) (fun _ _ => rfl) (fun _ _ => rfl) base; (case u1 => k_is); (case u2 => k_is); (case u3 => decide +kernel); (case u4 => kernel_rfl); (case u5 => kernel_rfl); (case u6 => k_is); (case u7 => k_is)))
    (case e19 => (refine' Vx.ecl_mk (x := "NoEnd") (C := 303) (fI := 300) (fld := "given") (st := inClass (K01.top 16) 0) (qual := "NoEnd.__init__") KX G ?u1 ?u2 ?u3 ?u4 ?u5 ?u6 ?u7 rfl ⟨rfl, rfl, rfl, by decide +kernel, rfl, by decide +kernel, by decide +kernel⟩ rfl rfl (by decide) (by decide) (fun _ _ => rfl) (fun _ _ => rfl) base; (case u1 => k_is); (case u2 => k_is); (case u3 => decide +kernel); (case u4 => kernel_rfl); (case u5 => kernel_rfl); (case u6 => k_is); (case u7 => k_is)))
    (case e20 => (refine' Vx.ecl_mk (x := "NoPerson") (C := 322) (fI := 319) (fld := "given") (st := inClass (K01.top 17) 0) (qual := "NoPerson.__init__") KX G ?u1 ?u2 ?u3 ?u4 ?u5 ?u6 ?u7 rfl ⟨rfl, rfl, rfl, by decide +kernel, rfl, by decide +kernel, by decide +kernel⟩ rfl rfl (by decide) (by decide) (fun _ _ => rfl) (fun _ _ => rfl) base; (case u1 => k_is); (case u2 => k_is); (case u3 => decide +kernel); (case u4 => kernel_rfl); (case u5 => kernel_rfl); (case u6 => k_is); (case u7 => k_is)))
    (case e21 => (refine' Vx.ecl_mk (x := "NotNow") (C := 517) (fI := 514) (fld := "given") (st := inClass (K01.top 28) 0) (qual := "NotNow.__init__") KX G ?u1 ?u2 ?u3 ?u4 ?u5 ?u6 ?u7 rfl ⟨rfl, rfl, rfl, by decide +kernel, rfl, by decide +kernel, by decide +kernel⟩ rfl rfl (by decide) (by decide) (fun _ _ => rfl) (fun _ _ => rfl) base; (case u1 => k_is); (case u2 => k_is); (case u3 => decide +kernel); (case u4 => kernel_rfl); (case u5 => kernel_rfl); (case u6 => k_is); (case u7 => k_is)))
    (case e22 => (refine' Vx.ecl_mk (x := "Twice") (C := 151) (fI := 148) (fld := "person") (st := inClass (K01.top 8) 0) (qual := "Twice.__init__") KX G ?u1 ?u2 ?u3 ?u4 ?u5 ?u6 ?u7 rfl ⟨rfl, rfl, rfl, by decide +kernel, rfl, by decide +kernel, by decide +kernel⟩ rfl rfl (by decide) (by decide) (fun _ _ => rfl) (fun _ _ => rfl) base; (case u1 => k_is); (case u2 => k_is); (case u3 => decide +kernel); (case u4 => kernel_rfl); (case u5 => kernel_rfl); (case u6 => k_is); (case u7 => k_is)))
    (case e23 => (refine' Vx.ecl_mk (x := "TooMany") (C := 227) (fI := 224) (fld := "count") (st := inClass (K01.top 12) 0) (qual := "TooMany.__init__") KX G ?u1 ?u2 ?u3 ?u4 ?u5 ?u6 ?u7 rfl ⟨rfl, rfl, rfl, by decide +kernel, rfl, by decide +kernel, by decide +kernel⟩ rfl rfl (by decide) (by decide) (fun _ _ => rfl) (fun _ _ => rfl) base; (case u1 => k_is); (case u2 => k_is); (case u3 => decide +kernel); (case u4 => kernel_rfl); (case u5 => kernel_rfl); (case u6 => k_is); (case u7 => k_is)))
    (case e24 => (refine' K01.bare_mk (x := "ByZero") (C := 37) KX G ?u1 ?u2 ?u3 ?u4; (case u1 => k_is); (case u2 => kernel_rfl); (case u3 => k_is); (case u4 => kernel_rfl)))
    (case e25 => (refine' K01.bare_mk (x := "NothingToUndo") (C := 529) KX G ?u1 ?u2 ?u3 ?u4; (case u1 => k_is); (case u2 => kernel_rfl); (case u3 => k_is); (case u4 => kernel_rfl)))
    (case e26 => (refine' K01.bare_mk (x := "NotTurns") (C := 486) KX G ?u1 ?u2 ?u3 ?u4; (case u1 => k_is); (case u2 => kernel_rfl); (case u3 => k_is); (case u4 => kernel_rfl)))
    (case e27 => (refine' K01.bare_mk (x := "UnlikeEnds") (C := 498) KX G ?u1 ?u2 ?u3 ?u4; (case u1 => k_is); (case u2 => kernel_rfl); (case u3 => k_is); (case u4 => kernel_rfl)))
    (case e28 => (refine' Vx.ecl_mk (x := "BadBudget") (C := 548) (fI := 545) (fld := "given") (st := inClass (K01.top 30) 0) (qual := "BadBudget.__init__") KX G ?u1 ?u2 ?u3 ?u4 ?u5 ?u6 ?u7 rfl ⟨rfl, rfl, rfl, by decide +kernel, rfl, by decide +kernel, by decide +kernel⟩ rfl rfl (by decide) (by decide) (fun _ _ => rfl) (fun _ _ => rfl) base; (case u1 => k_is); (case u2 => k_is); (case u3 => decide +kernel); (case u4 => kernel_rfl); (case u5 => kernel_rfl); (case u6 => k_is); (case u7 => k_is)))
    (case e29 => (refine' Vx.ecl_mk (x := "BadGuard") (C := 624) (fI := 621) (fld := "given") (st := inClass (K01.top 34) 0) (qual := "BadGuard.__init__") KX G ?u1 ?u2 ?u3 ?u4 ?u5 ?u6 ?u7 rfl ⟨rfl, rfl, rfl, by decide +kernel, rfl, by decide +kernel, by decide +kernel⟩ rfl rfl (by decide) (by decide) (fun _ _ => rfl) (fun _ _ => rfl) base; (case u1 => k_is); (case u2 => k_is); (case u3 => decide +kernel); (case u4 => kernel_rfl); (case u5 => kernel_rfl); (case u6 => k_is); (case u7 => k_is)))
    (case e30 => (refine' Vx.ecl_mk (x := "BadHabit") (C := 662) (fI := 659) (fld := "given") (st := inClass (K01.top 36) 0) (qual := "BadHabit.__init__") KX G ?u1 ?u2 ?u3 ?u4 ?u5 ?u6 ?u7 rfl ⟨rfl, rfl, rfl, by decide +kernel, rfl, by decide +kernel, by decide +kernel⟩ rfl rfl (by decide) (by decide) (fun _ _ => rfl) (fun _ _ => rfl) base; (case u1 => k_is); (case u2 => k_is); (case u3 => decide +kernel); (case u4 => kernel_rfl); (case u5 => kernel_rfl); (case u6 => k_is); (case u7 => k_is)))
    (case e31 => (refine' Vx.ecl_mk (x := "BadMixture") (C := 567) (fI := 564) (fld := "given") (st := inClass (K01.top 31) 0) (qual := "BadMixture.__init__") KX G ?u1 ?u2 ?u3 ?u4 ?u5 ?u6 ?u7 rfl ⟨rfl, rfl, rfl, by decide +kernel, rfl, by decide +kernel, by decide +kernel⟩ rfl rfl (by decide) (by decide) (fun _ _ => rfl) (fun _ _ => rfl) base; (case u1 => k_is); (case u2 => k_is); (case u3 => decide +kernel); (case u4 => kernel_rfl); (case u5 => kernel_rfl); (case u6 => k_is); (case u7 => k_is)))
    (case e32 => (refine' Vx.ecl_mk (x := "BadPlans") (C := 605) (fI := 602) (fld := "given") (st := inClass (K01.top 33) 0) (qual := "BadPlans.__init__") KX G ?u1 ?u2 ?u3 ?u4 ?u5 ?u6 ?u7 rfl ⟨rfl, rfl, rfl, by decide +kernel, rfl, by decide +kernel, by decide +kernel⟩ rfl rfl (by decide) (by decide) (fun _ _ => rfl) (fun _ _ => rfl) base; (case u1 => k_is); (case u2 => k_is); (case u3 => decide +kernel); (case u4 => kernel_rfl); (case u5 => kernel_rfl); (case u6 => k_is); (case u7 => k_is)))
    (case e33 => (refine' Vx.ecl_mk (x := "BadSeason") (C := 586) (fI := 583) (fld := "given") (st := inClass (K01.top 32) 0) (qual := "BadSeason.__init__") KX G ?u1 ?u2 ?u3 ?u4 ?u5 ?u6 ?u7 rfl ⟨rfl, rfl, rfl, by decide +kernel, rfl, by decide +kernel, by decide +kernel⟩ rfl rfl (by decide) (by decide) (fun _ _ => rfl) (fun _ _ => rfl) base; (case u1 => k_is); (case u2 => k_is); (case u3 => decide +kernel); (case u4 => kernel_rfl); (case u5 => kernel_rfl); (case u6 => k_is); (case u7 => k_is)))
    (case e34 => (refine' Vx.ecl_mk (x := "BadWishes") (C := 643) (fI := 640) (fld := "given") (st := inClass (K01.top 35) 0) (qual := "BadWishes.__init__") KX G ?u1 ?u2 ?u3 ?u4 ?u5 ?u6 ?u7 rfl ⟨rfl, rfl, rfl, by decide +kernel, rfl, by decide +kernel, by decide +kernel⟩ rfl rfl (by decide) (by decide) (fun _ _ => rfl) (fun _ _ => rfl) base; (case u1 => k_is); (case u2 => k_is); (case u3 => decide +kernel); (case u4 => kernel_rfl); (case u5 => kernel_rfl); (case u6 => k_is); (case u7 => k_is)))
    (case kt => kernel_rfl)
#print axioms PySem.Challenge.cw_jointdraws_k01_errors_holds
