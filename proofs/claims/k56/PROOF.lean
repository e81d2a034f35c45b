import PyProof.Rows.All
import Wide.All
import OpenK.AllK
import Wide.FinOn
import PyProof.EqAt
import PyProof.EqKinds
import PyProof.TupleCall
import PyProof.ReprRoads
import PyProof.Rows.NestShow
import PyProof.Rows.RuleB_pow
import HandS.Base
import HandS.Call
import HandS.List
import HandS.Ends
import HandS.Words
import HandS.Lambda
import HandS.EndTab
import PyProof.ReprText
import PyProof.StrLawsRepr
import PyProof.FitsInt
import PyProof.RowDictHeap
import HandS.Comp
import HandS.Dict
import HandS.Text
import HandS.TupAny
import HandS.Rev
import KE.KRevSl
import HandS.Exc
import HandS.ExcInit
import HandS.ExcField
import HandS.ExcIs
import HandS.IsInst
import KE.KExcInit
import KE.GoesMore
import PyProof.Draws
import HandS.Strs
import PyProof.Rows.SetFrom
import PyProof.InstNe
import HandS.NoneIn
import PyProof.AssignAttr
import KE.KAssignIn
import HandS.ForMost
import HandS.Conv
import HandS.Style
import HandS.Walk
import HandS.WordsExc
import HandS.TupLen
import KE.KDictWalk
import HandS.Deep
import HandS.DeepEq
import HandS.Zip
import KE.KDictZip
import KE.KDictItemsList
import HandS.ListItems
import KE.GoesZip
import KE.GoesEnum
import KE.KNest
import PySem.Challenge.RW_toldboxes_k56_where_watches_are_safe_mar
set_option Elab.async false
set_option linter.all false
set_option maxRecDepth 100000
/-! Promises that are kept where no repr is under way: calls within such bodies, the law's own end, repr of data. -/
namespace LG
open PySem PySem.Spec PyProof.Rows L2
/-- a promise of a def that is called where no guard of a repr stands around -/
structure GnOk (P : Program) (w : World) (K : PySem.W.Frag) (mg : Str → Option Value) (base : Heap) (k : Nat) (f : Addr) (fd : FuncData) (ps : List Str) (sp : Sp) : Prop where
  many : ∀ vs H Q E, sp vs H Q E → vs.length = ps.length
  goes : ∀ (B : Around) (callers : List Env) (z : Shared) (H : Hp) (args : Args) (us : List Value) (vs : List V) (Q : VK),
    B.guards = some [] → Room k B → Env0 P w K mg base B callers z H → BindsTo z fd args (ps.zip us) → Vals vs us → sp vs H Q E0 → codeAny (model P w) B (.call (.ref f) args) (CR CX0 callers P w H z Q E0) z
section
variable {P : Program} {w : World} {K : PySem.W.Frag} {mg : Str → Option Value} {base : Heap}
theorem GnOk.of {k : Nat} {f : Addr} {fd : FuncData} {ps : List Str} {sp : Sp} (F : FnOk P w K mg base CX0 k f fd ps sp) : GnOk P w K mg base k f fd ps sp :=
  ⟨F.len, fun B cs z H args us vs Q _ hr e0 hb r h => F.run B cs z H args us vs Q E0 hr e0 hb r h⟩
/-- a def's promise by its body, the guards known -/
theorem gn_of {x qual : Str} {st : Stmt} {f : Addr} {fd : FuncData} {N ps : List Str} {k : Nat} {sp : Sp} (F : Fun K x qual st f fd) (S : FnScope N ps (defScope st))
    (len : ∀ vs H Q E, sp vs H Q E → vs.length = ps.length)
    (body : ∀ (cv : Value) (B : Around) (callers : List Env) (z : Shared) (H : Hp) (vs : List V) (Q : VK), B.guards = some [] → Room k (B.deeper (envOfC qual (defScope st) z.heap.objs.size f cv)) → sp vs H Q E0 →
      ∃ t, PSs (cxOf CX0 P w K mg base N qual (defScope st) f cv B callers z H E0).nox (defBody st) t ∧ t { nx := fun _ H' => Q .non H', rt := Q } (start N vs) H) :
    GnOk P w K mg base (k + 1) f fd ps sp := by
  obtain ⟨oc, od, kV, doc, pm, an, cv, ct, osl, rfl, lk, hcd⟩ := F.ex
  refine ⟨len, fun B callers z H args us vs Q hg hr e0 hb r hsp => ?_⟩
  have many := len _ _ _ _ hsp
  have inK : K.In z.heap := e0.mod.kin.keeps fun b o e => (e0.bs b o e).1
  have nolim : z.heap.NoLimit := e0.mod.nolimit.keeps fun b o e => (e0.bs b o e).1
  have kinds : ∀ y ∈ ps.zip us, (defScope st).names.lookup y.1 = some .local ∨ ((defScope st).names.lookup y.1 = some .cell ∧ ((cellsFrom (z.heap.objs.size + 1) (defScope st).names []).lookup y.1).isSome = true) := by
    rintro ⟨n, v⟩ hy
    cases S.par n (List.of_mem_zip hy).1 with
    | inl q => exact .inl q
    | inr q => exact .inr ⟨q, PySem.W.cellsFrom_some _ _ _ (.inl q)⟩
  refine codeAny_call_function hr.depth (inK _ _ lk) rfl S.co S.gen rfl (PySem.W.codeRec_of inK hcd) (hb _ _ _ _ ?_)
  refine wpAny_newFunctionEnv_cells S.kind kinds fun env he z1 entered => ?_
  subst he
  refine ⟨nolim.keeps entered.toInCall.keep, codeAny_func ?_⟩
  obtain ⟨t, ht, q0⟩ := body cv B callers z H vs Q hg (hr.deeper _) hsp
  have J := inv_start (CX := CX0) (E := E0) S hr.hd e0 many r entered
  refine wpAny_mono (ht.nox.run [] z1 (start N vs) H _ J q0) (fun fl z' ends => ?_) fun _ _ e => e
  cases fl with
  | ret u =>
    obtain ⟨v, σ', H', J', rv, q⟩ := ends
    exact ⟨v, H', J'.os, J'.bare, J'.base, J'.hok, rv, q⟩
  | next =>
    obtain ⟨σ', H', J', q⟩ := ends
    exact ⟨V.non, H', J'.os, J'.bare, J'.base, J'.hok, rfl, q⟩
  | brk =>
    obtain ⟨_, _, _, q⟩ := ends
    exact q.elim
  | cont =>
    obtain ⟨_, _, _, q⟩ := ends
    exact q.elim
end
section
variable {X : Cx} {k : Nat} {f : Addr} {fd : FuncData} {ps : List Str} {sp : Sp} {x : Str} {p pos : Pos} {e : Expr} {es : List Expr} {t : TA}
theorem g_run {pins : List (Addr × Obj)} {σ : L2.St} {H : Hp} {z : Shared} {Q : VK} {us : List Value} {vs : List V} (F : GnOk X.prog X.w X.K X.mg X.base k f fd ps sp) (hg : X.A.guards = some []) (hr : Room k X.A) (hb : Binds X.K fd ps [])
    (I : Inv X pins σ H z) (r : Vals vs us) (h : sp vs H Q E0) : wpAny (model X.prog X.w) X.A (call (.ref f) us) (EP X pins σ Q) X.xe z := by
  have hl : (us ++ []).length = ps.length := by
    rw [List.append_nil, ← r.length]
    exact F.many _ _ _ _ h
  have hb' := hb z us I.kIn hl
  rw [List.append_nil] at hb'
  refine wpAny_call (codeAny_mono (F.goes X.A X.stack z H ⟨us, []⟩ us vs Q hg hr I.env0 hb' r h) fun res z' q => ?_)
  match res, q with
  | .ok (.ret u), q => exact I.after q
  | .ok .next, q => exact q.elim
  | .ok .brk, q => exact q.elim
  | .ok .cont, q => exact q.elim
  | .error _, q => exact q.elim
/-- f(e, ..) where no repr is under way -/
theorem pe_gcall (F : GnOk X.prog X.w X.K X.mg X.base k f fd ps sp) (hG : X.A.guards = some []) (hr : Room k X.A) (hg : Gl X x) (hm : X.mg x = some (.ref f)) (hk : PySem.W.keepIn X.K (.ref f) = true) (hb : Binds X.K fd ps [])
    (ha : PA X (e :: es) t) (hdb : (x == ("__debug__" : Str)) = false := by decide) (he : starEach (e :: es) X.env = (false, eval e X.env) :: starEach es X.env := by rfl) (hpl : (backTo pos (starEach es X.env)).any (·.1) = false := by rfl) :
    PE X (.Call (.Name x p) (e :: es) [] pos) (fun σ H Q => t σ H fun vs H1 => sp vs H1 Q E0) := by
  refine ⟨fun pins z σ H Q I h => wpAny_Call_Name_kw (ld_glob I hg hm ?_ hdb)⟩
  refine PySem.W.callWith_K (h₀ := X.base) I.ok.mod.kin hk (thn (ha.run pos pins z σ H _ I h) ?_) he hpl
  rintro us z1 ⟨vs, H1, I1, r, q⟩
  exact ⟨I1.kIn, g_run F hG hr hb I1 r q⟩
end
end LG
set_option Elab.async false
set_option linter.all false
set_option maxRecDepth 100000
namespace LG
open PySem PySem.Spec PyProof.Rows L2
/-- the law's call from the heap behind the top, for a promise of the kind GnOk -/
theorem g_law {P : Program} {w : World} {K : PySem.W.Frag} {mg mb : Str → Option Value} {k : Nat} {fa a : Addr} {fd : FuncData} {x : Str} {sp : Sp} {z : Shared} {vs : List Value} {ns : List Int}
    (inK : K.In z.heap) (gl : z.heap.Ns mainGlobals mg) (bl : z.heap.Ns builtinsNs mb) (boot : ∀ x : Str, x ≠ "__name__" → mb x = bootBuiltins x) (nolim : z.heap.NoLimit) (nogen : z.gens = #[])
    (at_ : z.heap.get? a = some { cls := .type "list", data := .seq vs.toArray }) (isInts : IntsAre vs ns) (fits : ns.length ≤ sizeLine) (hr : Room k callerA)
    (F : ∀ base : Heap, K.In base → base.Ns mainGlobals mg → GnOk P w K mg base k fa fd [x] sp) (binds : ∀ (s : Shared) (u : Value), BindsTo s fd ⟨[u], []⟩ [(x, u)])
    (told : ∀ H : Hp, Only H → SqL K H a (ns.map V.int) → sp [.ref a] H (fun v _ => v = .bl true) E0) :
    codeAny (model P w) callerA (.call (.ref fa) ⟨[.ref a], []⟩) (fun r s' => r = .ok (.ret (.bool true)) ∧ OldK z.heap s'.heap ∧ s'.os = z.os ∧ AllBare s'.gens) z := by
  have vals := vals_ints isInts
  have many := isInts.length
  have go : ∀ H : Hp, Only H → SqL K H a (ns.map V.int) → HOk P w H z.heap → (∀ b, H b ≠ none → b = a) → (H a ≠ none → K.lookup a = none) →
      codeAny (model P w) callerA (.call (.ref fa) ⟨[.ref a], []⟩) (fun r s' => r = .ok (.ret (.bool true)) ∧ OldK z.heap s'.heap ∧ s'.os = z.os ∧ AllBare s'.gens) z := by
    intro H only seq hok just notK
    have dicts : ∀ {b : Addr} {o : Obj} {es : Array DictEntry} {ep : Nat}, z.heap.get? b = some o → o.data = .dict es ep → H b = none := by
      intro b o es ep e d
      cases q : H b with
      | none => rfl
      | some u =>
        have same : b = a := just b (by rw [q]; exact fun t => nomatch t)
        rw [same, at_] at e
        cases e
        exact nomatch (show Data.seq vs.toArray _ = Data.dict es ep from d)
    have nsH : ∀ {b : Addr} {m : Str → Option Value}, z.heap.Ns b m → (hidT z.heap H).Ns b m := by
      rintro b m ⟨o, es, ep, e, d, r⟩
      exact ⟨o, es, ep, hidT_get e (dicts e d), d, r⟩
    have inH : K.In (hidT z.heap H) := by
      intro b o e
      refine hidT_get (inK b o e) ?_
      cases q : H b with
      | none => rfl
      | some u =>
        have same : b = a := just b (by rw [q]; exact fun t => nomatch t)
        have no := notK (by rw [← same, q]; exact fun t => nomatch t)
        rw [same, no] at e
        cases e
    have M : Mod K mg (hidT z.heap H) := ⟨inH, nsH gl, ⟨mb, nsH bl, boot⟩, by
      obtain ⟨mc, n1, n2⟩ := nolim
      exact ⟨mc, nsH n1, n2⟩⟩
    have e0 : Env0 P w K mg (hidT z.heap H) callerA [] z H :=
      ⟨rfl, M, fun b o e => of_hidT e, Nat.le_of_eq (hidT_size _ _), trivial, fun b hb => absurd hb (by simp [frs]), hok, .of_eq nogen⟩
    refine codeAny_mono ((F _ inH (nsH gl)).goes callerA [] z H ⟨[.ref a], []⟩ [.ref a] [.ref a] _ rfl hr e0 (binds z (.ref a)) (.cons rfl .nil) (told H only seq)) fun r s' h => ?_
    match r, h with
    | .error _, h => exact h.elim
    | .ok .next, h => exact h.elim
    | .ok .brk, h => exact h.elim
    | .ok .cont, h => exact h.elim
    | .ok (.ret u), h =>
      obtain ⟨v, H', os, bare, un, hok', r', q⟩ := h
      have q' : v = .bl true := q
      subst q'
      have r2 : u = Value.bool true := r'
      subst r2
      refine ⟨rfl, OldK.of_keep fun b o e => ?_, os, bare⟩
      cases q : H b with
      | none => exact un.keep b o e q (by simp [frs]) (by simp)
      | some u =>
        rcases only b with t | ⟨ob, xs, t⟩
        · rw [q] at t
          cases t
        · obtain ⟨e1, _⟩ := hok b _ t
          obtain ⟨e2, _⟩ := hok' b _ (un.frzs b ob _ t)
          rw [e] at e1
          cases e1
          exact e2
  cases hk : K.lookup a with
  | some o =>
    have e := inK a o hk
    rw [at_] at e
    cases e
    refine go (fun _ => none) (fun _ => .inl rfl) (.inr ⟨_, vs.toArray, _, hk, rfl, rfl, rfl, ?_, ?_⟩) (fun b u t => nomatch (show (none : Option HO) = some u from t)) (fun b t => absurd rfl t) fun t => absurd rfl t
    · rw [List.size_toArray, many]
      exact fits
    · simpa using vals
  | none =>
    refine go (fun b => if b = a then some (.frz { cls := .type "list", data := .seq vs.toArray } (.lst (ns.map V.int))) else none) ?_ (.inl (.inr ⟨_, if_pos rfl⟩)) ?_ ?_ fun _ => hk
    · intro b
      by_cases same : b = a
      · exact .inr ⟨_, _, if_pos same⟩
      · exact .inl (if_neg same)
    · intro b u t
      by_cases same : b = a
      · have t' := (if_pos same).symm.trans t
        cases t'
        rw [same]
        exact ⟨at_, by rw [List.length_map]; exact fits, vs, _, vals, at_⟩
      · exact nomatch (if_neg same).symm.trans t
    · intro b t
      by_cases same : b = a
      · exact same
      · exact absurd (if_neg same) t
theorem g_walk {l : PySem.W.OpenLaw} {k : Nat} {q : Program} {loose : List Str} {XP : (Str → Option Value) → Heap → Prop} {YP : World → Heap → Prop} {d : DefRec} {K : Params → PySem.W.Frag} {sp : PySem.W.Frag → Sp} {x : Str}
    (most : l.most = some 63) (nodef : d.params.defaults = []) (hr : Room k callerA) (inK : ∀ (w : World) (h : Heap), YP w h → (K w.params).In h)
    (F : ∀ (w : World) (mg : Str → Option Value) (fa : Addr) (h : Heap), (K w.params).In h → h.Ns mainGlobals mg → mg d.name = some (.ref fa) →
      ∃ fd : FuncData, (∀ (s : Shared) (u : Value), BindsTo s fd ⟨[u], []⟩ [(x, u)]) ∧ ∀ base : Heap, (K w.params).In base → base.Ns mainGlobals mg → GnOk l.prog w (K w.params) mg base k fa fd [x] (sp (K w.params)))
    (told : ∀ (K : PySem.W.Frag) (H : Hp) (a : Addr) (ns : List Int), ns.length ≤ 63 → Only H → SqL K H a (ns.map V.int) → sp K [.ref a] H (fun v _ => v = .bl true) E0) :
    PySem.W.WalkO q loose XP YP l.row.toRowW d [] (fun f vs => PySem.call f vs) := by
  refine Att.attach_call most nodef fun w s₀ s₁ mg mb fa o pm cd doc a vs ns G Y ho hd hcd hmg hobj hints hlen hg => ?_
  have KX := inK w _ Y
  obtain ⟨fd, hb, hF⟩ := F w mg fa _ KX G.T.g hmg
  exact g_law KX G.T.g G.T.b G.T.builtins G.T.nolimit hg hobj hints (Nat.le_trans hlen (by decide)) hr hF hb fun H only seq => told _ H a ns hlen only seq
end LG
set_option Elab.async false
set_option linter.all false
set_option maxRecDepth 100000
set_option maxHeartbeats 1000000
/-! The law's end for GnOk with tables of code objects. -/
namespace LG
open PySem PySem.Spec PyProof.Rows L2 LamX
theorem g_lawT {P : Program} {w : World} {K : PySem.W.Frag} {mg mb : Str → Option Value} {k : Nat} {fa a : Addr} {cs : List (Addr × Addr)} {fd : FuncData} {x : Str} {sp : Sp} {z : Shared} {vs : List Value} {ns : List Int}
    (inK : K.In z.heap) (gl : z.heap.Ns mainGlobals mg) (bl : z.heap.Ns builtinsNs mb) (boot : ∀ x : Str, x ≠ "__name__" → mb x = bootBuiltins x) (nolim : z.heap.NoLimit) (nogen : z.gens = #[])
    (tab : ∀ p ∈ cs, z.heap.get? p.2 = some { cls := .none, data := .fields #[] }) (tabK : ∀ p ∈ cs, K.lookup p.2 = none) (hd : ∀ p ∈ cs, PySem.W.CodeHd z.heap p.1 p.2)
    (bmod : ∃ (bm : Addr) (ob : Obj), mg "__builtins__" = some (.ref bm) ∧ bm ≠ builtinsNs ∧ z.heap.get? bm = some ob ∧ ob.cls = .type "module" ∧ ob.dict = some builtinsNs ∧ ob.data = .plain)
    (at_ : z.heap.get? a = some { cls := .type "list", data := .seq vs.toArray }) (isInts : IntsAre vs ns) (fits : ns.length ≤ sizeLine) (hr : Room k callerA)
    (F : ∀ base : Heap, K.In base → base.Ns mainGlobals mg → (∀ p ∈ cs, TabB base mg p.1 p.2) → GnOk P w K mg base k fa fd [x] sp) (binds : ∀ (s : Shared) (u : Value), BindsTo s fd ⟨[u], []⟩ [(x, u)])
    (told : ∀ H : Hp, (∀ p ∈ cs, H p.2 = some (.tbl #[])) → SqL K H a (ns.map V.int) → sp [.ref a] H (fun v _ => v = .bl true) E0) :
    codeAny (model P w) callerA (.call (.ref fa) ⟨[.ref a], []⟩) (fun r s' => r = .ok (.ret (.bool true)) ∧ OldK z.heap s'.heap ∧ s'.os = z.os ∧ AllBare s'.gens) z := by
  have vals := vals_ints isInts
  have many := isInts.length
  let T : Addr → Prop := fun b => ∃ p ∈ cs, p.2 = b
  have tabT : ∀ b, T b → z.heap.get? b = some { cls := .none, data := .fields #[] } := by
    rintro b ⟨p, hp, rfl⟩
    exact tab p hp
  have aT : ¬ T a := fun q => by
    have e := tabT a q
    rw [at_] at e
    exact nomatch (show Data.seq vs.toArray _ = Data.fields #[] from congrArg Obj.data (Option.some.inj e))
  have go : ∀ H : Hp, (∀ p ∈ cs, H p.2 = some (.tbl #[])) → (∀ b, H b = none ∨ T b ∨ ∃ o xs, H b = some (.frz o (.lst xs))) → SqL K H a (ns.map V.int) → HOk P w H z.heap → (∀ b, H b ≠ none → b = a ∨ T b) → (H a ≠ none → K.lookup a = none) →
      codeAny (model P w) callerA (.call (.ref fa) ⟨[.ref a], []⟩) (fun r s' => r = .ok (.ret (.bool true)) ∧ OldK z.heap s'.heap ∧ s'.os = z.os ∧ AllBare s'.gens) z := by
    intro H isT kinds seq hok just notK
    have out : ∀ {b : Addr} {o : Obj}, z.heap.get? b = some o → (∀ us n, o.data ≠ .seq us n) → o.data ≠ .fields #[] → H b = none := by
      intro b o e n1 n2
      cases q : H b with
      | none => rfl
      | some u =>
        rcases just b (by rw [q]; exact fun t => nomatch t) with r | r
        · rw [r, at_] at e
          cases e
          exact (n1 _ _ rfl).elim
        · rw [tabT b r] at e
          cases e
          exact (n2 rfl).elim
    have outD : ∀ {b : Addr} {o : Obj} {es : Array DictEntry} {ep : Nat}, z.heap.get? b = some o → o.data = .dict es ep → H b = none := by
      intro b o es ep e d
      exact out e (fun us n q => by rw [d] at q; cases q) (fun q => by rw [d] at q; cases q)
    have nsH : ∀ {b : Addr} {m : Str → Option Value}, z.heap.Ns b m → (hidT z.heap H).Ns b m := by
      rintro b m ⟨o, es, ep, e, d, r⟩
      exact ⟨o, es, ep, hidT_get e (outD e d), d, r⟩
    have inH : K.In (hidT z.heap H) := by
      intro b o e
      refine hidT_get (inK b o e) ?_
      cases q : H b with
      | none => rfl
      | some u =>
        have some_ : H b ≠ none := by rw [q]; exact fun t => nomatch t
        rcases just b some_ with r | ⟨p, hp, r⟩
        · rw [r] at e some_
          rw [notK some_] at e
          cases e
        · rw [← r, tabK p hp] at e
          cases e
    have M : Mod K mg (hidT z.heap H) := ⟨inH, nsH gl, ⟨mb, nsH bl, boot⟩, by
      obtain ⟨mc, n1, n2⟩ := nolim
      exact ⟨mc, nsH n1, n2⟩⟩
    have tabB : ∀ p ∈ cs, TabB (hidT z.heap H) mg p.1 p.2 := by
      intro p hp
      refine ⟨?_, ?_, fun same => ?_⟩
      · obtain ⟨o, us, file, tf, flags, tg, inF, text, tt, e1, r1, r2, r3, r4, r5, r6, r7, r8, ne⟩ := hd p hp
        refine ⟨o, us, file, tf, flags, tg, inF, text, tt, hidT_get e1 (out e1 (fun us n q => ?_) fun q => ?_), r1, r2, r3, r4, r5, r6, r7, r8, ne⟩
        · rw [r2] at q
          cases q
        · rw [r2] at q
          cases q
          simp at r3
      · obtain ⟨bm, ob, b1, b2, b3, b4, b5, b6⟩ := bmod
        have n1 : bm ≠ mainGlobals := fun q => by
          obtain ⟨o, es, ep, e, d, _⟩ := gl
          rw [q, e] at b3
          cases b3
          rw [d] at b6
          cases b6
        have n2 : bm ≠ p.2 := fun q => by
          rw [q, tab p hp] at b3
          cases b3
          cases b6
        refine ⟨bm, ob, b1, b2, n1, n2, hidT_get b3 (out b3 (fun us n q => ?_) fun q => ?_), b4, b5, b6⟩
        · rw [b6] at q
          cases q
        · rw [b6] at q
          cases q
      · obtain ⟨o, es, ep, e, d, _⟩ := gl
        rw [same, tab p hp] at e
        cases e
        cases d
    have e0 : Env0 P w K mg (hidT z.heap H) callerA [] z H :=
      ⟨rfl, M, fun b o e => of_hidT e, Nat.le_of_eq (hidT_size _ _), trivial, fun b hb => absurd hb (by simp [frs]), hok, .of_eq nogen⟩
    refine codeAny_mono ((F _ inH (nsH gl) tabB).goes callerA [] z H ⟨[.ref a], []⟩ [.ref a] [.ref a] _ rfl hr e0 (binds z (.ref a)) (.cons rfl .nil) (told H isT seq)) fun r s' h => ?_
    match r, h with
    | .error _, h => exact h.elim
    | .ok .next, h => exact h.elim
    | .ok .brk, h => exact h.elim
    | .ok .cont, h => exact h.elim
    | .ok (.ret u), h =>
      obtain ⟨v, H', os, bare, un, hok', r', q⟩ := h
      have q' : v = .bl true := q
      subst q'
      have r2 : u = Value.bool true := r'
      subst r2
      have stay : ∀ b o, ¬ T b → z.heap.get? b = some o → s'.heap.get? b = some o := by
        intro b o nb e
        cases q : H b with
        | none => exact un.keep b o e q (by simp [frs]) (by simp)
        | some u =>
          rcases kinds b with t | t | ⟨ob, xs, t⟩
          · rw [q] at t
            cases t
          · exact absurd t nb
          · obtain ⟨e1, _⟩ := hok b _ t
            obtain ⟨e2, _⟩ := hok' b _ (un.frzs b ob _ t)
            rw [e] at e1
            cases e1
            exact e2
      have grow : ∀ p ∈ cs, ∃ more : Array Value, s'.heap.get? p.2 = some { cls := .none, data := .fields more } := by
        intro p hp
        obtain ⟨more, t⟩ := un.tbls p.2 #[] (isT p hp)
        exact ⟨_, hok' p.2 _ t⟩
      refine ⟨rfl, ⟨fun b o e => ?_, fun b o e => ?_⟩, os, bare⟩
      · rcases Classical.em (T b) with t | t
        · obtain ⟨p, hp, rfl⟩ := t
          obtain ⟨more, m⟩ := grow p hp
          rw [tab p hp] at e
          cases e
          exact .inr (.inl ⟨((hd p hp).tab (tab p hp)).isCodeTable, rfl, #[], more, rfl, by rw [Array.empty_append]; exact m⟩)
        · exact .inl (stay b o t e)
      · rcases Classical.em (T b) with t | t
        · obtain ⟨p, hp, rfl⟩ := t
          obtain ⟨more, m⟩ := grow p hp
          exact ⟨_, m⟩
        · exact ⟨o, stay b o t e⟩
  classical
  cases hk : K.lookup a with
  | some o =>
    have e := inK a o hk
    rw [at_] at e
    cases e
    have hT : ∀ b, (if T b then some (HO.tbl #[]) else none) = none ∨ T b := fun b => if c : T b then .inr c else .inl (if_neg c)
    refine go (fun b => if T b then some (.tbl #[]) else none) (fun p hp => if_pos ⟨p, hp, rfl⟩) (fun b => (hT b).elim .inl fun t => .inr (.inl t)) (.inr ⟨_, vs.toArray, _, hk, rfl, rfl, rfl, ?_, ?_⟩) (fun b u t => ?_) (fun b t => ?_) fun t => absurd (if_neg aT) t
    · rw [List.size_toArray, many]
      exact fits
    · simpa using vals
    · by_cases c : T b
      · have t' := (if_pos c).symm.trans t
        cases t'
        exact tabT b c
      · exact nomatch (if_neg c).symm.trans t
    · exact (hT b).elim (fun q => absurd q t) .inr
  | none =>
    refine go (fun b => if b = a then some (.frz { cls := .type "list", data := .seq vs.toArray } (.lst (ns.map V.int))) else if T b then some (.tbl #[]) else none) (fun p hp => ?_) (fun b => ?_) (.inl (.inr ⟨_, if_pos rfl⟩)) (fun b u t => ?_) (fun b t => ?_) fun _ => hk
    · have ne : ¬ p.2 = a := fun q => aT ⟨p, hp, q⟩
      exact (if_neg ne).trans (if_pos ⟨p, hp, rfl⟩)
    · by_cases c : b = a
      · exact .inr (.inr ⟨_, _, if_pos c⟩)
      · by_cases c2 : T b
        · exact .inr (.inl c2)
        · exact .inl ((if_neg c).trans (if_neg c2))
    · by_cases c : b = a
      · have t' := (if_pos c).symm.trans t
        cases t'
        rw [c]
        exact ⟨at_, by rw [List.length_map]; exact fits, vs, _, vals, at_⟩
      · have t1 := (if_neg c).symm.trans t
        by_cases c2 : T b
        · have t' := (if_pos c2).symm.trans t1
          cases t'
          exact tabT b c2
        · exact nomatch (if_neg c2).symm.trans t1
    · by_cases c : b = a
      · exact .inl c
      · by_cases c2 : T b
        · exact .inr c2
        · exact absurd ((if_neg c).trans (if_neg c2)) t
/-- what is known of the law at the head's heap -/
def GLawAt (l : PySem.W.OpenLaw) (w : World) (K : PySem.W.Frag) (k : Nat) (x : Str) (mg : Str → Option Value) (fa : Addr) (h : Heap) : Prop :=
  ∃ (fd : FuncData) (cs : List (Addr × Addr)) (sp : Sp), (∀ p ∈ cs, h.get? p.2 = some { cls := .none, data := .fields #[] }) ∧ (∀ p ∈ cs, K.lookup p.2 = none) ∧ (∀ p ∈ cs, PySem.W.CodeHd h p.1 p.2) ∧ (∀ (s : Shared) (u : Value), BindsTo s fd ⟨[u], []⟩ [(x, u)]) ∧
    (∀ (H : Hp) (a : Addr) (ns : List Int), ns.length ≤ 63 → (∀ p ∈ cs, H p.2 = some (.tbl #[])) → SqL K H a (ns.map V.int) → sp [.ref a] H (fun v _ => v = .bl true) E0) ∧
    ∀ base : Heap, K.In base → base.Ns mainGlobals mg → (∀ p ∈ cs, TabB base mg p.1 p.2) → GnOk l.prog w K mg base k fa fd [x] sp
theorem g_walkT {l : PySem.W.OpenLaw} {k : Nat} {q : Program} {loose : List Str} {XP : (Str → Option Value) → Heap → Prop} {YP : World → Heap → Prop} {d : DefRec} {K : Params → PySem.W.Frag} {x : Str}
    (most : l.most = some 63) (nodef : d.params.defaults = []) (hr : Room k callerA) (inK : ∀ (w : World) (h : Heap), YP w h → (K w.params).In h)
    (F : ∀ (w : World) (mg : Str → Option Value) (fa : Addr) (h : Heap), YP w h → (K w.params).In h → h.Ns mainGlobals mg → mg d.name = some (.ref fa) → GLawAt l w (K w.params) k x mg fa h) :
    PySem.W.WalkO q loose XP YP l.row.toRowW d [] (fun f vs => PySem.call f vs) := by
  refine Att.attach_call most nodef fun w s₀ s₁ mg mb fa o pm cd doc a vs ns G Y ho hd hcd hmg hobj hints hlen hg => ?_
  have KX := inK w _ Y
  obtain ⟨fd, cs, sp, hT, nT, C, hb, hsp, hF⟩ := F w mg fa _ Y KX G.T.g hmg
  exact g_lawT KX G.T.g G.T.b G.T.builtins G.T.nolimit hg hT nT C G.T.bmain hobj hints (Nat.le_trans hlen (by decide)) hr hF hb fun H hH hS => hsp H a ns hlen hH hS
end LG
set_option Elab.async false
set_option linter.all false
set_option maxRecDepth 100000
set_option maxHeartbeats 1000000
namespace LG
open PySem PySem.Spec PyProof.Rows L2
/-! ### data that are small: their text fits -/
mutual
def small : Nat → PyData → Bool
  | _, .none => true
  | _, .bool _ => true
  | _, .int i => decide (i.natAbs < 10 ^ 12)
  | _, .str x => decide (x.length ≤ 40) && x.cps.toList.all fun c => decide (c < 16 ^ 8)
  | 0, .list _ => false
  | 0, .tuple _ => false
  | n + 1, .list xs => decide (xs.length ≤ 25) && smalls n xs
  | n + 1, .tuple xs => decide (xs.length ≤ 25) && smalls n xs
  | _, .dict kvs => smallKv kvs && decide (kvs.length ≤ 2)
def smalls : Nat → List PyData → Bool
  | _, [] => true
  | n, d :: ds => small n d && smalls n ds
def smallKv : List (PyData × PyData) → Bool
  | [] => true
  | (k, v) :: r => (match k with | .str x => decide (x.length ≤ 40) && x.cps.toList.all fun c => decide (c < 16 ^ 8) | _ => false) && (match v with | .int i => decide (i.natAbs < 10 ^ 12) | _ => false) && smallKv r
end
def signs : Nat → Nat
  | 0 => 1000
  | n + 1 => 25 * (signs n + 2) + 1000
theorem signs_ge (n : Nat) : 1000 ≤ signs n := by
  cases n with
  | zero => exact Nat.le_refl _
  | succ n => exact Nat.le_add_left _ _
theorem log2_small {i : Int} (h : i.natAbs < 10 ^ 12) : i.natAbs.log2 < 1920 := by
  by_cases z : i.natAbs = 0
  · rw [z]
    decide
  · have h2 := Nat.log2_lt z (k := 1920)
    refine h2.mpr (Nat.lt_trans h ?_)
    decide +kernel
theorem text_small {x : Str} (h : (decide (x.length ≤ 40) && x.cps.toList.all fun c => decide (c < 16 ^ 8)) = true) : (reprText x).length ≤ 410 := by
  rw [Bool.and_eq_true, decide_eq_true_eq, List.all_eq_true] at h
  have h2 := PySem.StrLaws.reprText_len x fun c hc => of_decide_eq_true (h.2 c hc)
  omega
theorem int_small {i : Int} (h : i.natAbs < 10 ^ 12) : (Str.ofString (toString i)).length ≤ 13 := by
  have h1 := int_text_length_le10 (a := i) (k := 12) (by decide) h
  rw [PySem.ofString_length]
  exact h1
theorem join_le {sep : Str} (hs : sep.length = 2) : ∀ {ts : List Str} {m : Nat}, (∀ t ∈ ts, t.length ≤ m) → (Str.join sep ts).length ≤ ts.length * (m + 2)
  | [], _, _ => by
    show (Str.empty).length ≤ _
    exact Nat.zero_le _
  | [x], m, h => by
    have h1 := h x (List.mem_singleton.mpr rfl)
    show x.length ≤ _
    simp only [List.length_cons, List.length_nil]
    omega
  | x :: y :: r, m, h => by
    have h1 := h x List.mem_cons_self
    have ih := join_le hs (ts := y :: r) (m := m) fun t ht => h t (List.mem_cons_of_mem _ ht)
    have e : Str.join sep (x :: y :: r) = x ++ sep ++ Str.join sep (y :: r) := rfl
    rw [e, strLen_append, strLen_append, hs]
    simp only [List.length_cons] at ih ⊢
    have e2 : (r.length + 1 + 1) * (m + 2) = (r.length + 1) * (m + 2) + (m + 2) := Nat.succ_mul _ _
    omega

theorem str_len (x : String) : (Str.ofString x).length = x.length := PySem.ofString_length x
theorem list_le {ts : List Str} {m : Nat} (h : ∀ t ∈ ts, t.length ≤ m) (hl : ts.length ≤ 25) : (listText ts).length ≤ 25 * (m + 2) + 2 := by
  rw [listText_eq_join, strLen_append, strLen_append]
  have h1 := join_le (sep := ", ") (by decide +kernel) h
  have e1 : ("[" : Str).length = 1 := by decide +kernel
  have e2 : ("]" : Str).length = 1 := by decide +kernel
  have h2 := Nat.mul_le_mul_right (m + 2) hl
  omega
theorem tuple_le {ts : List Str} {m : Nat} (h : ∀ t ∈ ts, t.length ≤ m) (hl : ts.length ≤ 25) : (tupleText ts).length ≤ 25 * (m + 2) + 3 := by
  unfold tupleText
  rw [strLen_append, strLen_append]
  have h1 := join_le (sep := ", ") (by decide +kernel) h
  have e1 : ("(" : Str).length = 1 := by decide +kernel
  have e2 : (Str.ofString (if (ts.length == 1) = true then ",)" else ")" : String)).length ≤ 2 := by
    split <;> decide +kernel
  have h2 := Nat.mul_le_mul_right (m + 2) hl
  omega
theorem dict_le {ts : List Str} {m : Nat} (h : ∀ t ∈ ts, t.length ≤ m) (hl : ts.length ≤ 2) : (dictText ts).length ≤ 2 * (m + 2) + 2 := by
  unfold dictText
  rw [strLen_append, strLen_append]
  have h1 := join_le (sep := ", ") (by decide +kernel) h
  have e1 : ("{" : Str).length = 1 := by decide +kernel
  have e2 : ("}" : Str).length = 1 := by decide +kernel
  have h2 := Nat.mul_le_mul_right (m + 2) hl
  omega
theorem shownAll_length : ∀ xs : List PyData, (PyData.shownAll xs).length = xs.length
  | [] => rfl
  | x :: xs => by
    simp only [PyData.shownAll, List.length_cons, shownAll_length xs]
theorem shownKv_length : ∀ xs : List (PyData × PyData), (PyData.shownKv xs).length = xs.length
  | [] => rfl
  | (k, v) :: xs => by
    simp only [PyData.shownKv, List.length_cons, shownKv_length xs]
theorem smallKv_shown : ∀ kvs : List (PyData × PyData), smallKv kvs = true → ∀ t ∈ PyData.shownKv kvs, t.length ≤ 430
  | [], _, t, ht => by
    simp only [PyData.shownKv] at ht
    cases ht
  | (k, v) :: r, h, t, ht => by
    simp only [smallKv, Bool.and_eq_true] at h
    obtain ⟨⟨h1, h2⟩, h3⟩ := h
    simp only [PyData.shownKv, List.mem_cons] at ht
    rcases ht with rfl | ht
    · cases k with
      | str x =>
        cases v with
        | int i =>
          have a1 := text_small (x := x) h1
          have a2 := int_small (i := i) (of_decide_eq_true h2)
          have e : (": " : Str).length = 2 := by decide +kernel
          simp only [PyData.shown]
          rw [strLen_append, strLen_append, e]
          omega
        | _ => cases h2
      | _ => cases h1
    · exact smallKv_shown r h3 t ht
mutual
theorem small_shown : ∀ (n : Nat) (d : PyData), small n d = true → d.shown.length ≤ signs n
  | n, .none, _ => by
    simp only [PyData.shown]
    have := signs_ge n
    have e : ("None" : Str).length = 4 := by decide +kernel
    omega
  | n, .bool b, _ => by
    simp only [PyData.shown]
    have := signs_ge n
    have e1 : (Str.ofString "True").length = 4 := by decide +kernel
    have e2 : (Str.ofString "False").length = 5 := by decide +kernel
    cases b
    · rw [if_neg (by decide)]
      omega
    · rw [if_pos rfl]
      omega
  | n, .int i, h => by
    have := signs_ge n
    have h' := int_small (i := i) (by
      simp only [small] at h
      exact of_decide_eq_true h)
    simp only [PyData.shown]
    omega
  | n, .str x, h => by
    have := signs_ge n
    have h' := text_small (x := x) (by
      simp only [small] at h
      exact h)
    simp only [PyData.shown]
    omega
  | 0, .list xs, h => by
    simp only [small] at h
    cases h
  | 0, .tuple xs, h => by
    simp only [small] at h
    cases h
  | n + 1, .list xs, h => by
    simp only [small, Bool.and_eq_true, decide_eq_true_eq] at h
    have h1 := list_le (small_shownAll n xs h.2) (by rw [shownAll_length]; exact h.1)
    simp only [PyData.shown, signs]
    omega
  | n + 1, .tuple xs, h => by
    simp only [small, Bool.and_eq_true, decide_eq_true_eq] at h
    have h1 := tuple_le (small_shownAll n xs h.2) (by rw [shownAll_length]; exact h.1)
    simp only [PyData.shown, signs]
    omega
  | n, .dict kvs, h => by
    have := signs_ge n
    have h : smallKv kvs = true ∧ kvs.length ≤ 2 := by
      cases n <;> (simp only [small, Bool.and_eq_true, decide_eq_true_eq] at h; exact h)
    have h1 := dict_le (m := 430) (smallKv_shown kvs h.1) (by rw [shownKv_length]; exact h.2)
    simp only [PyData.shown]
    omega
theorem small_shownAll : ∀ (n : Nat) (ds : List PyData), smalls n ds = true → ∀ t ∈ PyData.shownAll ds, t.length ≤ signs n
  | n, [], _, t, ht => by
    simp only [PyData.shownAll] at ht
    cases ht
  | n, d :: ds, h, t, ht => by
    simp only [smalls, Bool.and_eq_true] at h
    simp only [PyData.shownAll, List.mem_cons] at ht
    rcases ht with rfl | ht
    · exact small_shown n d h.1
    · exact small_shownAll n ds h.2 t ht
end
end LG
set_option Elab.async false
set_option linter.all false
set_option maxRecDepth 100000
set_option maxHeartbeats 1000000
namespace LG
open PySem PySem.Spec PyProof.Rows L2
mutual
theorem small_showable : ∀ (n : Nat) (d : PyData), small n d = true → d.showable = true
  | n, .none, _ => by simp only [PyData.showable]
  | n, .bool b, _ => by simp only [PyData.showable]
  | n, .int i, h => by
    simp only [small, decide_eq_true_eq] at h
    simp only [PyData.showable, decide_eq_true_eq]
    exact log2_small h
  | n, .str x, h => by simp only [PyData.showable]
  | 0, .list xs, h => by
    simp only [small] at h
    cases h
  | 0, .tuple xs, h => by
    simp only [small] at h
    cases h
  | n + 1, .list xs, h => by
    simp only [small, Bool.and_eq_true, decide_eq_true_eq] at h
    simp only [PyData.showable]
    exact smalls_showable n xs h.2
  | n + 1, .tuple xs, h => by
    simp only [small, Bool.and_eq_true, decide_eq_true_eq] at h
    simp only [PyData.showable]
    exact smalls_showable n xs h.2
  | n, .dict kvs, h => by
    have h : smallKv kvs = true ∧ kvs.length ≤ 2 := by
      cases n <;> (simp only [small, Bool.and_eq_true, decide_eq_true_eq] at h; exact h)
    simp only [PyData.showable]
    exact smallKv_showable kvs h.1
theorem smalls_showable : ∀ (n : Nat) (ds : List PyData), smalls n ds = true → PyData.showableAll ds = true
  | n, [], _ => by simp only [PyData.showableAll]
  | n, d :: ds, h => by
    simp only [smalls, Bool.and_eq_true] at h
    simp only [PyData.showableAll, small_showable n d h.1, smalls_showable n ds h.2, Bool.and_self]
theorem smallKv_showable : ∀ kvs : List (PyData × PyData), smallKv kvs = true → PyData.showableKv kvs = true
  | [], _ => by simp only [PyData.showableKv]
  | (k, v) :: r, h => by
    simp only [smallKv, Bool.and_eq_true] at h
    obtain ⟨⟨h1, h2⟩, h3⟩ := h
    cases k with
    | str x =>
      cases v with
      | int i =>
        have a2 := log2_small (i := i) (of_decide_eq_true h2)
        simp only [PyData.showableKv, PyData.showable, smallKv_showable r h3, decide_eq_true a2, Bool.and_self]
      | _ => cases h2
    | _ => cases h1
end
mutual
theorem small_depth : ∀ (n : Nat) (d : PyData), small n d = true → d.depth ≤ n + 1
  | n, .none, _ => by simp only [PyData.depth]; omega
  | n, .bool b, _ => by simp only [PyData.depth]; omega
  | n, .int i, h => by simp only [PyData.depth]; omega
  | n, .str x, h => by simp only [PyData.depth]; omega
  | 0, .list xs, h => by
    simp only [small] at h
    cases h
  | 0, .tuple xs, h => by
    simp only [small] at h
    cases h
  | n + 1, .list xs, h => by
    simp only [small, Bool.and_eq_true, decide_eq_true_eq] at h
    simp only [PyData.depth]
    have := smalls_depth n xs h.2
    omega
  | n + 1, .tuple xs, h => by
    simp only [small, Bool.and_eq_true, decide_eq_true_eq] at h
    simp only [PyData.depth]
    have := smalls_depth n xs h.2
    omega
  | n, .dict kvs, h => by
    have h : smallKv kvs = true ∧ kvs.length ≤ 2 := by
      cases n <;> (simp only [small, Bool.and_eq_true, decide_eq_true_eq] at h; exact h)
    simp only [PyData.depth]
    have := smallKv_depth kvs h.1
    omega
theorem smalls_depth : ∀ (n : Nat) (ds : List PyData), smalls n ds = true → PyData.depthAll ds ≤ n + 1
  | n, [], _ => by simp only [PyData.depthAll]; omega
  | n, d :: ds, h => by
    simp only [smalls, Bool.and_eq_true] at h
    simp only [PyData.depthAll]
    have := small_depth n d h.1
    have := smalls_depth n ds h.2
    omega
theorem smallKv_depth : ∀ kvs : List (PyData × PyData), smallKv kvs = true → PyData.depthKv kvs = 0
  | [], _ => by simp only [PyData.depthKv]
  | (k, v) :: r, h => by
    simp only [smallKv, Bool.and_eq_true] at h
    obtain ⟨⟨h1, h2⟩, h3⟩ := h
    cases k with
    | str x =>
      cases v with
      | int i => simp only [PyData.depthKv, PyData.depth, smallKv_depth r h3]; omega
      | _ => cases h2
    | _ => cases h1
end
mutual
theorem noDict {K : PySem.W.Frag} {H : Hp} : ∀ (d : PyData) (v : V), Dp K H v d → d.hasDict = false
  | .none, _, _ => by simp only [PyData.hasDict]
  | .bool _, _, _ => by simp only [PyData.hasDict]
  | .int _, _, _ => by simp only [PyData.hasDict]
  | .str _, _, _ => by simp only [PyData.hasDict]
  | .list ds, _, h => by
    cases h with
    | lst _ ha =>
      simp only [PyData.hasDict]
      exact noDicts ds _ ha
  | .tuple ds, _, h => by
    cases h with
    | tup _ ha =>
      simp only [PyData.hasDict]
      exact noDicts ds _ ha
  | .dict _, _, h => by cases h
theorem noDicts {K : PySem.W.Frag} {H : Hp} : ∀ (ds : List PyData) (vs : List V), DpAll K H vs ds → PyData.hasDictAll ds = false
  | [], _, _ => by simp only [PyData.hasDictAll]
  | d :: ds, _, h => by
    cases h with
    | cons h1 h2 => simp only [PyData.hasDictAll, noDict d _ h1, noDicts ds _ h2, Bool.or_self]
end
theorem same_tup {K : PySem.W.Frag} {H H' : Hp} {a : Addr} {xs : List V} (e : Same H H') (h : SqT K H a xs) : SqT K H' a xs := by
  rcases h with (h | ⟨o, h⟩) | h
  · exact .inl (.inl (e _ _ h))
  · exact .inl (.inr ⟨o, e _ _ h⟩)
  · exact .inr h
mutual
theorem Dp_same {K : PySem.W.Frag} {H H' : Hp} (e : Same H H') : ∀ (d : PyData) (v : V), Dp K H v d → Dp K H' v d
  | .none, _, h => by cases h; exact .non
  | .bool b, _, h => by cases h; exact .bl b
  | .int i, _, h => by cases h; exact .int i
  | .str x, _, h => by cases h; exact .str x
  | .list ds, _, h => by
    cases h with
    | lst hs ha => exact .lst (e.seq hs) (DpAll_same e ds _ ha)
  | .tuple ds, _, h => by
    cases h with
    | tup hs ha => exact .tup (same_tup e hs) (DpAll_same e ds _ ha)
  | .dict _, _, h => by cases h
theorem DpAll_same {K : PySem.W.Frag} {H H' : Hp} (e : Same H H') : ∀ (ds : List PyData) (vs : List V), DpAll K H vs ds → DpAll K H' vs ds
  | [], _, h => by cases h; exact .nil
  | d :: ds, _, h => by
    cases h with
    | cons h1 h2 => exact .cons (Dp_same e d _ h1) (DpAll_same e ds _ h2)
end
/-! ### data, or a dict of flat data -/
def keyD : Key → PyData
  | .inl i => .int i
  | .inr x => .str x
inductive PairsS : List (Key × V) → List (PyData × PyData) → Prop
  | nil : PairsS [] []
  | int {k : Key} {i : Int} {r : List (Key × V)} {D : List (PyData × PyData)} : PairsS r D → PairsS ((k, .int i) :: r) ((keyD k, .int i) :: D)
inductive Dx (K : PySem.W.Frag) (H : Hp) : V → PyData → Prop
  | flat {v : V} {d : PyData} : Dp K H v d → Dx K H v d
  | dct {a : Addr} {kvs : List (Key × V)} {D : List (PyData × PyData)} : H a = some (.dK kvs) → PairsS kvs D → Dx K H (.ref a) (.dict D)
theorem Dx_same {K : PySem.W.Frag} {H H' : Hp} (e : Same H H') {d : PyData} {v : V} (h : Dx K H v d) : Dx K H' v d := by
  cases h with
  | flat h => exact .flat (Dp_same e _ _ h)
  | dct h p => exact .dct (e _ _ h) p
theorem pairs_read {h : Heap} {kvs : List (Key × V)} {D : List (PyData × PyData)} {vs : List (Key × Value)} (p : PairsS kvs D) : KV kvs vs → PyProof.V.PairsRead h keyD vs D [] := by
  induction p generalizing vs with
  | nil =>
    intro r
    cases r
    exact .nil
  | int p ih =>
    intro r
    cases r with
    | @cons _ q _ r' r1 r2 =>
      obtain ⟨k', v'⟩ := q
      obtain ⟨e1, t, e2⟩ := r1
      subst e1
      subst e2
      exact .cons (.int _ _) (ih r2)
section
variable {X : Cx} {pins : List (Addr × Obj)} {σ : L2.St} {H : Hp} {s : Shared}
theorem Dx_reads (I : Inv X pins σ H s) {d : PyData} {v : V} {u : Value} (h : Dx X.K H v d) (r : RelV v u) : ∃ as, Reads s.heap u d as ∧ (d.hasDict = true → sysModules ∉ as) := by
  cases h with
  | flat h =>
    obtain ⟨as, q⟩ := Dp.reads I d v u h r
    exact ⟨as, q, PyData.noDict_hsm (noDict d v h)⟩
  | @dct a kvs D hd p =>
    have e : u = Value.ref a := r
    subst e
    obtain ⟨_, hne, vs, rk, D0⟩ := (show ObjOk X.prog X.w H s.heap a (.dK kvs) from I.hok a _ hd)
    refine ⟨_, PyProof.V.reads_dictOf (enc := keyD) (fun k key hk => ?_) D0 (pairs_read p rk), fun _ hm => ?_⟩
    · rcases keyIs_shape hk with ⟨i, t, rfl, rfl⟩ | ⟨x, t, rfl, rfl⟩
      · exact .int i t
      · exact .str x t
    · have z : sysModules = a := by simpa using hm
      rw [z] at hne
      simp at hne
/-- repr(x), x data that are small -/
def rRepr (K : PySem.W.Frag) : List V → Hp → VK → Prop := fun xs H Q => ∃ (v : V) (d : PyData) (n : Nat), xs = [v] ∧ Dx K H v d ∧ n ≤ 40 ∧ small n d = true ∧ signs n ≤ sizeLine ∧ Q (.str d.shown) H
end
section
variable {X : Cx}
theorem call_repr (hg : X.A.guards = some []) (hu : X.A.units + 64 < cLine) : CallR X (.builtin "repr") (rRepr X.K) := by
  intro pins s σ H xs us Q I r h
  obtain ⟨v, d, n, rfl, hd, hn, hs, hz, q⟩ := h
  obtain ⟨u, rfl, ru⟩ := vals1 r
  have fits := Nat.le_trans (small_shown n d hs) hz
  have deep := small_depth n d hs
  have show_ := small_showable n d hs
  obtain ⟨as, rd, sm⟩ := Dx_reads I hd ru
  cases rd with
  | none => exact PySem.P.repr_of_none ⟨.str _, H, I.tok _, ⟨_, rfl⟩, q⟩
  | bool b => 
    refine PySem.P.repr_of_bool ⟨.str _, H, I.tok _, ⟨_, rfl⟩, ?_⟩
    cases b <;> exact q
  | int i t => exact PySem.P.repr_of_int (of_decide_eq_true (by simpa only [PyData.showable] using show_)) ⟨.str _, H, I.tok _, ⟨_, rfl⟩, q⟩
  | str x t => exact PySem.P.repr_of_str ⟨.str _, H, I.tok _, ⟨_, rfl⟩, q⟩ fits
  | list a1 a2 a3 a4 => exact repr_of_reads' (.list a1 a2 a3 a4) show_ sm hg (by omega) (fun _ _ e => e) (fun h' w tk k => ⟨.str _, H, I.kept (t' := tk) k, ⟨w, rfl⟩, q⟩) fits
  | tuple a1 a2 a3 a4 => exact repr_of_reads' (.tuple a1 a2 a3 a4) show_ sm hg (by omega) (fun _ _ e => e) (fun h' w tk k => ⟨.str _, H, I.kept (t' := tk) k, ⟨w, rfl⟩, q⟩) fits
  | dict a1 a2 a3 a4 a5 => exact repr_of_reads' (.dict a1 a2 a3 a4 a5) show_ sm hg (by omega) (fun _ _ e => e) (fun h' w tk k => ⟨.str _, H, I.kept (t' := tk) k, ⟨w, rfl⟩, q⟩) fits
/-! ### powers -/
theorem op_powB : OpR X (binaryOp .Pow) (rI (fun i j => 0 ≤ j ∧ (Builtin.Int.intBits i : Int) * j ≤ 2 ^ 27) fun i j => .int (i ^ j.toNat)) := opI fun _ _ _ _ _ _ _ hc q => pow_int hc.1 hc.2 q
end
end LG
set_option Elab.async false
set_option linter.all false
set_option maxRecDepth 100000
set_option maxHeartbeats 1000000
namespace LG
open PySem PySem.Spec PyProof.Rows L2
section
variable {prog : Program} {w : World} {A : Around} {E : Value → Shared → Prop} {s : Shared}
theorem applied_back {sl : Addr} {n : Nat} {t : Tok} {Q : Int × Int × Nat → Shared → Prop} (hs : s.heap.IsSliceOf sl .none .none (.int (-1) t)) (h : Q ((n : Int) - 1, -1, n) s) :
    wpAny (model prog w) A (Builtin.Slice.sliceApplied (.ref sl) (pure (n : Int))) Q E s := by
  obtain ⟨os, hos, hcs, hds⟩ := id hs
  unfold Builtin.Slice.sliceApplied Builtin.Slice.sliceFields
  refine wpAny_bind (wpAny_bind (wpAny_field hos hds (x := .none) rfl (wpAny_bind (wpAny_field hos hds (x := .none) rfl (wpAny_bind (wpAny_field hos hds (x := .int (-1) t) rfl (wpAny_pure ?_)))))))
  refine wpAny_bind (slicePart_int ?_)
  show wpAny _ _ (if ((-1 : Int) == 0) = true then _ else _) _ _ s
  rw [if_neg (by decide)]
  refine wpAny_bind (slicePart_none (wpAny_bind (slicePart_none (wpAny_bind (wpAny_pure ?_)))))
  have e1 : Builtin.Slice.sliceAdjust none none (-1) (n : Int) = ((n : Int) - 1, -1) := rfl
  have e2 : Builtin.Slice.slicePlaces ((n : Int) - 1) (-1) (-1) = n := by
    unfold Builtin.Slice.slicePlaces
    rw [if_neg (by decide)]
    by_cases z : (n : Int) - 1 > -1
    · rw [if_pos z]
      have : ((n : Int) - 1 - -1 - 1) / (- -1) + 1 = n := by
        have e3 : (- -1 : Int) = 1 := by decide
        rw [e3, Int.ediv_one]
        omega
      rw [this]
      exact Int.toNat_natCast n
    · rw [if_neg z]
      omega
  show wpAny _ _ (match Builtin.Slice.sliceAdjust none none (-1) (n : Int) with | (lo, hi) => pure (lo, (-1 : Int), Builtin.Slice.slicePlaces lo hi (-1))) _ _ s
  rw [e1]
  show wpAny _ _ (pure ((n : Int) - 1, (-1 : Int), Builtin.Slice.slicePlaces ((n : Int) - 1) (-1) (-1))) _ _ s
  rw [e2]
  exact wpAny_pure h
theorem pick_back (xs : Array Value) : ((List.range xs.size).filterMap fun (k : Nat) => xs[((xs.size : Int) - 1 + (k : Int) * -1).toNat]?).toArray = xs.toList.reverse.toArray := by
  have e : (List.range xs.size).filterMap (fun (k : Nat) => xs[((xs.size : Int) - 1 + (k : Int) * -1).toNat]?) = ((List.range xs.size).map fun k => xs.size - 1 - k).filterMap (xs[·]?) := by
    rw [List.filterMap_map]
    have same : (fun (k : Nat) => xs[((xs.size : Int) - 1 + (k : Int) * -1).toNat]?) = ((xs[·]?) ∘ fun k => xs.size - 1 - k) := by
      funext k
      show _ = xs[xs.size - 1 - k]?
      have : ((xs.size : Int) - 1 + (k : Int) * -1).toNat = xs.size - 1 - k := by omega
      rw [this]
    rw [same]
  rw [e, PySem.W.krv_range, List.filterMap_reverse, PySem.W.krv_all]
theorem item_back {t sl : Addr} {items : Array Value} {tk : Tok} {Q : Value → Shared → Prop} (ht : IsTup s.heap t items) (hs : s.heap.IsSliceOf sl .none .none (.int (-1) tk)) (fits : items.size ≤ sizeLine)
    (h : Q (.ref s.heap.objs.size) { s with heap := s.heap.push { cls := .type "tuple", data := .seq items.toList.reverse.toArray } }) : wpAny (model prog w) A (getItem (.ref t) (.ref sl)) Q E s := by
  have fits2 : sizeOk (.seq items.toList.reverse.toArray) := by
    show items.toList.reverse.toArray.size ≤ sizeLine
    simpa using fits
  obtain ⟨os, hos, hcs, hds⟩ := id hs
  have isSlice : s.TypeIs (.ref sl) "slice" := ⟨os, hos, hcs⟩
  unfold getItem
  try with_reducible refine wpAny_holding ?_
  first | refine wpAny_bind (wpAny_pure ?_) | skip
  refine wpAny_bind (wpAny_sequenceKey ht.typeIs (by decide) ?_)
  refine wpAny_bind (wpAny_callSpecial?_slot (name := Str.ofString "__getitem__") ht.typeIs PyProof.Rows.slot_tuple_getitem
    (wpAny_call_entry PyProof.Rows.slot_tuple_getitem ht.typeIs entry_tuple_getitem ?_ (args_tuple_getitem _ _)))
  show wpAny _ _ (Builtin.Tuple.tupleItemsOf (.ref t) >>= _) _ _ s
  refine wpAny_bind (tupleItemsOf_ ht ?_)
  refine wpAny_bind (wpAny_typeOf isSlice ?_)
  rw [if_pos (by decide)]
  refine wpAny_bind (applied_back hs ?_)
  have no : ¬ ((((items.size : Int) - 1) == 0 && (-1 : Int) == 1 && items.size == items.size) = true) := by
    have : ((-1 : Int) == 1) = false := by decide
    rw [this]
    simp
  show wpAny _ _ (if (((items.size : Int) - 1) == 0 && (-1 : Int) == 1 && items.size == items.size) = true then _ else _) _ _ s
  rw [if_neg no, pick_back items]
  first
    | exact wpAny_bind (m := Builtin.Tuple.tupleExact _) (wpAny_newObj_type (wpAny_pure ⟨_, rfl, wpAny_pure h⟩) fits2)
    | exact wpAny_bind (m := Builtin.Tuple.tupleExact _) (wpAny_newObj_type (wpAny_bind (wpAny_pure (wpAny_pure ⟨_, rfl, wpAny_pure h⟩))) fits2)
    | exact wpAny_bind (wpAny_bind (m := Builtin.Tuple.tupleExact _) (wpAny_newObj_type (wpAny_pure (wpAny_pure ⟨_, rfl, wpAny_pure h⟩)) fits2))
    | exact wpAny_bind (wpAny_bind (m := Builtin.Tuple.tupleExact _) (wpAny_newObj_type (wpAny_pure ⟨_, rfl, wpAny_pure h⟩) fits2))
end
section
variable {X : Cx} {e st : Expr} {te ts : TE} {pos p2 : Pos}
/-- t[::-1], t a tuple -/
def tBack (K : PySem.W.Frag) (te ts : TE) : TE := fun σ H Q => te σ H fun x H1 => ts σ H1 fun k H2 => ∃ a xs, k = .int (-1) ∧ x = .ref a ∧ SqT K H2 a xs ∧ ∀ p, H2 p = none → Q (.ref p) (upd H2 p (.tup xs.reverse))
theorem vals_back {xs : List V} {us : List Value} (r : Vals xs us) : Vals xs.reverse us.reverse := by
  induction r with
  | nil => exact .nil
  | cons a b ih =>
    rw [List.reverse_cons, List.reverse_cons]
    exact Vals.append ih (.cons a .nil)
theorem pe_back (he : PE X e te) (hst : PE X st ts) : PE X (.Subscript e (.Slice none none (some st) p2) pos) (tBack X.K te ts) := by
  refine ⟨fun pins s σ H Q I h => ?_⟩
  refine Subscript_ (thn (he.run pins s σ H _ I h) fun v s1 ⟨x, H1, I1, r1, q1⟩ => ?_)
  refine wpAny_Slice ?_
  rw [evalPart_none]
  refine wpAny_pure (wpAny_pure ?_)
  rw [evalPart_some]
  refine thn (hst.run pins s1 σ H1 _ I1 q1) fun vs s2 ⟨k, H2, I2, r2, a, xs, ek, ex, hx, q⟩ => ?_
  subst ek
  subst ex
  obtain ⟨tk, rfl⟩ := r2
  have ev : v = Value.ref a := r1
  subst ev
  have I3 : Inv X pins σ H2 { s2 with heap := s2.heap.push { cls := .type "slice", data := .fields #[.none, .none, .int (-1) tk] } } := I2.kept (t' := s2.toks) fun b ob q => Heap.get?_push_of_some _ q
  obtain ⟨its, r, ht, hz⟩ := I3.tuple hx
  have fits : its.toArray.size ≤ sizeLine := by
    rw [List.size_toArray, ← r.length]
    exact hz
  refine tail_any (s := { s2 with heap := s2.heap.push { cls := .type "slice", data := .fields #[.none, .none, .int (-1) tk] } }) (ops := [.ref a, .ref s2.heap.objs.size]) ht.typeIs PyProof.Rows.slot_tuple_getitem.lookup ?_ (by with_unfolding_all rfl)
  refine item_back ht (Heap.IsSliceOf.new ..) fits ?_
  refine ⟨.ref _, _, I3.laid (t' := s2.toks) (o := .tup xs.reverse) (fun b ob q => Heap.get?_push_of_some _ q) (Nat.le_refl _) ?_, rfl, q _ (I3.hok.fresh (Nat.le_refl _))⟩
  refine ⟨by rw [List.length_reverse]; exact hz, _, vals_back r, ?_⟩
  have z := IsTup.new (s2.heap.push { cls := .type "slice", data := .fields #[.none, .none, .int (-1) tk] }) its.reverse.toArray
  exact z
end
end LG
set_option Elab.async false
set_option linter.all false
set_option maxRecDepth 100000
set_option maxHeartbeats 1000000
/-! Errors of own classes as values: made by their __init__, their fields, isinstance. -/
namespace LG
open PySem PySem.Spec PyProof.Rows L2
/-- what the written part says of a class of errors -/
structure ErrC (K : PySem.W.Frag) (C : Addr) : Prop where
  ox : OexC K C
  xf : XfC K C
  ca : PySem.W.findIn K (.ref C) "__class__" = some (some (.builtin "object.__class__"))
  mo : PySem.W.mroIn K C (.type "object") = some true
/-- of the descriptor __class__ -/
structure ClsD (K : PySem.W.Frag) : Prop where
  get : PySem.W.specialIn K (.builtin "object.__class__") "__get__" = some (some (.builtin "getset_descriptor.__get__"))
  set : PySem.W.takesIn K (.builtin "object.__class__") = some true
section
open PySem.W PySem.Calls
variable {prog : Program} {w : World} {A : Around} {E : Value → Shared → Prop} {s : Shared} {K : Frag} {x D : Addr} {ox : Obj} {od : Option Obj}
theorem data_found {C : Addr} {name : Str} {a g : Value} (hc : (clsIn K C).isSome = true) (ha : findIn K (.ref C) name = some (some a)) (hg : specialIn K a "__get__" = some (some g)) (ht : takesIn K a = some true) : findObj K C od name = some (.bind g a) := by
  obtain ⟨cd, e⟩ := Option.isSome_iff_exists.mp hc
  unfold findObj
  rw [e, Option.bind_some, ha, Option.bind_some]
  simp [hg, ht]
theorem class_of_err (T : ErrC K D) (U : ClsD K) {Q : Option Value → Shared → Prop} (X : K.In s.heap) (I : PySem.W.InstAt s.heap x ox D od) (h : Q (some (.ref D)) { s with toks := s.toks + 1 }) : wpAny (model prog w) A (getAttr? (.ref x) "__class__") Q E s := by
  have found : findObj K D od "__class__" = some (.bind (.builtin "getset_descriptor.__get__") (.builtin "object.__class__")) := data_found (by obtain ⟨cd, e, _⟩ := any_some T.xf.hdC; rw [e]; rfl) T.ca U.get U.set
  obtain ⟨hp, g, d, t, os⟩ := s
  have l0 := I.type (M := model prog w)
  have l1 := looks_findIn (M := model prog w) X T.xf.ga
  have l2 := looks_findIn (M := model prog w) X T.xf.gg
  have l3 := looks_find (M := model prog w) X I found
  have isB : Looks (model prog w) hp (isInstance (.ref x) (.type "BaseException")) true := l0.andThen (looks_subIn X T.xf.exC)
  have e2 : (Value.builtin "BaseException.__getattribute__" == Value.builtin "object.__getattribute__") = false := by decide +kernel
  have e1 : (onTheHeap (Value.ref D) && Value.builtin "BaseException.__getattribute__" == Value.builtin "object.__getattribute__") = false := by
    rw [e2]
    rfl
  have e0 : (false && onTheHeap (Value.builtin "BaseException.__getattribute__")) = false := rfl
  unfold getAttr? getAttrBy? getAttrBy
  refine wpAny_bind (wpAny_mkText (wpAny_bind (wpAny_attempt (wpAny_holding (wpAny_bind (l0.at (wpAny_bind (l1.at ?_))))))))
  show wpAny _ _ (if (onTheHeap (Value.ref D) && Value.builtin "BaseException.__getattribute__" == Value.builtin "object.__getattribute__") = true then _ else _) _ _ _
  rw [e1, if_neg Bool.false_ne_true]
  unfold getAttrByItsOwn hookBefore
  refine wpAny_bind ?_
  rw [if_pos (show onTheHeap (Value.ref D) = true from rfl)]
  refine l2.at (wpAny_bind (wpAny_attempt (wpAny_holding ?_)))
  unfold callGetattribute
  rw [e0, if_neg Bool.false_ne_true]
  unfold boundAndCalled
  rw [PySem.F.excAttr_ValueError.ga.bind (.ref x)]
  refine wpAny_bind (wpAny_pure ?_)
  show wpAny _ _ (call (.builtin "BaseException.__getattribute__") [.ref x, .str "__class__" t]) _ _ _
  refine wpAny_call (codeAny_call_builtin PySem.F.excAttr_ValueError.ga.plain PySem.F.entry_bexc_ga ?_)
  refine @check_slot (model prog w) _ _ ⟨hp, g, d, t + 1, os⟩ "BaseException.__getattribute__" "BaseException" "__getattribute__" (.ref x) [.str "__class__" t] [] _ (by decide +kernel) (by decide +kernel) isB (PySem.F.args_bexc_ga (.ref x) (.str "__class__" t)) ?_
  unfold Builtin.«object.__getattribute__»
  refine wpAny_bind (wpAny_of_eq (a := ((Value.ref x : Value), [Value.str "__class__" t])) (by first | rfl | (simp only [slotArgs]; rfl)) ?_)
  refine wpAny_bind (wpAny_pure (wpAny_bind (l0.at (wpAny_bind (l3.at ?_)))))
  show wpAny _ _ (holding [Value.builtin "object.__class__"] (call (.builtin "getset_descriptor.__get__") [.builtin "object.__class__", .ref x, .ref D]) >>= ret) _ _ _
  refine wpAny_bind (wpAny_holding (wpAny_call (class_get (s := ⟨hp, g, d, t + 1, os⟩) (ox := ox) (od := od) X I T.mo ?_)))
  refine wpAny_pure ?_
  show wpAny _ _ (handedOut (.ref D)) _ _ _
  rw [handedOut_of (v := .ref D) rfl]
  first
    | exact wpAny_pure (wpAny_pure h)
    | exact wpAny_pure h
    | exact wpAny_pure (wpAny_bind (wpAny_pure (wpAny_pure h)))
theorem kit_err (T : ErrC K D) (U : ClsD K) : KitX K (.ref x) (.ref D) (fun h => PySem.W.InstAt h x ox D od) where
  ty := fun _ _ _ I => I.type
  it := fun _ _ X _ => by
    obtain ⟨cd, e, _⟩ := any_some T.xf.hdC
    unfold clsIn at e
    split at e
    · rename_i c' d' cd' sl' ho
      intro A' Q' E' s' k q
      unfold isType loadHead
      exact wpAny_bind (wpAny_loadPart (k _ _ (X _ _ ho)) (wpAny_pure q))
    · cases e
  ne := (handS_kitx_exc (x := x) (ox := ox) T.xf.ga T.xf.gg T.xf.exC T.xf.hdC T.ca U.get U.set T.mo).ne
  ca := fun X I k => class_of_err T U X I k
end
section
variable {X : Cx} {pins : List (Addr × Obj)} {σ : L2.St} {H : Hp} {s : Shared}
/-- an error at a of the class at C, its dict at d holds fs -/
structure ErrAt (H : Hp) (a C d : Addr) (fs : List (Str × V)) : Prop where
  ob : H a = some (exo a C (some d))
  dc : H d = some (exd d fs)
theorem ErrAt.same {H' : Hp} {a C d : Addr} {fs : List (Str × V)} (e : Same H H') (h : ErrAt H a C d fs) : ErrAt H' a C d fs := ⟨e _ _ h.ob, e _ _ h.dc⟩
theorem err_inst {a C d : Addr} {fs : List (Str × V)} (I : Inv X pins σ H s) (h : ErrAt H a C d fs) : ∃ (ox od : Obj) (mA : Str → Option Value), PySem.W.InstAt s.heap a ox C (some od) ∧ (∀ f, RelO (fs.lookup f) (mA f)) ∧ ∀ f, PySem.W.lookIn f od = some (mA f) := by
  obtain ⟨t1, ho⟩ := exo_at I.hok h.ob
  obtain ⟨mA, hns, rel⟩ := exd_at I.hok h.dc
  obtain ⟨od, hod, hl⟩ := lookIn_ns hns
  exact ⟨_, od, mA, ⟨ho, rfl, rfl, hod⟩, rel, hl⟩
end
section
variable {X : Cx}
/-- isinstance(e, c), e an error of the class at C -/
def rIsErr (K : PySem.W.Frag) : List V → Hp → VK → Prop := fun xs H Q => ∃ (a C d : Addr) (fs : List (Str × V)) (c : V) (u : Value) (b : Bool), xs = [.ref a, c] ∧ ClsV c u ∧ ErrC K C ∧ ErrAt H a C d fs ∧ PySem.W.kitOne K (.ref C) u = some b ∧ Q (.bl b) H
theorem call_isErr (U : ClsD X.K) : CallR X (.builtin "isinstance") (rIsErr X.K) := by
  intro pins s σ H xs us Q I r h
  obtain ⟨a, C, d, fs, c, u, b, rfl, hc, T, at_, e, q⟩ := h
  obtain ⟨u1, u2, rfl, r1, r2⟩ := vals2 r
  have e1 : u1 = Value.ref a := r1
  subst e1
  have e2 := hc.eq r2
  subst e2
  obtain ⟨ox, od, mA, J, _, _⟩ := err_inst I at_
  exact PySem.W.kia_one (kit_err T U) I.kIn J e (fun z => nomatch z) fun tk => ⟨.bl b, H, I.kept (t' := tk) fun _ _ z => z, rfl, q⟩
/-- e.n, e an error -/
def tErrF (K : PySem.W.Frag) (n : Str) (te : TE) : TE := fun σ H Q => te σ H fun x H1 => ∃ (a C d : Addr) (fs : List (Str × V)) (v : V), x = .ref a ∧ ErrC K C ∧ PySem.W.findIn K (.ref C) n = some none ∧ ErrAt H1 a C d fs ∧ fs.lookup n = some v ∧ Q v H1
theorem pe_errf {e : Expr} {te : TE} {pos : Pos} {n : Str} (he : PE X e te) (hb : attributeBase e n X.env (eval e X.env) = eval e X.env := by rfl) : PE X (.Attribute e n pos) (tErrF X.K n te) := by
  refine ⟨fun pins s σ H Q I h => attr_of hb (thn (he.run pins s σ H _ I h) ?_)⟩
  rintro u s1 ⟨x, H1, I1, rx, a, C, d, fs, v, rfl, T, no, at_, l, q⟩
  have eu : u = Value.ref a := rx
  subst eu
  obtain ⟨ox, od, mA, J, rel, hl⟩ := err_inst I1 at_
  obtain ⟨u, hu, ru⟩ := RelO.some_of (v := v) (o := mA n) (by rw [← l]; exact rel n)
  exact HandSPX.exc_get I1.kIn J T.xf.ga T.xf.gg T.xf.exC (PySem.W.findObj_own T.xf.hdC no rfl (by rw [hl, hu])) (handed_of ru) ⟨v, H1, I1.tok _, ru, q⟩
/-- C(e, ..) as a value, C an error class whose __init__ keeps sp -/
def tErrV (K : PySem.W.Frag) (C : Addr) (sp : Sp) (ta : TA) : TE := fun σ H Q => ta σ H fun vs H1 => vs.length ≤ 1000 ∧ ∀ a, H1 a = none → sp (.ref a :: vs) (upd H1 a (exo a C none)) (fun v H2 => v = .non ∧ Q (.ref a) H2) E0
theorem pe_errv {x : Str} {C fI : Addr} {k : Nat} {fd : FuncData} {ps : List Str} {sp : Sp} {e : Expr} {es : List Expr} {ta : TA} {p pos : Pos} (T : OexC X.K C) (iC : PySem.W.findIn X.K (.ref C) "__init__" = some (some (.ref fI))) (tI : PySem.W.typeIn X.K (.ref fI) = some (.type "function"))
    (G : FnOk X.prog X.w X.K X.mg X.base CX0 k fI fd ps sp) (hr : Room (k + 1) X.A) (hb : Binds X.K fd ps []) (hg : Gl X x) (hm : X.mg x = some (.ref C)) (ha : PA X (e :: es) ta)
    (hdb : (x == ("__debug__" : Str)) = false := by decide) (he : starEach (e :: es) X.env = (false, eval e X.env) :: starEach es X.env := by rfl) (hpl : (backTo pos (starEach es X.env)).any (·.1) = false := by rfl) :
    PE X (.Call (.Name x p) (e :: es) [] pos) (tErrV X.K C sp ta) := by
  refine ⟨fun pins s σ H Q I h => wpAny_Call_Name_kw (ld_glob I hg hm ?_ hdb)⟩
  obtain ⟨nm, q, N, bs, bm, sn, sub, ab, col, dd, k0, k1, k2, k3, k5, hC, hbm⟩ := T.cls
  refine PySem.W.callWith_K (h₀ := X.base) I.ok.mod.kin T.kC (thn (ha.run pos pins s σ H _ I h) fun us s1 ⟨vs, H1, I1, r1, hz, q1⟩ => ⟨I1.kIn, ?_⟩) he hpl
  show wpAny _ _ (call (.ref C) us) _ _ _
  obtain ⟨hp, g, dr, tk, os⟩ := s1
  have above : hp.objs.size ≤ hp.objs.size + 1 := Nat.le_succ _
  have free : H1 (hp.objs.size + 1) = none := I1.hok.fresh above
  have hq := q1 (hp.objs.size + 1) free
  have keeps : ∀ b o, hp.get? b = some o → ((hp.push (PySem.W.kdv_tup us)).push (PySem.HandSPX.excO C hp.objs.size)).get? b = some o := fun b o e => Heap.get?_push_of_some _ (Heap.get?_push_of_some _ e)
  have there : ((hp.push (PySem.W.kdv_tup us)).push (PySem.HandSPX.excO C hp.objs.size)).get? (hp.objs.size + 1) = some (PySem.HandSPX.excO C hp.objs.size) := by heap_get
  have I2 : Inv X pins σ (upd H1 (hp.objs.size + 1) (exo (hp.objs.size + 1) C none)) ⟨(hp.push (PySem.W.kdv_tup us)).push (PySem.HandSPX.excO C hp.objs.size), g, dr, tk, os⟩ :=
    I1.laid (t' := tk) (a := hp.objs.size + 1) (o := exo (hp.objs.size + 1) C none) keeps above (exo_ok there)
  have r2 : Vals (V.ref (hp.objs.size + 1) :: vs) (Value.ref (hp.objs.size + 1) :: us) := .cons rfl r1
  have hl : ((Value.ref (hp.objs.size + 1) :: us) ++ []).length = ps.length := by
    rw [List.append_nil, ← r2.length]
    exact G.len _ _ _ _ hq
  have fits : us.length ≤ sizeLine := by
    rw [← r1.length, sizeLine_eq]
    omega
  have bd := hb _ (Value.ref (hp.objs.size + 1) :: us) I2.kIn hl
  rw [List.append_nil] at bd
  refine wpAny_call (PySem.HandSPX.call_own F.excBase_ValueError (fun Y => PySem.HandSPX.refsVE_contains Y bm hbm) (I1.kIn _ _ hC) (PySem.W.looks_findIn I1.kIn iC) (fun self => PySem.W.bind_fn I1.kIn self tI) fits
    (codeAny_mono (G.run _ X.stack _ _ ⟨Value.ref (hp.objs.size + 1) :: us, []⟩ (Value.ref (hp.objs.size + 1) :: us) _ _ E0 (hr.make C us []) (I2.env0.make C us []) bd r2 hq) fun r s' hq' => ?_))
  match r, hq' with
  | .error _, hq' => exact hq'.elim
  | .ok .next, hq' => exact hq'.elim
  | .ok .brk, hq' => exact hq'.elim
  | .ok .cont, hq' => exact hq'.elim
  | .ok (.ret u), hq' =>
    obtain ⟨v, H', I3, rv, ev, q3⟩ := I2.after hq'
    subst ev
    exact ⟨rv, ⟨V.ref (hp.objs.size + 1), H', I3, rfl, q3⟩⟩
end
end LG
set_option Elab.async false
set_option linter.all false
set_option maxRecDepth 100000
set_option maxHeartbeats 1000000
/-! The facts of classes of errors, by one look at the written part. -/
namespace LG
open PySem PySem.Spec PyProof.Rows L2
open PySem.HandSPX (veTail refsVE)
/-- the class at C stands there with the bases bm behind it -/
def clsB (K : PySem.W.Frag) (C : Addr) (bm : List Value) : Bool := match K.lookup C with
  | some ⟨.type "type", _, .cls cd, sl⟩ => (match cd.mro, sl.toList with
    | .ref D :: r, [_, _, _, _, some (.builtin n), _] => D == C && (n == "ValueError.__new__" && (!cd.hasDel && (cd.hasDict && decide (r = bm))))
    | _, _ => false)
  | _ => false
theorem clsB_ok {K : PySem.W.Frag} {C : Addr} {bm : List Value} (q : clsB K C bm = true) : ∃ nm qn N bs sn sub ab col dd k0 k1 k2 k3 k5, K.lookup C = some (excClassObj nm qn C N bs bm true sn sub ab col dd k0 k1 k2 k3 k5 "ValueError.__new__") := by
  unfold clsB at q
  split at q
  · rename_i dd cd sl ho
    split at q
    · rename_i D r k0 k1 k2 k3 n k5 hm hs
      simp only [Bool.and_eq_true, beq_iff_eq, Bool.not_eq_true', decide_eq_true_eq] at q
      obtain ⟨rfl, rfl, hdel, hdict, rfl⟩ := q
      obtain ⟨nm, bs, mro, ns, qn, hd, sn, sub, ab, col, del⟩ := cd
      dsimp only at hm hdel hdict
      subst hm hdel hdict
      obtain ⟨l⟩ := sl
      simp only at hs
      subst hs
      exact ⟨nm, qn, ns, bs, sn, sub, ab, col, dd, k0, k1, k2, k3, k5, ho⟩
    · cases q
  · cases q
def errB (K : PySem.W.Frag) (C : Addr) (bm : List Value) : Bool :=
  clsB K C bm && (refsVE bm && (decide (PySem.W.findIn K (.ref C) "__setattr__" = some (some (.builtin "object.__setattr__"))) && (decide (PySem.W.subIn K (.ref C) (.type "BaseException") = some true) &&
  (decide (PySem.W.typeIn K (.ref C) = some (.type "type")) && (PySem.W.keepIn K (.ref C) && (xfB K C && (decide (PySem.W.findIn K (.ref C) "__class__" = some (some (.builtin "object.__class__"))) && decide (PySem.W.mroIn K C (.type "object") = some true))))))))
theorem errB_ok {K : PySem.W.Frag} {C : Addr} {bm : List Value} (q : errB K C bm = true) : ErrC K C := by
  unfold errB at q
  simp only [Bool.and_eq_true, decide_eq_true_eq] at q
  obtain ⟨q1, q2, q3, q4, q5, q6, q7, q8, q9⟩ := q
  obtain ⟨nm, qn, N, bs, sn, sub, ab, col, dd, k0, k1, k2, k3, k5, ho⟩ := clsB_ok q1
  exact ⟨⟨⟨nm, qn, N, bs, bm, sn, sub, ab, col, dd, k0, k1, k2, k3, k5, ho, q2⟩, q3, q4, q5, q6⟩, xfB_ok q7, q8, q9⟩
theorem clsB_in {K : PySem.W.Frag} {C : Addr} {bm : List Value} (q : clsB K C bm = true) : ∃ cd, PySem.W.clsIn K C = some cd ∧ cd.mro = .ref C :: bm := by
  obtain ⟨nm, qn, N, bs, sn, sub, ab, col, dd, k0, k1, k2, k3, k5, ho⟩ := clsB_ok q
  unfold PySem.W.clsIn
  rw [ho]
  exact ⟨_, rfl, rfl⟩
/-- isinstance by the classes' bases -/
theorem kit_refs {K : PySem.W.Frag} {C D : Addr} {bm bmD : List Value} (q : errB K C bm = true) (qD : errB K D bmD = true) : PySem.W.kitOne K (.ref C) (.ref D) = some (decide (C = D) || bm.contains (.ref D)) := by
  have q1 : clsB K C bm = true := by
    unfold errB at q
    exact (Bool.and_eq_true_iff.mp q).1
  have q2 : clsB K D bmD = true := by
    unfold errB at qD
    exact (Bool.and_eq_true_iff.mp qD).1
  obtain ⟨cd, e1, m1⟩ := clsB_in q1
  obtain ⟨dd, e2, m2⟩ := clsB_in q2
  unfold PySem.W.kitOne
  by_cases same : C = D
  · subst same
    simp
  · have ne : ¬ ((Value.ref C == Value.ref D) = true) := by
      intro z
      exact same (Value.ref.inj (beq_iff_eq.mp z))
    rw [if_neg ne]
    have ty : PySem.W.typeIn K (.ref D) = some (.type "type") := (errB_ok qD).ox.tyC
    show (if ((PySem.W.clsIn K D).isSome && PySem.W.typeIn K (.ref D) == some (.type "type")) = true then PySem.W.subIn K (.ref C) (.ref D) else none) = _
    rw [e2, ty, if_pos (by simp)]
    show PySem.W.mroIn K C (.ref D) = _
    unfold PySem.W.mroIn
    rw [e1, Option.bind_some, m1, if_neg (by simp)]
    simp [same, List.contains_cons, Ne.symm same]
theorem kit_type {K : PySem.W.Frag} {C : Addr} {bm : List Value} {T : String} (q : errB K C bm = true) (hT : PySem.W.kitMeta T = true) : PySem.W.kitOne K (.ref C) (.type T) = some (bm.contains (.type T)) := by
  have q1 : clsB K C bm = true := by
    unfold errB at q
    exact (Bool.and_eq_true_iff.mp q).1
  obtain ⟨cd, e1, m1⟩ := clsB_in q1
  unfold PySem.W.kitOne
  rw [if_neg (by simp)]
  show (if PySem.W.kitMeta T = true then PySem.W.subIn K (.ref C) (.type T) else none) = _
  rw [if_pos hT]
  show PySem.W.mroIn K C (.type T) = _
  unfold PySem.W.mroIn
  rw [e1, Option.bind_some, m1, if_neg (by simp)]
  simp [List.contains_cons]
end LG
set_option Elab.async false
set_option linter.all false
set_option maxRecDepth 100000
set_option maxHeartbeats 2000000
/-! try .. except X as n, where the suite may keep the exception. -/
namespace LG
open PySem PySem.Spec PyProof.Rows L2
/-- a caught exception at a of the class cls, its dict d -/
def exq (a : Addr) (cls : Value) (d : Option Addr) : HO := .ext fun h => ∃ (o : Obj) (vs : Array Value), h.get? a = some o ∧ o.cls = cls ∧ o.dict = d ∧ o.data = .fields vs
theorem exq_ok {P : Program} {w : World} {H : Hp} {h : Heap} {a : Addr} {cls : Value} {d : Option Addr} {o : Obj} {vs : Array Value} (e : h.get? a = some o) (hc : o.cls = cls) (hd : o.dict = d) (hv : o.data = .fields vs) : ObjOk P w H h a (exq a cls d) :=
  ⟨⟨o, vs, e, hc, hd, hv⟩, ⟨o, e⟩, fun _ _ ⟨o, vs, q, r⟩ k => ⟨o, vs, k _ q, r⟩⟩
section
variable {X : Cx} {pins pins' : List (Addr × Obj)} {σ : L2.St} {H : Hp} {s s1 : Shared} {a : Addr} {cls : Value} {d : Option Addr}
/-- from the landing of an exception on it is tracked -/
theorem keep_exc {B : Heap} {h4 : Heap} {oe : Obj} {vs : Array Value} (hex : X.ex = []) (J : Inv X pins σ H s) (J4 : Inv X pins σ H { s1 with heap := h4 }) (nb : ∀ b o, s.heap.get? b = some o → b ∉ frs X.stack → B.get? b = some o) (hB : B.get? a = none)
    (nfr : a ∉ frs X.stack) (na : H a = none) (nL : a ≠ X.env.locals) (nF : a ∉ X.fs) (he : h4.get? a = some oe) (hz : Zc cls d oe) (hv : oe.data = .fields vs) :
    Inv (X.suite a (X.pn ++ pins)) [] σ (upd H a (exq a cls d)) { s1 with heap := h4 } := by
  have none_s : s.heap.get? a = none := by
    cases q : s.heap.get? a with
    | none => rfl
    | some o =>
      have := nb a o q nfr
      rw [hB] at this
      cases this
  have none_0 : X.s_0.heap.get? a = none := by
    cases q : X.s_0.heap.get? a with
    | none => rfl
    | some o =>
      obtain ⟨o', q'⟩ := J.base.there a o q (by rw [hex]; simp)
      rw [none_s] at q'
      cases q'
  have ne0 : ∀ {b : Addr} {u : HO}, H b = some u → b ≠ a := fun {b u} q => ne_of_none q na
  refine ⟨J4.ok.suite _ _, J4.os, J4.bare, ⟨J4.base.keep, J4.base.slot, fun b o e n hx => ?_, J4.base.there, fun b xs e => ?_, fun b o u e => ?_, fun b ps e => ?_⟩, J4.loc, J4.cell, ?_, fun y c e => ?_, fun p hp => ?_, fun b u e => ?_, J4.len⟩
  · have : b ≠ a := fun z => by
      rw [z] at e
      have e : X.s_0.heap.get? a = some o := e
      rw [none_0] at e
      cases e
    rw [upd_ne this]
    exact J4.base.free b o e n hx
  · have q := J4.base.tups b xs e
    rw [upd_ne (ne0 q)]
    exact q
  · have q := J4.base.frzs b o u e
    rw [upd_ne (ne0 q)]
    exact q
  · obtain ⟨more, q⟩ := J4.base.tbls b ps e
    exact ⟨more, by rw [upd_ne (ne0 q)]; exact q⟩
  · show upd H a (exq a cls d) X.env.locals = none
    rw [upd_ne (Ne.symm nL)]
    exact J4.free
  · have : c ≠ a := fun z => by
      obtain ⟨v, o, ho, hd⟩ := J4.cell y c e
      rw [z] at ho
      have ho : h4.get? a = some o := ho
      rw [he] at ho
      cases ho
      rw [hv] at hd
      cases hd
    rw [upd_ne this]
    exact J4.freeC y c e
  · have hp' : p ∈ X.pn ++ pins := by
      rw [List.append_nil] at hp
      exact hp
    obtain ⟨q1, q2, q3, q4, q5⟩ := J4.pin p hp'
    have : p.1 ≠ a := fun z => by
      obtain ⟨r1, _⟩ := J.pin p hp'
      rw [z, none_s] at r1
      cases r1
    exact ⟨q1, by rw [upd_ne this]; exact q2, q3, q4, q5⟩
  · by_cases hb : b = a
    · rw [hb, upd_same] at e
      cases e
      rw [hb]
      exact exq_ok he hz.1 hz.2 hv
    · rw [upd_ne hb] at e
      exact (J4.hok b u e).stay (fun c v _ q => q) (fun c q => by rw [upd_ne (ne0 q)]; exact q) fun c xs q => by rw [upd_ne (ne0 q)]; exact q
theorem unkeep {pn' : List (Addr × Obj)} (I : Inv (X.suite a (X.pn ++ pins)) pn' σ H s) (ok : X.Ok) : Inv X pins σ H s :=
  ⟨ok, I.os, I.bare, I.base, I.loc, I.cell, I.free, I.freeC, fun p hp => I.pin p (List.mem_append_left _ hp), I.hok, I.len⟩
end
/-- what the clause wishes of an exception of the body; the suite knows the exception as an object -/
def wKeep (K : PySem.W.Frag) (c : Value) (i : Nat) (ts : TS) (Wout : WX) (D : Ends) : WX := fun cls d σ H =>
  ∃ b, PySem.W.exmOne K cls c = some b ∧ (b = true → ∀ a, H a = none → ts { nx := fun σ' H' => D.nx (σ'.set i none) H', rt := D.rt, bk := fun σ' H' => D.bk (σ'.set i none) H', ct := fun σ' H' => D.ct (σ'.set i none) H' } (σ.set i (some (.ref a))) (upd H a (exq a cls d))) ∧
    (b = false → Wout cls d σ H)
section
variable {X : Cx} {x n : Str} {c : Value} {i : Nat} {body suite : List Stmt} {b₀ : Stmt} {np pos pos' : Pos} {tb : WX → TS} {ts : TS} {Wout : WX}
theorem ps_try_keep (hs : X.stack = X.env :: X.outer) (hf : X.env.frame = some X.env.locals) (hex : X.ex = []) (hN : X.N.Nodup) (hi : X.N[i]? = some n) (hln : X.env.kindOf n = some .local) (hc : L2.Names X x c) (tk : Takes X Wout)
    (hb : ∀ (W : WX) (pn : List (Addr × Obj)) (xe : Value → Shared → Prop), Takes (X.tr pn xe) W → PassesOwn (model X.prog X.w) X.A X.env xe → PSs (X.tr pn xe) body (tb W))
    (hsu : ∀ (a : Addr) (pn : List (Addr × Obj)), PSs (X.suite a pn) (b₀ :: suite) ts) :
    PS X (.Try body [.ExceptHandler (some (.Name x np)) (some n) (b₀ :: suite) pos'] [] [] pos) (fun D σ H => tb (wKeep X.K c i ts Wout D) D σ H) := by
  refine ⟨fun pins s σ H D I h => ?_⟩
  have ok := I.ok
  have hfr : X.A.frames = some (X.env :: X.outer) := by rw [ok.frames, hs]
  have hloc : Loc X.env.scope n := .inl hln
  refine wpAny_Try_except ?_
  refine wpAny_mono ((hb (wKeep X.K c i ts Wout D) (X.pn ++ pins) (fun e z1 => wpAny (model X.prog X.w) X.A (noteFrame e X.env) (fun _ z2 => wpAny (model X.prog X.w) X.A (setFlight e none) (fun _ z3 =>
    wpAny (model X.prog X.w) X.A (handleBy e X.env [.ExceptHandler (some (.Name x np)) (some n) (b₀ :: suite) pos']) (SP X pins D) X.xe z3) X.xe z2) X.xe z1) (fun u s' xx => ?_) PassesOwn.looking).run [] s σ H D (I.toTry _) h) (fun f s1 hsp => ?_) fun _ _ he => he
  · obtain ⟨a, B, sI, pins', σ', H', cls, d, rfl, J', nb, up, sky, na, os, ag, b, hb1, hyes, hno⟩ := xx
    have J : Inv X pins σ' H' sI := J'.ofTry ok
    have sky' : Sky B (X.env :: X.outer) a (Zc cls d) X.env.locals s'.heap := by rw [← hs]; exact sky
    show wpAny (model X.prog X.w) X.A (noteFrame (.ref a) X.env) _ _ _
    refine Sky.land Zc.steady hfr hf sky' fun g3 fl3 up3 => ?_
    have J3 : Inv X pins σ' H' { s' with heap := g3 } := J.landed nb fl3.1 (up.trans up3) os ag
    obtain ⟨oe3, vs3, he3, hz3, hd3⟩ := fl3.there
    have out : ∀ {g : Heap} {o : Obj} {us : Array Value}, g.FunFrames B (X.env :: X.outer) → g.get? a = some o → o.data = .fields us → a ∉ frs (X.env :: X.outer) := by
      intro g o us ff e dd hm
      obtain ⟨_, o', e', hnf⟩ := ff.mem hm
      rw [e] at e'
      cases e'
      exact hnf _ dd
    have nfr := out fl3.2.2.1 he3 hd3
    have nL : a ≠ X.env.locals := fun z => nfr (List.mem_filterMap.mpr ⟨X.env, List.mem_cons_self, by rw [hf, z]⟩)
    have nF : a ∉ X.fs := fun hm => by
      obtain ⟨e, he, q⟩ := List.mem_filterMap.mp hm
      exact nfr (List.mem_filterMap.mpr ⟨e, List.mem_cons_of_mem _ he, q⟩)
    have nfs : a ∉ frs X.stack := by rw [hs]; exact nfr
    have S3 := J3.suite he3 hd3 na nL nF
    refine wpAny_handleBy_cons (codeAny_handlers_test ?_) (by intro q; cases q)
    have LT : PySem.W.Looks (model X.prog X.w) g3 (typeOf (.ref a)) cls := fun A Q E s k q => wpAny_typeOf_ref (k _ _ he3) (by rw [hz3.1]; exact q)
    have LM := PySem.W.exm_one (M := model X.prog X.w) J3.kIn LT hb1
    have test : ∀ {Q : Value → Shared → Prop} {E : Value → Shared → Prop}, Q c { s' with heap := g3 } → wpAny (model X.prog X.w) (X.A.mark (some (.ref a))) (eval (.Name x np) X.env) Q E { s' with heap := g3 } := by
      intro Q E q
      obtain ⟨hg, hdbg, hm | ⟨hm, hv, hnn⟩⟩ := hc
      · exact ld_glob (X := X.suite a ((a, oe3) :: (X.pn ++ pins))) S3 hg hm q hdbg
      · exact ld_blt (X := X.suite a ((a, oe3) :: (X.pn ++ pins))) S3 hg hm hv q hnn hdbg
    refine test (LM.here ?_)
    cases b with
    | true =>
      refine codeAny_handlers_suite_as ?_
      refine HandSPX.lands_againZ fl3 fun g4 fl4 up4 => ?_
      have J4 : Inv X pins σ' H' { s' with heap := g4 } := J.landed nb fl4.1 ((up.trans up3).trans up4) os ag
      obtain ⟨oe4, vs4, he4, hz4, hd4⟩ := fl4.there
      have S4 := keep_exc hex J J4 nb fl4.2.1 nfs na nL nF he4 hz4 hd4
      refine store_ok (X := X.suite a (X.pn ++ pins)) (v := .ref a) S4 hN hi hloc rfl (fun s5 S5 => ?_) (.inr hln)
      refine wpAny_mono ((hsu a (X.pn ++ pins)).run [] s5 _ _ _ S5 (hyes rfl a na)) (fun f s6 hsp => ?_) (fun _ _ z => False.elim z)
      have end_ : ∀ {σ6 : L2.St} {H6 : Hp} {Q : Shared → Prop}, Inv (X.suite a (X.pn ++ pins)) [] σ6 H6 s6 → (∀ s7, Inv X pins (σ6.set i none) H6 s7 → Q s7) →
          wpAny (model X.prog X.w) X.A (do bindName X.env n .none; unbindBehindTheSuite X.env n pos') (fun _ s7 => Q s7) X.xe s6 := fun {σ6 H6 Q} S6 hq => gone_ok (unkeep S6 ok) hN hi hln hq
      match f, hsp with
      | .next, ⟨σ6, H6, S6, q6⟩ => exact end_ S6 fun s7 J7 => ⟨_, _, J7, q6⟩
      | .brk, ⟨σ6, H6, S6, q6⟩ => exact end_ S6 fun s7 J7 => ⟨_, _, J7, q6⟩
      | .cont, ⟨σ6, H6, S6, q6⟩ => exact end_ S6 fun s7 J7 => ⟨_, _, J7, q6⟩
      | .ret u, ⟨v6, σ6, H6, S6, r6, q6⟩ => exact end_ S6 fun s7 J7 => ⟨_, _, _, J7, r6, q6⟩
    | false =>
      show wpAny _ X.A (handleBy (.ref a) X.env []) _ _ _
      refine wpAny_handleBy_nil ?_
      obtain ⟨k1, k2, k3, oe, vs, T, oT, ts', he, hz, hd, h1, hr⟩ := id fl3
      unfold PySem.passOn
      refine wpAny_bind (wpAny_field he hd h1 ?_)
      rw [if_neg (show ¬ ((Value.ref T == Value.none) = true) from by simp)]
      have fin : wpAny (model X.prog X.w) X.A (setFlight (.ref a) X.env.frame) (fun _ s4 => wpAny (model X.prog X.w) X.A (throw (.ref a) : Sem Flow) (SP X pins D) X.xe s4) X.xe { s' with heap := g3 } := by
        rw [hf]
        refine HandSPX.setFlight_upZ fl3 fun g4 hh4 up4 => wpAny_throw (tk _ _ ?_)
        exact ⟨a, B, sI, pins, σ', H', cls, d, rfl, J, nb, (up.trans up3).trans up4, .inr (.inr (by rw [hs]; exact hh4)), na, os, ag, hno rfl⟩
      first
        | exact wpAny_bind (wpAny_pure (wpAny_bind fin))
        | exact wpAny_bind fin
  · match f, hsp with
    | .next, ⟨σ', H', J', q⟩ => exact wpAny_execs_nil ⟨σ', H', J'.ofTry ok, q⟩
    | .brk, ⟨σ', H', J', q⟩ => exact ⟨σ', H', J'.ofTry ok, q⟩
    | .cont, ⟨σ', H', J', q⟩ => exact ⟨σ', H', J'.ofTry ok, q⟩
    | .ret u, ⟨v, σ', H', J', r, q⟩ => exact ⟨v, σ', H', J'.ofTry ok, r, q⟩
end
end LG
set_option Elab.async false
set_option linter.all false
set_option maxRecDepth 100000
set_option maxHeartbeats 1000000
/-! Caught errors: isinstance, fields; anything that is no error. -/
namespace LG
open PySem PySem.Spec PyProof.Rows L2
/-- a caught error at a of the class at C; its own dict holds fs -/
structure ErrQ (H : Hp) (a C d : Addr) (fs : List (Str × V)) : Prop where
  ob : H a = some (exq a (.ref C) (some d))
  dc : H d = some (.xd fs)
theorem ErrQ.same {H H' : Hp} {a C d : Addr} {fs : List (Str × V)} (e : Same H H') (h : ErrQ H a C d fs) : ErrQ H' a C d fs := ⟨e _ _ h.ob, e _ _ h.dc⟩
section
variable {X : Cx} {pins : List (Addr × Obj)} {σ : L2.St} {H : Hp} {s : Shared}
theorem errq_inst {a C d : Addr} {fs : List (Str × V)} (I : Inv X pins σ H s) (h : ErrQ H a C d fs) : ∃ (ox od : Obj) (mA : Str → Option Value), PySem.W.InstAt s.heap a ox C (some od) ∧ (∀ f, RelO (fs.lookup f) (mA f)) ∧ ∀ f, PySem.W.lookIn f od = some (mA f) := by
  have x : ObjOk X.prog X.w H s.heap a (exq a (.ref C) (some d)) := I.hok a _ h.ob
  obtain ⟨⟨o, vs, e, hc, hd, hv⟩, _, _⟩ := x
  have y : ObjOk X.prog X.w H s.heap d (.xd fs) := I.hok d _ h.dc
  obtain ⟨mA, hns, rel⟩ := y
  obtain ⟨od, hod, hl⟩ := lookIn_ns hns
  obtain ⟨c0, d0, v0, sl⟩ := o
  simp only at hc hd hv
  subst hc hd hv
  exact ⟨_, od, mA, ⟨e, rfl, rfl, hod⟩, rel, hl⟩
end
section
variable {X : Cx}
/-- isinstance(e, c), e a caught error -/
def rIsErrQ (K : PySem.W.Frag) : List V → Hp → VK → Prop := fun xs H Q => ∃ (a C d : Addr) (fs : List (Str × V)) (c : V) (u : Value) (b : Bool), xs = [.ref a, c] ∧ ClsV c u ∧ ErrC K C ∧ ErrQ H a C d fs ∧ PySem.W.kitOne K (.ref C) u = some b ∧ Q (.bl b) H
theorem call_isErrQ (U : ClsD X.K) : CallR X (.builtin "isinstance") (rIsErrQ X.K) := by
  intro pins s σ H xs us Q I r h
  obtain ⟨a, C, d, fs, c, u, b, rfl, hc, T, at_, e, q⟩ := h
  obtain ⟨u1, u2, rfl, r1, r2⟩ := vals2 r
  have e1 : u1 = Value.ref a := r1
  subst e1
  have e2 := hc.eq r2
  subst e2
  obtain ⟨ox, od, mA, J, _, _⟩ := errq_inst I at_
  exact PySem.W.kia_one (kit_err T U) I.kIn J e (fun z => nomatch z) fun tk => ⟨.bl b, H, I.kept (t' := tk) fun _ _ z => z, rfl, q⟩
/-- e.n, e a caught error -/
def tErrQ (K : PySem.W.Frag) (n : Str) (te : TE) : TE := fun σ H Q => te σ H fun x H1 => ∃ (a C d : Addr) (fs : List (Str × V)) (v : V), x = .ref a ∧ ErrC K C ∧ PySem.W.findIn K (.ref C) n = some none ∧ ErrQ H1 a C d fs ∧ fs.lookup n = some v ∧ Q v H1
theorem pe_errq {e : Expr} {te : TE} {pos : Pos} {n : Str} (he : PE X e te) (hb : attributeBase e n X.env (eval e X.env) = eval e X.env := by rfl) : PE X (.Attribute e n pos) (tErrQ X.K n te) := by
  refine ⟨fun pins s σ H Q I h => attr_of hb (thn (he.run pins s σ H _ I h) ?_)⟩
  rintro u s1 ⟨x, H1, I1, rx, a, C, d, fs, v, rfl, T, no, at_, l, q⟩
  have eu : u = Value.ref a := rx
  subst eu
  obtain ⟨ox, od, mA, J, rel, hl⟩ := errq_inst I1 at_
  obtain ⟨u, hu, ru⟩ := RelO.some_of (v := v) (o := mA n) (by rw [← l]; exact rel n)
  exact HandSPX.exc_get I1.kIn J T.xf.ga T.xf.gg T.xf.exC (PySem.W.findObj_own T.xf.hdC no rfl (by rw [hl, hu])) (handed_of ru) ⟨v, H1, I1.tok _, ru, q⟩
end
end LG
set_option Elab.async false
set_option linter.all false
set_option maxRecDepth 100000
set_option maxHeartbeats 2000000
/-! enumerate over a tuple. -/
namespace PySem
open AutoSeq1 (wpAny_loadPart')
theorem meets_enumB {v : Value} {o : Obj} {G : Heap → Prop} (B : Begins v o G) :
    Meets (Builtin.«enumerate.__new__» ⟨[.type "enumerate", v], []⟩) (fun _ R s => G s.heap ∧
      R (.ok (.ret (.ref (s.heap.push o).objs.size))) { s with heap := (s.heap.push o).push { cls := .type "enumerate", data := .fields #[.none, .bool false, .ref s.heap.objs.size, rawInt 0, .none, .none] } }) :=
  .of_wp fun prog w A R s h => by
    obtain ⟨hp, g, d, tk, os⟩ := s
    obtain ⟨hG, h⟩ := h
    have hsub := sub_enumerate
    have it : ∀ {A' : Around} {E : Value → Shared → Prop} {Q : Value → Shared → Prop}, Q (.ref hp.objs.size) ⟨hp.push o, g, d, tk, os⟩ → wpAny (model prog w) A' (pyIter v) Q E ⟨hp, g, d, tk, os⟩ :=
      fun q => B.iter prog w _ _ ⟨hp, g, d, tk, os⟩ _ hG q
    wp_walk
    refine wpAny_stack_any fun st => wpAny_pure ?_
    split
    · rename_i c _ _ _ _ _
      cases (c == Value.type "enumerate")
      · wp_walk using it
        exact ⟨_, rfl, h⟩
      · wp_walk using it
        exact ⟨_, rfl, h⟩
    · wp_walk using it
      exact ⟨_, rfl, h⟩
theorem enum_tuple {prog : Program} {w : World} {A : Around} {E : Value → Shared → Prop} {s : Shared} {l : Addr} {items : Array Value} {Q : Value → Shared → Prop} (hL : s.heap.IsTuple l items)
    (h : ∀ h', IsEnum h' (s.heap.objs.size + 1) s.heap.objs.size 0 .none → h'.IsTupleIter s.heap.objs.size l 0 → h'.objs.size = s.heap.objs.size + 2 → (∀ b o, s.heap.get? b = some o → h'.get? b = some o) → Q (.ref (s.heap.objs.size + 1)) { s with heap := h' }) :
    wpAny (model prog w) A (call (.type "enumerate") [.ref l]) Q E s := by
  refine callType_new F.called_enumerate (by decide) (F.typeCall_enumerate_1 _) (F.newCall_enumerate_1 _) (fun obj => F.args_object_init_2 obj _) F.entry_enumerate_new (meets_enumB (begins_tuple l items)) ⟨hL, ?_⟩
  generalize ho : ({ cls := .type "tuple_iterator", data := .fields #[.ref l, .int 0 0] } : Obj) = io
  generalize hn : ({ cls := .type "enumerate", data := .fields #[.none, .bool false, .ref s.heap.objs.size, rawInt 0, .none, .none] } : Obj) = eo
  have z1 : (s.heap.push io).objs.size = s.heap.objs.size + 1 := Heap.size_push ..
  have he : ((s.heap.push io).push eo).get? (s.heap.objs.size + 1) = some eo := by
    rw [← z1]
    exact Heap.get?_push_size _ (by rw [← hn]; rfl)
  have hi : ((s.heap.push io).push eo).get? s.heap.objs.size = some io := Heap.get?_push_of_some _ (Heap.get?_push_size _ (by rw [← ho]; rfl))
  show _ ∧ _
  rw [z1]
  subst ho hn
  exact ⟨⟨_, he, rfl⟩, h _ he ⟨_, hi, rfl, rfl⟩ (by rw [Heap.size_push, z1]) fun b o x => Heap.get?_push_of_some _ (Heap.get?_push_of_some _ x)⟩
theorem enumT_end {prog : Program} {w : World} {A : Around} {E : Value → Shared → Prop} {s : Shared} {e it t : Addr} {i : Nat} {k : Int} {old : Value} {items : Array Value} {Q : Option Value → Shared → Prop} (hh : A.handled = none) (he : IsEnum s.heap e it k old) (hit : s.heap.IsTupleIter it t i) (ht : s.heap.IsTuple t items) (hx : items[i]? = none)
    (hQ : ∀ h', Heap.ExtBut it s.heap h' → Q none { s with heap := h' }) : wpAny (model prog w) A (pyNext (.ref e)) Q E s := by
  have hT : s.TypeIs (.ref e) "enumerate" := ⟨_, he, rfl⟩
  unfold pyNext
  refine wpAny_bind (wpAny_attempt (wpAny_callSpecial?_slot (name := Str.ofString "__next__") hT F.slot_enumerate_next (wpAny_call_entry F.slot_enumerate_next hT F.entry_enumerate_next ?_ (F.args_enumerate_next_1 _))))
  show wpAny _ _ (field (.ref e) 2 >>= _) _ _ _
  refine wpAny_bind (wpAny_field he rfl (x := .ref it) rfl ?_)
  refine wpAny_bind (wpAny_nextOf_tuple_end hh hit ht hx fun h' x he' hx' => ?_)
  obtain ⟨o, ho, hc⟩ := hx'
  exact wpAny_bind (wpAny_isInstance (T := "StopIteration") (b := true) ⟨o, ho, hc⟩ isSubtype_stop (wpAny_pure (hQ _ he')))
end PySem
namespace LG
open PySem PySem.Spec PyProof.Rows L2
/-- the tuple at a, each item in a new pair with its place -/
def Itet (K : PySem.W.Frag) (a : Addr) : It :=
  ⟨fun i H => ∃ (xs : List V) (x : V), SqT K H a xs ∧ xs[i]? = some x, fun i H v H' => ∃ T x, v = .ref T ∧ H T = none ∧ H' = upd H T (.tup [.int (i : Nat), x]) ∧ ∀ xs, SqT K H a xs → xs[i]? = some x, fun i H => ∃ xs : List V, SqT K H a xs ∧ xs.length ≤ i⟩
theorem turn_enumT {P : Program} {w : World} {K : PySem.W.Frag} {elts : List Expr} {kk : Nat} {tpos : Pos} (a e it : Addr) (nai : a ≠ it) (nea : e ≠ a) :
    Turn P w K (.Tuple elts kk tpos) (Itet K a) [e, it] e (fun i h => (∃ old, IsEnum h e it ((i : Nat) : Int) old) ∧ h.IsTupleIter it a i ∧ e ≠ it) where
  mem := by simp
  obj := fun i h st b hb => by
    obtain ⟨⟨old, he⟩, ⟨o, ho, hc, hd⟩, _⟩ := st
    have e' : b = e ∨ b = it := by simpa using hb
    rcases e' with z | z
    · rw [z]
      exact ⟨_, he, fun v q => nomatch q⟩
    · rw [z]
      exact ⟨o, ho, fun v q => by rw [hd] at q; cases q⟩
  keep := fun i h h' st k => by
    obtain ⟨⟨old, he⟩, hi, hne⟩ := st
    exact ⟨⟨old, k e (by simp) _ he⟩, hi.at fun o q => k it (by simp) o q, hne⟩
  item := by
    intro X hP hw hK hc i pins s σ H E I hf st hg
    subst hP hw hK
    obtain ⟨⟨old, he⟩, hit, hne⟩ := st
    obtain ⟨xs, x, hq, hx⟩ := hg
    obtain ⟨its, rv, p, hz⟩ := I.tuple hq
    obtain ⟨u, hu, ru⟩ := rv.get hx
    have hel : e < s.heap.objs.size := Heap.lt_size he
    have hil : it < s.heap.objs.size := by obtain ⟨_, q, _⟩ := hit; exact Heap.lt_size q
    have hlen : i < its.toArray.size := by
      have := (List.getElem?_eq_some_iff.mp hu).1
      simpa using this
    refine wpAny_pyNext_enum_itemD (Draws.tuple (A := X.A.in1) (show X.A.in1.handled = none from I.ok.hd hc) it a nai its.toArray) he ⟨hit, p⟩ hlen hne (by simp [hne, nea]) fun x2 h' tk hx2 ho hst' hT hsz hk => ?_
    have ex : x2 = u := by
      have q : its.toArray[i]? = some u := by simpa using hu
      exact Option.some.inj (hx2.symm.trans q)
    subst ex
    refine ⟨_, rfl, wpAny_letOwnedTupleGo_enum (s := { s with heap := h', toks := tk + 1 }) ho fun h'' he' sb => ?_⟩
    have hT2 : h''.get? s.heap.objs.size = some { cls := .type "tuple", data := .seq #[.int i tk, x2] } := (sb.2 _ (Nat.ne_of_gt hel)).trans hT
    have new : ObjOk X.prog X.w (upd H s.heap.objs.size (.tup [.int (i : Nat), x])) h'' s.heap.objs.size (.tup [.int (i : Nat), x]) :=
      ⟨by show 2 ≤ sizeLine; decide, [.int i tk, x2], .cons ⟨_, rfl⟩ (.cons ru .nil), ⟨_, hT2, rfl, _, rfl⟩⟩
    have I1 : Inv X pins σ (upd H s.heap.objs.size (.tup [.int (i : Nat), x])) { s with heap := h'', toks := tk + 1 } :=
      I.turnedNew (ch := [e, it]) (fun b ob hb q => (sb.2 b (fun z => hb (by simp [z]))).trans (hk b ob (fun z => hb (by simp [z])) (fun z => hb (by simp [z])) q)) hf (Nat.le_refl _) new
    refine ⟨.ref s.heap.objs.size, _, I1, rfl, ⟨_, x, rfl, I.hok.fresh (Nat.le_refl _), rfl, fun ys hy => by rw [I.tuple_inj hy hq]; exact hx⟩, ⟨⟨x2, ?_⟩, hst'.1.at fun o q => (sb.2 it (Ne.symm hne)).trans q, hne⟩, fun b hb => ?_⟩
    · have e1 : ((i + 1 : Nat) : Int) = (i : Int) + 1 := by omega
      rw [e1]
      exact he'
    · have hb' : b < s.heap.objs.size := by
        have e' : b = e ∨ b = it := by simpa using hb
        rcases e' with z | z
        · rw [z]
          exact hel
        · rw [z]
          exact hil
      rw [upd_ne (Nat.ne_of_lt hb')]
      exact (hf b hb).1
  done := by
    intro X hP hw hK hc i pins s σ H E I hf st hg
    subst hP hw hK
    obtain ⟨⟨old, he⟩, hit, hne⟩ := st
    obtain ⟨xs, hq, hx⟩ := hg
    obtain ⟨its, rv, p, hz⟩ := I.tuple hq
    obtain ⟨f0, f1, f2, f3, f4, f5⟩ := hf it (by simp)
    have hl := rv.length
    exact enumT_end (I.ok.hd hc) he hit p (by simp; omega) fun h' eb => ⟨rfl, I.turned (t' := s.toks) (fun b o hb q => eb b o hb q) f0 f1 f3 f4 f5⟩
  self := fun A i s Q E st h => let ⟨⟨_, he⟩, _⟩ := st; wpAny_pyIter_enum he h
def iEnumT (K : PySem.W.Frag) (ta : TA) : TI := fun σ H R => ta σ H fun vs H1 => ∃ a xs, vs = [.ref a] ∧ SqT K H1 a xs ∧ R (Itet K a) H1
theorem pi_enumT {X : Cx} {e : Expr} {ta : TA} {p pos tpos : Pos} {elts : List Expr} {kk : Nat} (hg : Gl X "enumerate") (hm : X.mg "enumerate" = none) (ha : PA X [e] ta) (hs : starEach [e] X.env = [(false, eval e X.env)] := by rfl) :
    PI X (.Tuple elts kk tpos) (.Call (.Name "enumerate" p) [e] [] pos) (iEnumT X.K ta) := by
  refine ⟨fun pins s σ H R I h => ?_⟩
  refine Call_ (ld_blt I hg hm boot_enumerate (PyProof.Rows.callWith_type1 (thn (ha.run pos pins s σ H _ I h) fun us s1 ⟨vs, H1, I1, r1, q1⟩ => ?_) hs rfl))
  obtain ⟨a, xs, rfl, hq, q⟩ := q1
  obtain ⟨u, rfl, ru⟩ := vals1 r1
  have eu : u = Value.ref a := ru
  subst eu
  obtain ⟨its, rv, pt, hz⟩ := I1.tuple hq
  have al : a < s1.heap.objs.size := by
    obtain ⟨o, ho, _⟩ := pt
    exact Heap.lt_size ho
  refine enum_tuple pt fun h' he hit hsz hk => wpAny_pyIter_enum he ?_
  have I2 : Inv X pins σ H1 { s1 with heap := h' } := I1.kept (t' := s1.toks) hk
  refine ⟨s1.heap.objs.size + 1, [s1.heap.objs.size + 1, s1.heap.objs.size], _, _, H1, rfl, I2, turn_enumT a (s1.heap.objs.size + 1) s1.heap.objs.size (Nat.ne_of_lt al) (Nat.ne_of_gt (Nat.lt_succ_of_lt al)), ⟨⟨.none, he⟩, hit, Nat.succ_ne_self _⟩, fun b hb => ?_, q⟩
  have hle : s1.heap.objs.size ≤ b := by
    have e' : b = s1.heap.objs.size + 1 ∨ b = s1.heap.objs.size := by simpa using hb
    rcases e' with z | z
    · rw [z]
      exact Nat.le_succ _
    · rw [z]
      exact Nat.le_refl _
  exact I1.fpOk hle (I1.hok.fresh hle)
end LG
set_option Elab.async false
set_option linter.all false
set_option maxRecDepth 100000
set_option maxHeartbeats 3200000
/-! len(set(xs)), xs a list of texts. -/
namespace LG
open PySem PySem.Spec PyProof.Rows L2
/-- unlike ones, as they are first met -/
def uniq1 (acc : List Str) (x : Str) : List Str := if acc.any (· == x) then acc else acc ++ [x]
def uniq (xs : List Str) : List Str := xs.foldl uniq1 []
theorem uniq_snoc (xs : List Str) (x : Str) : uniq (xs ++ [x]) = uniq1 (uniq xs) x := by
  unfold uniq
  rw [List.foldl_append]
  rfl
theorem uniq1_len (acc : List Str) (x : Str) : (uniq1 acc x).length = if acc.any (· == x) then acc.length else acc.length + 1 := by
  unfold uniq1
  split <;> simp
theorem uniq1_any (acc : List Str) (x k : Str) : (uniq1 acc x).any (· == k) = (acc.any (· == k) || decide (k = x)) := by
  unfold uniq1
  by_cases h : acc.any (· == x) = true
  · rw [if_pos h]
    by_cases e : k = x
    · subst e
      rw [h]
      simp
    · simp [e]
  · rw [if_neg h, List.any_append]
    by_cases e : k = x
    · subst e
      simp
    · have hb : (x == k) = false := by simpa [beq_iff_eq] using (fun q : x = k => e q.symm)
      simp [hb, e]
theorem uniq_take {xs : List Str} {i : Nat} (h : i < xs.length) : uniq (xs.take (i + 1)) = uniq1 (uniq (xs.take i)) (xs.getD i Str.empty) := by
  rw [List.take_add_one, List.getElem?_eq_getElem h, List.getD_eq_getElem?_getD, List.getElem?_eq_getElem h]
  exact uniq_snoc _ _
theorem uniq_le : ∀ (xs : List Str) (i : Nat), i ≤ xs.length → (uniq (xs.take i)).length ≤ i
  | xs, 0, _ => by simp [uniq]
  | xs, i + 1, h => by
    rw [uniq_take h, uniq1_len]
    have := uniq_le xs i (Nat.le_of_lt h)
    split <;> omega
/-- the set that is being filled -/
def Fills (P : Program) (w : World) (h : Heap) (S : Addr) (xs : List Str) (i : Nat) : Prop := h.SetOf (PySem.strKind P w) S (fun k => (uniq (xs.take i)).any (· == k)) (uniq (xs.take i)).length
section
variable {P : Program} {w : World} {A : Around} {R : Result → Shared → Prop} {I : Addr} {fp wr : List Addr} {G : Array GenState → Array GenState → Prop} {n : Nat} {Pv : Nat → Value → Prop} {St : Nat → Shared → Prop}
theorem fill_loop (W : WalksS P w A.in1 I fp wr G n Pv St) (S : Addr) (out : S ∉ fp) (xs : List Str) (len : xs.length = n) (room : n + 1 < scanBound) (val : ∀ i v, Pv i v → ∃ t, v = .str (xs.getD i Str.empty) t) :
    ∀ (k i : Nat) (s : Shared), n - i = k → i ≤ n → St i s → Fills P w s.heap S xs i → (∀ s', Moved (S :: wr) G s s' → Fills P w s'.heap S xs n → R (.ok (.ret .none)) s') →
      codeAny (model P w) A (.builtin "set.update.loop" ⟨[.ref S, .ref I], []⟩) R s := by
  have outW : S ∉ wr := fun h => out (W.sub _ h)
  have up : ∀ b ∈ wr, b ∈ S :: wr := fun b hb => List.mem_cons_of_mem _ hb
  have kept : ∀ {s s' : Shared} {i : Nat}, Moved wr G s s' → Fills P w s.heap S xs i → Fills P w s'.heap S xs i := by
    rintro s s' i m ⟨o, es, ep, t, ho, rest⟩
    exact ⟨o, es, ep, t, m.heap S _ outW ho, rest⟩
  intro k
  induction k with
  | zero =>
    intro i s hk hi hst hS hR
    have e : i = n := by omega
    subst e
    refine codeAny_builtin PyProof.Rows.F.entry_set_update_loop ?_
    rw [Around.under_plainId PyProof.Rows.F.plain_set_update_loop _]
    show wpAny _ A.in1 (pyNext (.ref I) >>= _) _ _ s
    refine wpAny_bind (W.done s _ _ hst fun s' m => ?_)
    show wpAny _ A.in1 (ret Value.none) _ _ s'
    exact wpAny_pure (hR s' (m.mono up) (kept m hS))
  | succ k ih =>
    intro i s hk hi hst hS hR
    have lt : i < n := by omega
    refine codeAny_builtin PyProof.Rows.F.entry_set_update_loop ?_
    rw [Around.under_plainId PyProof.Rows.F.plain_set_update_loop _]
    show wpAny _ A.in1 (pyNext (.ref I) >>= _) _ _ s
    refine wpAny_bind (W.item i s _ _ lt hst fun v s1 pv st1 m => ?_)
    obtain ⟨t, rfl⟩ := val i v pv
    have S1 := kept m hS
    show wpAny _ A.in1 (holding [Value.str (xs.getD i Str.empty) t] (setAdd S (.str (xs.getD i Str.empty) t)) >>= _) _ _ s1
    refine wpAny_bind (wpAny_holding ?_)
    unfold setAdd
    refine wpAny_holding (wpAny_bind ((PySem.strKind P w).pyHash (k := xs.getD i Str.empty) (strKind_is _ _ _ _) ?_))
    have few := uniq_le xs i (by omega)
    refine wpAny_setAddHashed_of (knd := PySem.strKind P w) (s := { s1 with toks := s1.toks + 1 }) (strKind_is _ _ _ _) rfl S1 (by omega) fun h' sb S2 => ?_
    have S3 : Fills P w h' S xs (i + 1) := by
      unfold Fills
      rw [uniq_take (by omega)]
      exact SetOf_congr S2 (fun k' => (uniq1_any _ _ _).symm) (uniq1_len _ _).symm
    refine wpAny_pure ⟨plainId_quiet PyProof.Rows.F.plain_set_update_loop _, ih (i + 1) _ (by omega) lt (W.frame _ s1 _ _ st1 (Nat.le_succ _) fun b hb o e => ?_) S3 fun s2 m2 S4 => ?_⟩
    · rw [sb.2 b (fun q : b = S => out (by rw [← q]; exact hb))]
      exact e
    · refine hR s2 (Moved.trans W.gtrans ((m.mono up).then_heap (Nat.le_succ _) fun b o hb e => ?_) m2) S4
      rw [sb.2 b (fun q : b = S => hb (by rw [q]; exact List.mem_cons_self))]
      exact e
end
/-- a new set -/
abbrev newSet (led : Bool) : Obj := { cls := .type "set", dict := none, data := .set #[] 0 (.fresh 0 0 led) }
section
variable {P : Program} {w : World} {A : Around} {E : Value → Shared → Prop} {s : Shared}
theorem set_of_strs {l : Addr} {items : Array Value} {xs : List Str} {Q : Value → Shared → Prop} (hh : A.handled = none) (hl : s.heap.IsList l items) (hi : StrsAre items.toList xs) (room : xs.length + 1 < scanBound)
    (h : ∀ (h' : Heap) (tk : Nat), Fills P w h' s.heap.objs.size xs xs.length → (∀ b o, b < s.heap.objs.size → s.heap.get? b = some o → h'.get? b = some o) → Q (.ref s.heap.objs.size) { s with heap := h', toks := tk }) :
    wpAny (model P w) A (call (.type "set") [.ref l]) Q E s := by
  obtain ⟨c, tl, hmro⟩ := PySem.F.called_set.mro
  have made := PySem.F.called_set.made
  have sub := PySem.F.called_set.sub
  refine wpAny_call (codeAny_of_tree ?_)
  show wpAny _ _ (callAny (.type "set") _) _ _ _
  refine wpAny_pure ⟨Code.quiet_builtin _ (by decide +kernel), codeAny_builtin PySem.F.entry_type_call ?_⟩
  rw [Around.under_plain (weight_type_call_type "set" [.ref l] []) rfl]
  have f1 := PySem.F.called_set.notType
  have f2 := PySem.F.called_set.canCreate
  have f3 := PySem.F.typeCall_set_1 (.ref l)
  repeat (any_goals (first | assumption | wp_step))
  refine codeAny_mono (code_set_new_1 (.ref l) (E := E) (Q₁ := fun obj z => ∃ led : Bool, obj = .ref s.heap.objs.size ∧ z = { s with heap := s.heap.push (newSet led) }) fun led => ⟨led, rfl, rfl⟩) fun r z hr => ?_
  match r, hr with
  | .error e, hr => exact hr
  | .ok .next, hr => exact hr.elim
  | .ok .brk, hr => exact hr.elim
  | .ok .cont, hr => exact hr.elim
  | .ok (.ret obj), hr =>
    obtain ⟨led, rfl, rfl⟩ := hr
    have new : (s.heap.push (newSet led)).get? s.heap.objs.size = some (newSet led) := Heap.get?_push_size _ rfl
    have hT : Shared.TypeIs { s with heap := s.heap.push (newSet led) } (.ref s.heap.objs.size) "set" := ⟨_, new, rfl⟩
    have g1 := PySem.F.called_set.init.lookup
    have g2 := PySem.F.called_set.init.bind (.ref s.heap.objs.size)
    repeat (any_goals (first | assumption | wp_step))
    refine codeAny_mono (codeAny_call_builtin (R := wants (fun r z => r = .none ∧ ∃ h' tk, z = { s with heap := h', toks := tk } ∧ Fills P w h' s.heap.objs.size xs xs.length ∧ (∀ b o, b < s.heap.objs.size → s.heap.get? b = some o → h'.get? b = some o)) E)
      PySem.F.called_set.init.plain PySem.F.entry_set_init (check_set_init_1 hT ?_)) fun r2 z2 hr2 => ?_
    · obtain ⟨⟨oc, od, dt, sl⟩, ol, cl, nl, dl⟩ := hl
      simp only at cl dl
      subst cl
      subst dl
      have ol1 : (s.heap.push (newSet led)).get? l = some { cls := .type "list", dict := od, data := .seq items nl, slots := sl } := Heap.get?_push_of_some _ ol
      have q1 := PySem.F.sub_list_set
      have q2 := PySem.F.sub_list_frozenset
      have q3 : (Value.type "list" == Value.type "dict") = false := by decide
      have hl1 : (s.heap.push (newSet led)).IsList l items := ⟨_, ol1, rfl, nl, rfl⟩
      unfold Builtin.«set.__init__» noKeywords Builtin.Frozenset.updateFrom
      generalize hPI : pyIter = PI
      wp_walk
      subst hPI
      refine wpAny_pyIter_list hl1 (wpAny_bind (wpAny_runValue ?_))
      have ltS : l < s.heap.objs.size := Heap.lt_size ol
      have zS : (s.heap.push (newSet led)).objs.size = s.heap.objs.size + 1 := Heap.size_push ..
      have h3 : A.in1.in1.in1.handled = none := by simp [hh]
      have n1 : l ≠ (s.heap.push (newSet led)).objs.size := by
        rw [zS]
        exact Nat.ne_of_lt (Nat.lt_succ_of_lt ltS)
      have n2 : s.heap.objs.size ∉ [(s.heap.push (newSet led)).objs.size, l] := by
        rw [zS]
        intro q
        rcases List.mem_cons.mp q with q | q
        · exact Nat.ne_of_lt (Nat.lt_succ_self _) q
        · exact Nat.ne_of_gt ltS (List.mem_singleton.mp q)
      have len : xs.length = items.size := by rw [← StrsAre.len_eq hi, Array.length_toList]
      have val : ∀ (i : Nat) (v : Value), items[i]? = some v → ∃ t, v = .str (xs.getD i Str.empty) t := fun i v hv => SS.strs_at hi i v (by rw [Array.getElem?_toList]; exact hv)
      refine fill_loop ((Walks.list h3 _ l n1 items).toS) s.heap.objs.size n2 xs len (by omega) val (items.size - 0) 0 _ (by omega) (Nat.zero_le _) ⟨⟨_, Heap.get?_push_size _ rfl, rfl, rfl⟩, (hl1.push _)⟩ ?start ?stop
      case start =>
        have at_ : ((s.heap.push (newSet led)).push { cls := .type "list_iterator", data := .fields #[.ref l, .int 0 0] }).get? s.heap.objs.size = some (newSet led) := Heap.get?_push_of_some _ new
        exact SetOf_congr ((PyProof.Rows.setObjOf_fresh (knd := PySem.strKind P w) led).setOf at_ (by unfold scanBound; omega)) (fun _ => rfl) rfl
      case stop =>
        intro s' m S'
        obtain ⟨h', g', d', tk', os'⟩ := s'
        have e1 : g' = s.gens := m.gens
        have e2 : d' = s.drawn := m.drawn
        have e3 : os' = s.os := m.os
        subst e1 e2 e3
        show wpAny _ _ _ _ _ _
        refine wpAny_pure ?_
        show wpAny _ _ (ret Value.none) _ _ _
        rw [← len] at S'
        refine wpAny_pure ⟨rfl, h', tk', rfl, S', fun b o hb e => ?_⟩
        refine m.heap b o (fun q => ?_) (Heap.get?_push_of_some _ (Heap.get?_push_of_some _ e))
        rcases List.mem_cons.mp q with q | q
        · exact Nat.ne_of_lt hb q
        · have := List.mem_singleton.mp q
          rw [this, zS] at hb
          omega
    · match r2, hr2 with
      | .error e, hr2 => exact hr2
      | .ok .next, hr2 => exact hr2.elim
      | .ok .brk, hr2 => exact hr2.elim
      | .ok .cont, hr2 => exact hr2.elim
      | .ok (.ret r), hr2 =>
        obtain ⟨rfl, h', tk, rfl, S', k'⟩ := hr2
        repeat (any_goals (first | assumption | wp_step))
        exact h _ _ S' k'
end
/-- len(set(xs)) -/
def tLenSetS (K : PySem.W.Frag) (ta : TE) : TE := fun σ H Q => ta σ H fun x H1 => ∃ (l : Addr) (xs : List Str), x = .ref l ∧ SqL K H1 l (xs.map V.str) ∧ xs.length ≤ 4000 ∧ Q (.int ((uniq xs).length : Nat)) H1
theorem pe_lenSetS {X : Cx} {a : Expr} {ta : TE} {p p2 q pos : Pos} (hg : Gl X "len") (hm : X.mg "len" = none) (hg2 : Gl X "set") (hm2 : X.mg "set" = none) (ha : PE X a ta) (hc : X.calm = true := by rfl)
    (na : starEach [a] X.env = (false, eval a X.env) :: starEach [] X.env := by rfl) : PE X (.Call (.Name "len" p) [.Call (.Name "set" p2) [a] [] q] [] pos) (tLenSetS X.K ta) := by
  refine ⟨fun pins s σ H Q I h => Call_ (ld_blt I hg hm boot_len (PyProof.Rows.callWith_builtin1 (PyProof.Rows.args_cons ?_ rfl) rfl rfl))⟩
  refine Call_ (ld_blt I hg2 hm2 boot_set (PyProof.Rows.callWith_type1 (PyProof.Rows.args_cons (thn (ha.run pins s σ H _ I h) fun v s1 ⟨x, H1, I1, r1, q1⟩ => PyProof.Rows.args_nil ?_) na) na rfl))
  obtain ⟨l, xs, rfl, hq, hl, q1⟩ := q1
  have ev : v = Value.ref l := r1
  subst ev
  obtain ⟨its, r, pl, hz⟩ := I1.list hq
  have few := uniq_le xs xs.length (Nat.le_refl _)
  have sb : scanBound = 4096 := rfl
  refine set_of_strs (I1.ok.hd hc) pl.isList (by simpa using strsAre_of r) (by omega) fun h' tk S' k' => PyProof.Rows.args_nil ?_
  unfold Fills at S'
  rw [List.take_length] at S' few
  obtain ⟨o, es, ep, t, ho, hex, hd, _, _, _, hf, hn⟩ := S'
  have I2 : Inv X pins σ H1 { s1 with heap := h', toks := tk } := I1.kept fun b o e => k' b o (Heap.lt_size e) e
  exact call_len_set ho hex hd hf (by rw [hn]; omega) ⟨.int ((uniq xs).length : Nat), H1, I2.tok _, ⟨_, by rw [hn]⟩, q1⟩
theorem uniq1_mem {acc : List Str} {x y : Str} : y ∈ uniq1 acc x ↔ y ∈ acc ∨ y = x := by
  have h := uniq1_any acc x y
  constructor
  · intro q
    have e : (uniq1 acc x).any (· == y) = true := List.any_eq_true.mpr ⟨y, q, beq_self_eq_true y⟩
    rw [h, Bool.or_eq_true] at e
    rcases e with e | e
    · obtain ⟨z, hz, ez⟩ := List.any_eq_true.mp e
      rw [beq_iff_eq] at ez
      exact .inl (ez ▸ hz)
    · exact .inr (of_decide_eq_true e)
  · intro q
    have e : (uniq1 acc x).any (· == y) = true := by
      rw [h, Bool.or_eq_true]
      rcases q with q | q
      · exact .inl (List.any_eq_true.mpr ⟨y, q, beq_self_eq_true y⟩)
      · exact .inr (decide_eq_true q)
    obtain ⟨z, hz, ez⟩ := List.any_eq_true.mp e
    rw [beq_iff_eq] at ez
    exact ez ▸ hz
theorem uniq_rev (ys : List Str) : ∀ xs : List Str, ys = xs.reverse → ((∀ y, y ∈ uniq xs ↔ y ∈ xs) ∧ (uniq xs).length ≤ xs.length ∧ ((uniq xs).length = xs.length ↔ xs.Nodup)) := by
  induction ys with
  | nil =>
    intro xs h
    have : xs = [] := by simpa using h.symm
    subst this
    simp [uniq]
  | cons y r ih =>
    intro xs h
    have e : xs = r.reverse ++ [y] := by
      have := congrArg List.reverse h
      simpa using this.symm
    obtain ⟨m, l, n⟩ := ih r.reverse (by simp)
    rw [e, uniq_snoc]
    generalize r.reverse = xs0 at m l n
    refine ⟨fun z => ?_, ?_, ?_⟩
    · rw [uniq1_mem, m z]
      simp
    · rw [uniq1_len, List.length_append, List.length_singleton]
      split <;> omega
    · rw [uniq1_len, List.length_append, List.length_singleton, List.nodup_append]
      by_cases c : (uniq xs0).any (· == y) = true
      · rw [if_pos c]
        obtain ⟨z, hz, ez⟩ := List.any_eq_true.mp c
        rw [beq_iff_eq] at ez
        subst ez
        have hz := (m z).mp hz
        constructor
        · intro q
          omega
        · rintro ⟨_, _, q⟩
          exact absurd rfl (q z hz z (by simp))
      · rw [if_neg c]
        have no : y ∉ xs0 := fun q => c (List.any_eq_true.mpr ⟨y, (m y).mpr q, beq_self_eq_true y⟩)
        constructor
        · intro q
          refine ⟨n.mp (by omega), by simp, fun a ha b hb => ?_⟩
          rw [List.mem_singleton.mp hb]
          exact fun z => no (z ▸ ha)
        · rintro ⟨q, _⟩
          have := n.mpr q
          omega
theorem uniq_len (xs : List Str) : (uniq xs).length ≤ xs.length ∧ ((uniq xs).length = xs.length ↔ xs.Nodup) := (uniq_rev xs.reverse xs (by simp)).2
end LG
set_option Elab.async false
set_option linter.all false
set_option maxRecDepth 100000
set_option maxHeartbeats 2000000
/-! len, in, ==, != by an own class's defs. -/
namespace LG
open PySem PySem.Spec PyProof.Rows L2
section
open PySem.W
variable {prog : Program} {w : World} {A : Around} {E : Value → Shared → Prop} {s : Shared} {K : Frag} {x C f : Addr} {ox : Obj} {od : Option Obj} {b tb : Value}
/-- x != b by the text's own ==, where no class behind says what != is -/
theorem ne_by_eq {Q : Value → Shared → Prop} (room : A.units + 1 < cLine) (X : K.In s.heap) (I : PySem.W.InstAt s.heap x ox C od) (tyb : Looks (model prog w) s.heap (typeOf b) tb) (nf : notFirst K C tb = true)
    (fne : findIn K (.ref C) "__ne__" = some (some (.builtin "object.__ne__"))) (isO : mroIn K C (.type "object") = some true) (feq : findIn K (.ref C) "__eq__" = some (some (.ref f))) (fn : isFn K (.ref f) = true)
    (h : wpAny (model prog w) A.in1 (call (.ref f) [.ref x, b]) (fun v z => ∃ r, v = .bool r ∧ Q (.bool (!r)) z) E s) : wpAny (model prog w) A (richCompare .NotEq (.ref x) b) Q E s := by
  have sub : Looks (model prog w) s.heap (isInstance (.ref x) (.type "object")) true := I.type.andThen (looks_mroIn X isO)
  have S := PySem.F.cmp_object.ne
  have body : ∀ {R : Fin → Shared → Prop}, (∀ r z, Q (.bool (!r)) z → R (.done (.ret (.bool (!r)))) z) → wpAny (model prog w) A.in1 (Builtin.«object.__ne__» ⟨[.ref x, b], []⟩) R E s := by
    intro R k
    unfold Builtin.«object.__ne__»
    have room1 : A.in1.units < cLine := room
    repeat (first
      | with_reducible refine wpAny_cRoomFor room1 ?_
      | (refine wpAny_bind (m := callSpecialIfBound? (.ref x) (Str.ofString "__eq__") [b]) (ifBound_K X I feq fn (wpAny_mono h (fun v z hv => ?_) fun _ _ e => e)))
      | wp_step)
    obtain ⟨r, rfl, q⟩ := hv
    repeat (first | exact k r _ q | exact wpAny_pure (k r _ q) | exact wpAny_truthy_bool (k r _ q) | (refine wpAny_bind (m := truthy (.bool _)) (wpAny_truthy_bool ?_)) | wp_step)
  have one : wpAny (model prog w) A (tryCompare (.ref x) "__ne__" b) (fun r z => ∃ v, r = some v ∧ Q v z) E s := by
    simp only [tryCompare]
    refine wpAny_bind ?_
    simp only [callSpecialIfBound?, bindSpecialIfBound?]
    refine wpAny_holding (wpAny_bind (wpAny_bind (wpAny_bind (I.type.here ((looks_findIn X fne).here ?_)))))
    simp only [S.bind]
    have run : wpAny (model prog w) A (call (.builtin "object.__ne__") ([.ref x] ++ [b]) >>= fun v => pure (some v)) (fun r z => wpAny (model prog w) A (match r with | some .notImplemented | none => pure none | some v => pure (some v)) (fun r z => ∃ v, r = some v ∧ Q v z) E z) E s := by
      refine wpAny_bind (wpAny_call (codeAny_call_builtin S.plain PySem.F.cmpEntry_ne (check_slot PySem.F.cmpKind_ne PySem.F.cmpSplit_ne sub (PySem.F.cmpArgs_ne _ _) (body fun r z q => ?_))))
      exact wpAny_pure (wpAny_pure ⟨_, rfl, q⟩)
    refine wpAny_bind (wpAny_askSetting (wpAny_ite ?_))
    split
    · exact wpAny_bind (wpAny_pure (wpAny_pure run))
    · exact wpAny_tryCatch (wpAny_bind (wpAny_pure (wpAny_pure run)))
  unfold richCompare
  simp only [oneThing_ref]
  refine wpAny_holding (wpAny_bind (wpAny_cRoomFor (Nat.lt_of_succ_lt room) ?_))
  rw [cmpInfo_NotEq]
  dsimp only
  refine wpAny_bind (I.type.here (wpAny_bind (tyb.here ?_)))
  have fin : wpAny (model prog w) A (tryCompare (.ref x) "__ne__" b) (fun r z => ∃ v, r = some v ∧ Q v z) E s := one
  by_cases q : (Value.ref C != tb) = true
  · rw [if_pos q]
    have e : subIn K tb (.ref C) = some false := by
      rcases Bool.or_eq_true_iff.mp nf with e | e
      · rw [beq_iff_eq.mp e] at q
        simp at q
      · exact beq_iff_eq.mp e
    refine wpAny_bind ((looks_subIn X e).here ?_)
    simp only [Bool.false_eq_true, if_false]
    refine wpAny_bind (wpAny_mono fin (fun r z hz => ?_) fun _ _ e => e)
    obtain ⟨v, rfl, hq⟩ := hz
    exact wpAny_pure hq
  · rw [if_neg q]
    refine wpAny_bind (wpAny_pure ?_)
    simp only [Bool.false_eq_true, if_false]
    refine wpAny_bind (wpAny_mono fin (fun r z hz => ?_) fun _ _ e => e)
    obtain ⟨v, rfl, hq⟩ := hz
    exact wpAny_pure hq
end
end LG
set_option Elab.async false
set_option linter.all false
set_option maxRecDepth 100000
set_option maxHeartbeats 2000000
namespace LG
open PySem PySem.Spec PyProof.Rows L2
section
variable {X : Cx} {pins : List (Addr × Obj)} {σ : L2.St} {H : Hp} {s : Shared} {k : Nat} {f C : Addr} {fd : FuncData} {ps : List Str} {sp : Sp}
/-- a def is run somewhere below the running body -/
theorem fn_at {A : Around} {Q : VK} {us : List Value} {vs : List V} (F : FnOk X.prog X.w X.K X.mg X.base CX0 k f fd ps sp) (hr : Room k A) (e0 : Env0 X.prog X.w X.K X.mg X.base A X.stack s H) (hb : Binds X.K fd ps []) (I : Inv X pins σ H s) (r : Vals vs us) (h : sp vs H Q E0) :
    wpAny (model X.prog X.w) A (call (.ref f) us) (EP X pins σ Q) X.xe s := by
  have hl : (us ++ []).length = ps.length := by
    rw [List.append_nil, ← r.length]
    exact F.len _ _ _ _ h
  have hb' := hb s us I.kIn hl
  rw [List.append_nil] at hb'
  refine wpAny_call (codeAny_mono (F.run A X.stack s H ⟨us, []⟩ us vs Q E0 hr e0 hb' r h) fun res z' q => ?_)
  match res, q with
  | .ok (.ret u), q => exact I.after q
  | .ok .next, q => exact q.elim
  | .ok .brk, q => exact q.elim
  | .ok .cont, q => exact q.elim
  | .error _, q => exact q.elim
theorem ins_look {a dx : Addr} {fs : List (Str × V)} (I : Inv X pins σ H s) (h : H a = some (.ins C dx fs)) : ∃ (ox : Obj) (od : Option Obj), PySem.W.InstAt s.heap a ox C od := by
  obtain ⟨mA, J, _⟩ := ins_get I.hok h
  obtain ⟨od, J, _⟩ := J.look
  exact ⟨_, _, J⟩
/-- len(x), x an instance of the class at C -/
def rOwnLen (C : Addr) (sp : Sp) : List V → Hp → VK → Prop := fun xs H Q => ∃ a dx fs, xs = [.ref a] ∧ H a = some (.ins C dx fs) ∧ sp [.ref a] H (fun v H' => ∃ n : Nat, v = .int n ∧ (n : Int) < 2 ^ 63 ∧ Q (.int n) H') E0
theorem call_ownLen (hs : PySem.W.findIn X.K (.ref C) "__len__" = some (some (.ref f))) (hf : PySem.W.isFn X.K (.ref f) = true) (F : FnOk X.prog X.w X.K X.mg X.base CX0 k f fd ps sp) (hb : Binds X.K fd ps []) (hr : Room (k + 1) X.A) : CallR X (.builtin "len") (rOwnLen C sp) := by
  intro pins s σ H xs us Q I r h
  obtain ⟨a, dx, fs, rfl, ha, q⟩ := h
  obtain ⟨u, rfl, ru⟩ := vals1 r
  have eu : u = Value.ref a := ru
  subst eu
  obtain ⟨ox, od, J⟩ := ins_look I ha
  obtain ⟨m, hF⟩ := I.fr
  refine PySem.W.len_K hF I.ok.mod.kin J hs hf (wpAny_mono (fn_at (vs := [.ref a]) F (Room.in1 hr) I.env0.in1 hb I (.cons rfl .nil) q) (fun w z hz => ?_) fun _ _ e => e)
  obtain ⟨v, H', I', rv, n, rfl, hn, q'⟩ := hz
  obtain ⟨t, rfl⟩ := rv
  exact ⟨⟨by omega, hn⟩, .int n, H', I'.tok _, ⟨_, rfl⟩, q'⟩
/-- y in x, x an instance of the class at C -/
def rOwnIn (C : Addr) (sp : Sp) (neg : Bool) : R2 := fun y x H Q => ∃ a dx fs, x = .ref a ∧ H a = some (.ins C dx fs) ∧ sp [.ref a, y] H (fun v H' => ∃ b, v = .bl b ∧ Q (.bl (if neg then !b else b)) H') E0
theorem op_ownIn (hs : PySem.W.findIn X.K (.ref C) "__contains__" = some (some (.ref f))) (hf : PySem.W.isFn X.K (.ref f) = true) (F : FnOk X.prog X.w X.K X.mg X.base CX0 k f fd ps sp) (hb : Binds X.K fd ps []) (hr : Room k X.A) : OpR X (compareOp .In) (rOwnIn C sp false) := by
  intro pins s σ H y x v u Q I ry rx h
  obtain ⟨a, dx, fs, rfl, ha, q⟩ := h
  have eu : u = Value.ref a := rx
  subst eu
  obtain ⟨ox, od, J⟩ := ins_look I ha
  obtain ⟨m, hF⟩ := I.fr
  refine PySem.W.in_K hF I.ok.mod.kin J hs hf (wpAny_mono (fn_at (vs := [.ref a, y]) F hr I.env0 hb I (.cons rfl (.cons ry .nil)) q) (fun w z hz => ?_) fun _ _ e => e)
  obtain ⟨v', H', I', rv, b, rfl, q'⟩ := hz
  have ew : w = Value.bool b := rv
  subst ew
  exact wpAny_truthy_bool ⟨.bl b, H', I', rfl, q'⟩
theorem op_ownNotIn (hs : PySem.W.findIn X.K (.ref C) "__contains__" = some (some (.ref f))) (hf : PySem.W.isFn X.K (.ref f) = true) (F : FnOk X.prog X.w X.K X.mg X.base CX0 k f fd ps sp) (hb : Binds X.K fd ps []) (hr : Room k X.A) : OpR X (compareOp .NotIn) (rOwnIn C sp true) := by
  intro pins s σ H y x v u Q I ry rx h
  obtain ⟨a, dx, fs, rfl, ha, q⟩ := h
  have eu : u = Value.ref a := rx
  subst eu
  obtain ⟨ox, od, J⟩ := ins_look I ha
  obtain ⟨m, hF⟩ := I.fr
  refine PySem.W.notIn_K hF I.ok.mod.kin J hs hf (wpAny_mono (fn_at (vs := [.ref a, y]) F hr I.env0 hb I (.cons rfl (.cons ry .nil)) q) (fun w z hz => ?_) fun _ _ e => e)
  obtain ⟨v', H', I', rv, b, rfl, q'⟩ := hz
  have ew : w = Value.bool b := rv
  subst ew
  exact wpAny_truthy_bool ⟨.bl (!b), H', I', rfl, q'⟩
/-- x == y, x != y, x an instance of the class at C, y of a type that is known -/
def rOwnEq (K : PySem.W.Frag) (C : Addr) (sp : Sp) (neg : Bool) : R2 := fun x y H Q => ∃ a dx fs t, x = .ref a ∧ H a = some (.ins C dx fs) ∧ TyX K H y t ∧ PySem.W.notFirst K C t = true ∧ sp [.ref a, y] H (fun v H' => ∃ b, v = .bl b ∧ Q (.bl (if neg then !b else b)) H') E0
theorem ty_looks {x : V} {u t : Value} (I : Inv X pins σ H s) (rx : RelV x u) (ty : TyX X.K H x t) : PySem.W.Looks (model X.prog X.w) s.heap (typeOf u) t := by
  obtain ⟨P, Z, p, _⟩ := kit_of I rx ty
  exact Z.ty _ _ I.kIn p
theorem op_ownEq (hs : PySem.W.findIn X.K (.ref C) "__eq__" = some (some (.ref f))) (hf : PySem.W.isFn X.K (.ref f) = true) (F : FnOk X.prog X.w X.K X.mg X.base CX0 k f fd ps sp) (hb : Binds X.K fd ps []) (hr : Room k X.A) : OpR X (compareOp .Eq) (rOwnEq X.K C sp false) := by
  intro pins s σ H x y v u Q I rx ry h
  obtain ⟨a, dx, fs, t, rfl, ha, ty, nf, q⟩ := h
  have ev : v = Value.ref a := rx
  subst ev
  obtain ⟨ox, od, J⟩ := ins_look I ha
  obtain ⟨m, hF⟩ := I.fr
  show wpAny _ _ (richCompare .Eq (.ref a) u) _ _ _
  refine PySem.W.cmp_K (op := .Eq) hr.units0 hF I.ok.mod.kin J (ty_looks I ry ty) nf hs hf (wpAny_mono (fn_at (vs := [.ref a, y]) F hr I.env0 hb I (.cons rfl (.cons ry .nil)) q) (fun w z hz => ?_) fun _ _ e => e)
  obtain ⟨v', H', I', rv, b, rfl, q'⟩ := hz
  have ew : w = Value.bool b := rv
  subst ew
  exact ⟨.bl b, H', I', rfl, q'⟩
theorem op_ownNe (hs : PySem.W.findIn X.K (.ref C) "__eq__" = some (some (.ref f))) (hf : PySem.W.isFn X.K (.ref f) = true) (hn : PySem.W.findIn X.K (.ref C) "__ne__" = some (some (.builtin "object.__ne__"))) (ho : PySem.W.mroIn X.K C (.type "object") = some true)
    (F : FnOk X.prog X.w X.K X.mg X.base CX0 k f fd ps sp) (hb : Binds X.K fd ps []) (hr : Room (k + 1) X.A) : OpR X (compareOp .NotEq) (rOwnEq X.K C sp true) := by
  intro pins s σ H x y v u Q I rx ry h
  obtain ⟨a, dx, fs, t, rfl, ha, ty, nf, q⟩ := h
  have ev : v = Value.ref a := rx
  subst ev
  obtain ⟨ox, od, J⟩ := ins_look I ha
  show wpAny _ _ (richCompare .NotEq (.ref a) u) _ _ _
  have r1 : Room k X.A.in1 := Room.in1 hr
  refine ne_by_eq r1.units0 I.kIn J (ty_looks I ry ty) nf hn ho hs hf (wpAny_mono (fn_at (vs := [.ref a, y]) F r1 I.env0.in1 hb I (.cons rfl (.cons ry .nil)) q) (fun w z hz => ?_) fun _ _ e => e)
  obtain ⟨v', H', I', rv, b, rfl, q'⟩ := hz
  have ew : w = Value.bool b := rv
  subst ew
  exact ⟨b, rfl, .bl (!b), H', I', rfl, q'⟩
end
end LG
set_option Elab.async false
set_option linter.all false
set_option maxRecDepth 100000
set_option maxHeartbeats 2000000
namespace LG
open PySem PySem.Spec PyProof.Rows L2
section
variable {X : Cx} {o : Expr} {f : Str} {pos : Pos} {to : TE}
/-- o.f as one of several targets -/
def gFld (K : PySem.W.Frag) (to : TE) (f : Str) : TG := fun v σ H Q => to σ H fun x H2 => ∃ a C dx fs, x = .ref a ∧ H2 a = some (.ins C dx fs) ∧ Cls K C ∧ NoAttr K C f ∧ fs.length < 1000 ∧ Q σ (upd H2 a (.ins C dx (putF f v fs)))
theorem assign_at {M : Model} {A : Around} {E : Value → Shared → Prop} {s : Shared} {env : Env} {u : Value} {Q : Unit → Shared → Prop} (h : wpAny M A (eval o env) (fun ov z => wpAny M A (setAttr ov f u) Q E z) E s) : wpAny M A (assign (.Attribute o f pos) env u) Q E s := fun Γ p hΓ => by
  simp only [PySem.assign_Attribute, Sem.wp_bind', Sem.wp_holding, Sem.wp_cmd_standAt, Sem.wp_release, Sem.wp_pure']
  exact Sem.wp_mono M Γ _ (fun ov _ z hz => hz Γ _ hΓ) (fun _ _ _ e => e) _ _ (h Γ _ hΓ)
theorem pg_fld (ho : PE X o to) : PG X (.Attribute o f pos) (gFld X.K to f) := by
  refine ⟨fun pins s σ H v u Q I r hw => assign_at (thn (ho.run pins s σ H _ I hw) fun ov s1 ⟨x, H2, I2, rx, a, C, dx, fs, ex, ea, c, n, l, q⟩ => ?_)⟩
  subst ex
  have eo : ov = Value.ref a := rx
  subst eo
  exact setattr_ok I2 ea c n l r fun s3 I3 => ⟨σ, _, I3, q⟩
end
theorem for_enumT {K : PySem.W.Frag} {a : Addr} {xs : List V} {g : TG} {tb : TS} {D : Ends} {σ : L2.St} {H : Hp} (Pv : Nat → L2.St → Hp → Prop) (h0 : Pv 0 σ H) (hq : ∀ i σ H, Pv i σ H → SqT K H a xs)
    (hs : ∀ (i : Nat) (x : V) (T : Addr) (σ : L2.St) (H : Hp), xs[i]? = some x → Pv i σ H → H T = none → g (.ref T) σ (upd H T (.tup [.int (i : Nat), x])) fun σ2 H2 => tb { D with nx := Pv (i + 1), ct := Pv (i + 1), bk := D.nx } σ2 H2) (hd : ∀ σ H, Pv xs.length σ H → D.nx σ H) :
    ∃ W : Nat → Nat → L2.St → Hp → Prop, (∃ m, W 0 m σ H) ∧ ∀ i m σ H, W i m σ H →
      ((Itet K a).stop i H ∧ D.nx σ H) ∨ ((Itet K a).go i H ∧ ∃ N : L2.St → Hp → Prop, (∀ σ' H', N σ' H' → ∃ m', m' < m ∧ W (i + 1) m' σ' H') ∧ ∀ v H', (Itet K a).yld i H v H' → g v σ H' fun σ2 H2 => tb { D with nx := N, ct := N, bk := D.nx } σ2 H2) := by
  refine ⟨fun i m σ H => m = xs.length - i ∧ i ≤ xs.length ∧ Pv i σ H, ⟨_, rfl, Nat.zero_le _, h0⟩, ?_⟩
  rintro i m σ H ⟨rfl, hi, pv⟩
  have seq := hq i σ H pv
  by_cases more : i < xs.length
  · have there : xs[i]? = some xs[i] := List.getElem?_eq_getElem more
    refine .inr ⟨⟨xs, _, seq, there⟩, Pv (i + 1), fun σ' H' p' => ⟨xs.length - (i + 1), by omega, rfl, more, p'⟩, fun v H' y => ?_⟩
    obtain ⟨T, x', rfl, free, rfl, same⟩ := y
    have e := same xs seq
    rw [there] at e
    cases e
    exact hs i _ T σ H there pv free
  · have e : i = xs.length := by omega
    subst e
    exact .inl ⟨⟨xs, seq, Nat.le_refl _⟩, hd σ H pv⟩
end LG
set_option Elab.async false
set_option linter.all false
set_option maxRecDepth 100000
set_option maxHeartbeats 2000000
/-! What the laws' own small defs have in common: the pot, drawn values that are data. -/
namespace LG
open PySem L2

/-- the built-in names that the defs use -/
structure Bltn (mg : Str → Option Value) : Prop where
  len : mg "len" = none
  sum : mg "sum" = none
  int : mg "int" = none
  abs : mg "abs" = none
  list : mg "list" = none
  range : mg "range" = none
  max : mg "max" = none
  min : mg "min" = none
  isinstance : mg "isinstance" = none
  tuple : mg "tuple" = none
  bool : mg "bool" = none
  str : mg "str" = none
  enumerate : mg "enumerate" = none
  repr : mg "repr" = none
  all : mg "all" = none
  ve : mg "ValueError" = none
  set : mg "set" = none
/-- a pot: own number, seed, how often it was asked (at most b times) -/
def PotAt (H : Hp) (p : Addr) (b : Nat) : Prop := ∃ own sm n : Int, H p = some (.lst [.int own, .int sm, .int n]) ∧ 0 ≤ own ∧ 0 ≤ sm ∧ sm < 2305843009213693951 ∧ 0 ≤ n ∧ n ≤ b
theorem PotAt.same {H H' : Hp} {p : Addr} {b : Nat} (e : Same H H') (h : PotAt H p b) : PotAt H' p b := by
  obtain ⟨own, sm, n, h1, h2⟩ := h
  exact ⟨own, sm, n, e _ _ h1, h2⟩
theorem PotAt.mono {H : Hp} {p : Addr} {b c : Nat} (h : PotAt H p b) (l : b ≤ c) : PotAt H p c := by
  obtain ⟨own, sm, n, h1, h2, h3, h4, h5, h6⟩ := h
  exact ⟨own, sm, n, h1, h2, h3, h4, h5, by omega⟩
/-- all but what stands at p is as it was -/
def But (p : Addr) (H H' : Hp) : Prop := ∀ c o, H c = some o → c ≠ p → H' c = some o
theorem But.trans {p : Addr} {H H1 H2 : Hp} (a : But p H H1) (b : But p H1 H2) : But p H H2 := fun c o h n => b c o (a c o h n) n
theorem But.of {p : Addr} {H H' : Hp} (a : Same H H') : But p H H' := fun c o h _ => a c o h
theorem same_new {H : Hp} {p : Addr} (h : H p = none) (o : HO) : Same H (upd H p o) := fun b u q => by rw [upd_ne (ne_of_none q h)]; exact q
theorem bits60 : (Builtin.Int.intBits ((10 : Int) ^ (60 : Int).toNat) : Int) * 5 ≤ 2 ^ 27 := by decide +kernel
def spPot (K : PySem.W.Frag) : Sp := fun vs H Q _ => ∃ (a : Addr) (ns : List Int) (j : Int), vs = [.ref a, .int j] ∧ SqL K H a (ns.map V.int) ∧ ns.length ≤ 63 ∧ 0 ≤ j ∧ j ≤ 1000 ∧
  ∀ (p : Addr) (H' : Hp), Same H H' → H p = none → PotAt H' p 0 → Q (.ref p) H'
theorem item_there {ns : List Int} {j : Int} (h0 : 0 ≤ j) (h : j < (ns.length : Int)) : ∃ v : Int, atI (ns.map V.int) j = some (.int v) := by
  have hk : j.toNat < ns.length := by omega
  have q : atI (ns.map V.int) ((j.toNat : Nat) : Int) = some (.int ns[j.toNat]) := atI_nat (by rw [List.getElem?_map, List.getElem?_eq_getElem hk] <;> rfl)
  have e : ((j.toNat : Nat) : Int) = j := by omega
  rw [e] at q
  exact ⟨_, q⟩
theorem cut_ints (ns : List Int) (lo hi : Option Int) : ∃ ms : List Int, cutV (ns.map V.int) lo hi = ms.map V.int := by
  unfold cutV
  rw [← List.map_drop, ← List.map_take]
  exact ⟨_, rfl⟩
abbrev rInt1 : List V → Hp → VK → Prop := fun xs H Q => (∃ i, xs = [.int i] ∧ Q (.int i) H) ∨ ∃ k, xs = [.bl k] ∧ Q (.int (if k then 1 else 0)) H
abbrev rAbs : List V → Hp → VK → Prop := fun xs H Q => ∃ i, xs = [.int i] ∧ Q (.int (if i < 0 then -i else i)) H
theorem prime_at {r : Int} (h0 : 0 ≤ r) (h : r < 5) : ∃ v : Int, atI ([.int 2147483647, .int 2147483629, .int 2147483587, .int 2147483579, .int 2147483563] : List V) r = some (.int v) ∧ 1 ≤ v ∧ v ≤ 2147483647 := by
  have e : r = 0 ∨ r = 1 ∨ r = 2 ∨ r = 3 ∨ r = 4 := by omega
  rcases e with rfl | rfl | rfl | rfl | rfl
  · exact ⟨_, rfl, by decide, by decide⟩
  · exact ⟨_, rfl, by decide, by decide⟩
  · exact ⟨_, rfl, by decide, by decide⟩
  · exact ⟨_, rfl, by decide, by decide⟩
  · exact ⟨_, rfl, by decide, by decide⟩
/-! ### one of a list -/
def spOf (K : PySem.W.Frag) : Sp := fun vs H Q _ => ∃ (p l : Addr) (xs : List V) (b : Nat), vs = [.ref p, .ref l] ∧ PotAt H p b ∧ b ≤ 100000 ∧ SqL K H l xs ∧ 0 < xs.length ∧ xs.length ≤ 1000 ∧ l ≠ p ∧
  ∀ (x : V) (H' : Hp), x ∈ xs → But p H H' → PotAt H' p (b + 1) → Q x H'
theorem But.seq {H H' : Hp} {p a : Addr} {xs : List V} (e : But p H H') (ne : a ≠ p) (h : SqL K H a xs) : SqL K H' a xs := by
  rcases h with (h | ⟨o, h⟩) | h
  · exact .inl (.inl (e _ _ h ne))
  · exact .inl (.inr ⟨o, e _ _ h ne⟩)
  · exact .inr h
/-! ### written values that are small data -/
theorem pe_imp {X : Cx} {e : Expr} {t t' : TE} (h : PE X e t) (w : ∀ σ H Q, t' σ H Q → t σ H Q) : PE X e t' := ⟨fun pins s σ H Q I q => h.run pins s σ H Q I (w σ H Q q)⟩
theorem pa_imp {X : Cx} {es : List Expr} {t t' : TA} (h : PA X es t) (w : ∀ σ H Q, t' σ H Q → t σ H Q) : PA X es t' := ⟨fun pos pins s σ H Q I q => h.run pos pins s σ H Q I (w σ H Q q)⟩
def Gd (K : PySem.W.Frag) (n : Nat) (H : Hp) (x : V) : Prop := ∃ d, Dp K H x d ∧ small n d = true
def Gds (K : PySem.W.Frag) (n : Nat) (H : Hp) (xs : List V) : Prop := ∃ ds, DpAll K H xs ds ∧ smalls n ds = true
def Gx (K : PySem.W.Frag) (n : Nat) (H : Hp) (x : V) : Prop := ∃ d, Dx K H x d ∧ small n d = true
theorem Gd.same {K : PySem.W.Frag} {n : Nat} {H H' : Hp} {x : V} (e : Same H H') (h : Gd K n H x) : Gd K n H' x := by
  obtain ⟨d, h1, h2⟩ := h
  exact ⟨d, Dp_same e _ _ h1, h2⟩
theorem Gds.same {K : PySem.W.Frag} {n : Nat} {H H' : Hp} {xs : List V} (e : Same H H') (h : Gds K n H xs) : Gds K n H' xs := by
  obtain ⟨d, h1, h2⟩ := h
  exact ⟨d, DpAll_same e _ _ h1, h2⟩
theorem Gx.same {K : PySem.W.Frag} {n : Nat} {H H' : Hp} {x : V} (e : Same H H') (h : Gx K n H x) : Gx K n H' x := by
  obtain ⟨d, h1, h2⟩ := h
  exact ⟨d, Dx_same e h1, h2⟩
mutual
theorem small_up : ∀ (n : Nat) (d : PyData), small n d = true → small (n + 1) d = true
  | n, .none, _ => by simp only [small]
  | n, .bool _, _ => by simp only [small]
  | n, .int i, h => by
    simp only [small] at h ⊢
    exact h
  | n, .str x, h => by
    simp only [small] at h ⊢
    exact h
  | 0, .list xs, h => by
    simp only [small] at h
    cases h
  | 0, .tuple xs, h => by
    simp only [small] at h
    cases h
  | n + 1, .list xs, h => by
    simp only [small, Bool.and_eq_true] at h ⊢
    exact ⟨h.1, smalls_up n xs h.2⟩
  | n + 1, .tuple xs, h => by
    simp only [small, Bool.and_eq_true] at h ⊢
    exact ⟨h.1, smalls_up n xs h.2⟩
  | n, .dict kvs, h => by
    have h : smallKv kvs = true ∧ kvs.length ≤ 2 := by
      cases n <;> (simp only [small, Bool.and_eq_true, decide_eq_true_eq] at h; exact h)
    simp only [small, Bool.and_eq_true, decide_eq_true_eq]
    exact h
theorem smalls_up : ∀ (n : Nat) (ds : List PyData), smalls n ds = true → smalls (n + 1) ds = true
  | n, [], _ => by simp only [smalls]
  | n, d :: ds, h => by
    simp only [smalls, Bool.and_eq_true] at h ⊢
    exact ⟨small_up n d h.1, smalls_up n ds h.2⟩
end
theorem small_le {n m : Nat} (h : n ≤ m) {d : PyData} (q : small n d = true) : small m d = true := by
  induction h with
  | refl => exact q
  | step _ ih => exact small_up _ _ ih
theorem smalls_le {n m : Nat} (h : n ≤ m) {d : List PyData} (q : smalls n d = true) : smalls m d = true := by
  induction h with
  | refl => exact q
  | step _ ih => exact smalls_up _ _ ih
theorem Gd.le {K : PySem.W.Frag} {n m : Nat} {H : Hp} {x : V} (l : n ≤ m) (h : Gd K n H x) : Gd K m H x := by
  obtain ⟨d, h1, h2⟩ := h
  exact ⟨d, h1, small_le l h2⟩
theorem Gx.le {K : PySem.W.Frag} {n m : Nat} {H : Hp} {x : V} (l : n ≤ m) (h : Gx K n H x) : Gx K m H x := by
  obtain ⟨d, h1, h2⟩ := h
  exact ⟨d, h1, small_le l h2⟩
theorem Gd.x {K : PySem.W.Frag} {n : Nat} {H : Hp} {x : V} (h : Gd K n H x) : Gx K n H x := by
  obtain ⟨d, h1, h2⟩ := h
  exact ⟨d, .flat h1, h2⟩
theorem DpAll_length {K : PySem.W.Frag} {H : Hp} : ∀ (ds : List PyData) (xs : List V), DpAll K H xs ds → ds.length = xs.length
  | [], _, h => by cases h; rfl
  | d :: ds, _, h => by
    cases h with
    | cons _ h2 => simp only [List.length_cons, DpAll_length ds _ h2]
theorem Gd.tup {K : PySem.W.Frag} {n : Nat} {H : Hp} {a : Addr} {xs : List V} (h : Gds K n H xs) (l : xs.length ≤ 25) (t : SqT K H a xs) : Gd K (n + 1) H (.ref a) := by
  obtain ⟨ds, h1, h2⟩ := h
  refine ⟨.tuple ds, .tup t h1, ?_⟩
  simp only [small, Bool.and_eq_true, decide_eq_true_eq]
  exact ⟨by rw [DpAll_length ds xs h1]; exact l, h2⟩
theorem Gd.lst {K : PySem.W.Frag} {n : Nat} {H : Hp} {a : Addr} {xs : List V} (h : Gds K n H xs) (l : xs.length ≤ 25) (t : SqL K H a xs) : Gd K (n + 1) H (.ref a) := by
  obtain ⟨ds, h1, h2⟩ := h
  refine ⟨.list ds, .lst t h1, ?_⟩
  simp only [small, Bool.and_eq_true, decide_eq_true_eq]
  exact ⟨by rw [DpAll_length ds xs h1]; exact l, h2⟩
theorem Gds.nil {K : PySem.W.Frag} {n : Nat} {H : Hp} : Gds K n H [] := ⟨[], .nil, by simp only [smalls]⟩
theorem Gds.cons {K : PySem.W.Frag} {n : Nat} {H : Hp} {x : V} {xs : List V} (h : Gd K n H x) (r : Gds K n H xs) : Gds K n H (x :: xs) := by
  obtain ⟨d, h1, h2⟩ := h
  obtain ⟨ds, h3, h4⟩ := r
  exact ⟨d :: ds, .cons h1 h3, by simp only [smalls, h2, h4, Bool.and_self]⟩
/-- what was made since H0 -/
def mn (H0 H : Hp) : Hp := fun b => match H0 b with
  | none => H b
  | some _ => none
theorem mn_some {H0 H : Hp} {b : Addr} {o : HO} (h : mn H0 H b = some o) : H0 b = none ∧ H b = some o := by
  unfold mn at h
  cases e : H0 b with
  | none =>
    rw [e] at h
    exact ⟨rfl, h⟩
  | some u =>
    rw [e] at h
    cases h
theorem mn_of {H0 H : Hp} {b : Addr} {o : HO} (h0 : H0 b = none) (h : H b = some o) : mn H0 H b = some o := by
  unfold mn
  rw [h0]
  exact h
theorem mn_up {H H1 H2 : Hp} (s : Same H1 H2) : Same (mn H H1) (mn H H2) := fun b o h => by
  obtain ⟨h0, h1⟩ := mn_some h
  exact mn_of h0 (s _ _ h1)
theorem mn_but {H H1 H2 : Hp} {p : Addr} (s : But p H1 H2) (hp : H p ≠ none) : Same (mn H H1) (mn H H2) := fun b o h => by
  obtain ⟨h0, h1⟩ := mn_some h
  exact mn_of h0 (s _ _ h1 fun z => hp (by rw [← z]; exact h0))
theorem mn_down {H H1 H2 : Hp} (s : Same H H1) : Same (mn H1 H2) (mn H H2) := fun b o h => by
  obtain ⟨h0, h1⟩ := mn_some h
  exact mn_of (s.free h0) h1
theorem mn_self (H0 H : Hp) : Same (mn H0 H) H := fun b o h => (mn_some h).2
def tGd (K : PySem.W.Frag) (n : Nat) : TE := fun _ H Q => ∀ x H', Same H H' → Gd K n (mn H H') x → Q x H'
def tGds (K : PySem.W.Frag) (n m : Nat) : TA := fun _ H Q => ∀ xs H', Same H H' → xs.length = m → Gds K n (mn H H') xs → Q xs H'
def tGx (K : PySem.W.Frag) (n : Nat) : TE := fun _ H Q => ∀ x H', Same H H' → Gx K n (mn H H') x → Q x H'
def tGxs (K : PySem.W.Frag) (n m : Nat) : TA := fun _ H Q => ∀ xs H', Same H H' → xs.length = m → (∀ x ∈ xs, Gx K n (mn H H') x) → Q xs H'
section
variable {X : Cx} {e : Expr} {es : List Expr} {n m : Nat} {pos : Pos}
theorem gd_none {j} : PE X (.Constant .none j pos) (tGd X.K n) := pe_imp pe_non fun _ H Q h => h _ _ (Same.refl H) ⟨.none, .non, by simp only [small]⟩
theorem gd_bool {b j} : PE X (.Constant (.bool b) j pos) (tGd X.K n) := pe_imp pe_bl fun _ H Q h => h _ _ (Same.refl H) ⟨.bool b, .bl b, by simp only [small]⟩
theorem gd_int {i j} (hi : i.natAbs < 10 ^ 12 := by decide) : PE X (.Constant (.int i) j pos) (tGd X.K n) := pe_imp pe_int fun _ H Q h => h _ _ (Same.refl H) ⟨.int i, .int i, by simp only [small, decide_eq_true hi]⟩
theorem gd_neg {i j p2} (hi : (-i).natAbs < 10 ^ 12 := by decide) : PE X (.UnaryOp .USub (.Constant (.int i) j p2) pos) (tGd X.K n) :=
  pe_imp (pe_un un_neg pe_int) fun _ H Q h => ⟨i, rfl, h _ _ (Same.refl H) ⟨.int (-i), .int (-i), by simp only [small, decide_eq_true hi]⟩⟩
theorem gd_str {x j} (hx : (decide (x.length ≤ 40) && x.cps.toList.all fun c => decide (c < 16 ^ 8)) = true := by decide +kernel) : PE X (.Constant (.str x) j pos) (tGd X.K n) :=
  pe_imp pe_str fun _ H Q h => h _ _ (Same.refl H) ⟨.str x, .str x, by simp only [small, hx]⟩
theorem gd_nil : PA X [] (tGds X.K n 0) := pa_imp pa_nil fun _ H Q h => h _ _ (Same.refl H) rfl .nil
theorem gd_cons (h : PE X e (tGd X.K n)) (r : PA X es (tGds X.K n m)) (hs : starEach (e :: es) X.env = (false, eval e X.env) :: starEach es X.env := by rfl) : PA X (e :: es) (tGds X.K n (m + 1)) :=
  pa_imp (pa_cons h r hs) fun _ H Q q x H1 s1 g1 xs H2 s2 l2 g2 => q _ _ (s1.trans s2) (by rw [List.length_cons, l2]) (.cons (g1.same (mn_up s2)) (g2.same (mn_down s1)))
theorem gd_tup {x1} (h : PA X es (tGds X.K n m)) (hm : m ≤ 25 := by decide) : PE X (.Tuple es x1 pos) (tGd X.K (n + 1)) :=
  pe_imp (pe_tup h) fun _ H Q q xs H1 s1 l1 g1 => ⟨Nat.le_trans (by omega : xs.length ≤ 25) (by decide), fun p np =>
    q _ _ (s1.trans (same_new np _)) (.tup (g1.same (mn_up (same_new np _))) (by omega) (.inl (.inl (mn_of (s1.free np) upd_same))))⟩
theorem gd_lst (h : PA X es (tGds X.K n m)) (hm : m ≤ 25 := by decide) : PE X (.List es pos) (tGd X.K (n + 1)) :=
  pe_imp (pe_lst h) fun _ H Q q xs H1 s1 l1 g1 => ⟨Nat.le_trans (by omega : xs.length ≤ 25) (by decide), fun p np =>
    q _ _ (s1.trans (same_new np _)) (.lst (g1.same (mn_up (same_new np _))) (by omega) (SqL.of (mn_of (s1.free np) upd_same)))⟩
theorem gx_of (h : PE X e (tGd X.K n)) : PE X e (tGx X.K n) := pe_imp h fun _ H Q q x H1 s1 g1 => q _ _ s1 g1.x
theorem gx_nil : PA X [] (tGxs X.K n 0) := pa_imp pa_nil fun _ H Q h => h _ _ (Same.refl H) rfl (fun _ m => nomatch m)
theorem gx_cons (h : PE X e (tGx X.K n)) (r : PA X es (tGxs X.K n m)) (hs : starEach (e :: es) X.env = (false, eval e X.env) :: starEach es X.env := by rfl) : PA X (e :: es) (tGxs X.K n (m + 1)) :=
  pa_imp (pa_cons h r hs) fun _ H Q q x H1 s1 g1 xs H2 s2 l2 g2 => q _ _ (s1.trans s2) (by rw [List.length_cons, l2]) fun y hy => by
    rcases List.mem_cons.mp hy with rfl | hy
    · exact g1.same (mn_up s2)
    · exact (g2 y hy).same (mn_down s1)
theorem gx_dict0 : PE X (.Dict [] [] pos) (tGx X.K n) := pe_imp pe_dnewK fun _ H Q q p np => q _ _ (same_new np _) ⟨.dict [], .dct (mn_of np upd_same) .nil, by cases n <;> rfl⟩
/-- {'k': i} -/
theorem gx_dict1 {k i j1 j2 p1 p2} (hk : (decide (k.length ≤ 40) && k.cps.toList.all fun c => decide (c < 16 ^ 8)) = true := by decide +kernel) (hi : i.natAbs < 10 ^ 12 := by decide) :
    PE X (.Dict [some (.Constant (.str k) j1 p1)] [.Constant (.int i) j2 p2] pos) (tGx X.K n) :=
  pe_imp (pe_disp (pps_cons pe_str pe_int pps_nil) (by rfl) (by rfl) (fun z => by cases z) (by show 1 ≤ 15; decide)) fun _ H Q q p np => by
    refine ⟨upd_same, [(.inr k, .int i)], rfl, (by show 1 ≤ 15; decide), ?_⟩
    have e : upd (upd H p (.dK [])) p (.dK (mergeK [] [((.inr k : Key), V.int i)])) = upd H p (.dK [((.inr k : Key), V.int i)]) := upd_upd
    rw [e]
    refine q _ _ (same_new np _) ⟨.dict [(.str k, .int i)], .dct (mn_of np upd_same) (.int .nil), ?_⟩
    have s1 : smallKv [(.str k, .int i)] = true := by
      simp only [smallKv, hk, decide_eq_true hi, Bool.and_self]
    cases n <;> simp only [small, s1, List.length_cons, List.length_nil] <;> rfl
end
/-! ### any odd value -/
def spOdd (K : PySem.W.Frag) : Sp := fun vs H Q _ => ∃ (p : Addr) (b : Nat), vs = [.ref p] ∧ PotAt H p b ∧ b ≤ 100000 ∧ ∀ (x : V) (H' : Hp), But p H H' → PotAt H' p (b + 1) → Gx K 2 (mn H H') x → Q x H'
theorem PotAt.there {H : Hp} {p : Addr} {b : Nat} (h : PotAt H p b) : H p ≠ none := by
  obtain ⟨own, sm, n, h1, _⟩ := h
  rw [h1]
  exact fun z => nomatch z
open PySem L2 LG
/-! ### the heap without the pot -/
def mk (p : Addr) (H : Hp) : Hp := fun b => if b = p then none else H b
theorem mk_some {p b : Addr} {H : Hp} {o : HO} (h : mk p H b = some o) : b ≠ p ∧ H b = some o := by
  unfold mk at h
  by_cases e : b = p
  · rw [if_pos e] at h
    cases h
  · rw [if_neg e] at h
    exact ⟨e, h⟩
theorem mk_of {p b : Addr} {H : Hp} {o : HO} (ne : b ≠ p) (h : H b = some o) : mk p H b = some o := by
  unfold mk
  rw [if_neg ne]
  exact h
theorem mk_self (p : Addr) (H : Hp) : Same (mk p H) H := fun b o h => (mk_some h).2
theorem mk_but {p : Addr} {H H' : Hp} (s : But p H H') : Same (mk p H) (mk p H') := fun b o h => by
  obtain ⟨ne, e⟩ := mk_some h
  exact mk_of ne (s _ _ e ne)
theorem mk_up {p : Addr} {H H' : Hp} (s : Same H H') : Same (mk p H) (mk p H') := mk_but (But.of s)
theorem mn_mk {p : Addr} {H H' : Hp} (hp : H p ≠ none) : Same (mn H H') (mk p H') := fun b o h => by
  obtain ⟨h0, h1⟩ := mn_some h
  exact mk_of (fun z => hp (by rw [← z]; exact h0)) h1
theorem new_ne {p q : Addr} {H : Hp} (hp : H p ≠ none) (nq : H q = none) : q ≠ p := fun z => hp (by rw [← z]; exact nq)
theorem mk_new {p q : Addr} {H : Hp} {o : HO} (hp : H p ≠ none) (nq : H q = none) : mk p (upd H q o) q = some o := mk_of (new_ne hp nq) upd_same
theorem Same.there {H H' : Hp} {p : Addr} (s : Same H H') (hp : H p ≠ none) : H' p ≠ none := by
  cases e : H p with
  | none => exact absurd e hp
  | some o =>
    rw [s _ _ e]
    exact fun z => nomatch z
theorem But.same {p : Addr} {H H' : Hp} (s : Same H H') : But p H H' := But.of s
theorem cut_whole {xs : List V} {lo hi : Option Int} (h : HT.sIx xs.length 0 lo = 0 ∧ HT.sIx xs.length xs.length hi = xs.length) : cutV xs lo hi = xs := by
  unfold cutV
  rw [h.1, h.2, List.drop_zero, Nat.sub_zero, List.take_length]
/-- the tuple of xs, out of the pot's reach -/
def TupM (K : PySem.W.Frag) (p : Addr) (H : Hp) (x : V) (xs : List V) : Prop := ∃ a, x = .ref a ∧ SqT K (mk p H) a xs
theorem TupM.same {K : PySem.W.Frag} {p : Addr} {H H' : Hp} {x : V} {xs : List V} (s : But p H H') (h : TupM K p H x xs) : TupM K p H' x xs := by
  obtain ⟨a, e, q⟩ := h
  exact ⟨a, e, same_tup (mk_but s) q⟩
section
variable {X : Cx}
def rCatM (K : PySem.W.Frag) : R2 := fun x y H Q => ∃ p xs ys, H p ≠ none ∧ TupM K p H x xs ∧ TupM K p H y ys ∧ xs.length + ys.length ≤ 1000 ∧ ∀ z H', Same H H' → TupM K p H' z (xs ++ ys) → Q z H'
theorem op_catM : OpR X (binaryOp .Add) (rCatM X.K) := by
  intro pins s σ H x y v u Q I rx ry h
  obtain ⟨p, xs, ys, hp, ⟨a, rfl, ha⟩, ⟨b, rfl, hb⟩, hl, q⟩ := h
  refine op_catA pins s σ H _ _ v u Q I rx ry ⟨a, b, xs, ys, rfl, rfl, same_tup (mk_self p H) ha, same_tup (mk_self p H) hb, Nat.le_trans hl (by decide), fun e => ?_, fun _ e => ?_, fun _ _ r nr => ?_⟩
  · subst e
    exact q _ _ (Same.refl H) ⟨b, rfl, hb⟩
  · subst e
    rw [List.append_nil] at q
    exact q _ _ (Same.refl H) ⟨a, rfl, ha⟩
  · exact q _ _ (same_new nr _) ⟨r, rfl, .inl (.inl (mk_new hp nr))⟩
def rSlM (K : PySem.W.Frag) : V → Option Int → Option Int → Hp → VK → Prop := fun x lo hi H Q => ∃ p xs, H p ≠ none ∧ TupM K p H x xs ∧ ∀ z H', Same H H' → TupM K p H' z (cutV xs lo hi) → Q z H'
theorem sl_tupM : SlR X (rSlM X.K) := by
  intro pins s σ H x v vl vu lo hi sl Q I rx hs pl pu h
  obtain ⟨p, xs, hp, ⟨a, rfl, ha⟩, q⟩ := h
  refine sl_tupA pins s σ H _ v vl vu lo hi sl Q I rx hs pl pu ⟨a, xs, rfl, same_tup (mk_self p H) ha, fun e => ?_, fun _ r nr => ?_⟩
  · rw [cut_whole e] at q
    exact q _ _ (Same.refl H) ⟨a, rfl, ha⟩
  · exact q _ _ (same_new nr _) ⟨r, rfl, .inl (.inl (mk_new hp nr))⟩
end
theorem ty_of {K : PySem.W.Frag} {H : Hp} {d : PyData} {v : V} (h : Dp K H v d) : ∃ T, TyX K H v (.type T) ∧ T = (match d with | .none => "NoneType" | .bool _ => "bool" | .int _ => "int" | .str _ => "str" | .list _ => "list" | .tuple _ => "tuple" | .dict _ => "dict") := by
  cases h with
  | non => exact ⟨_, .base .non, rfl⟩
  | bl b => exact ⟨_, .base (.bl b), rfl⟩
  | int i => exact ⟨_, .base (.int i), rfl⟩
  | str x => exact ⟨_, .base (.str x), rfl⟩
  | lst hs _ =>
    rcases hs with (h | ⟨o, h⟩) | ⟨o, its, n, h, c, _⟩
    · exact ⟨_, .base (.lst h), rfl⟩
    · exact ⟨_, .base (.frz h), rfl⟩
    · exact ⟨_, .kList h c, rfl⟩
  | tup hs _ =>
    rcases hs with (h | ⟨o, h⟩) | ⟨o, its, n, h, c, _⟩
    · exact ⟨_, .base (.tup h), rfl⟩
    · exact ⟨_, .fTuple h, rfl⟩
    · exact ⟨_, .kTuple h c, rfl⟩
theorem Gds.app {K : PySem.W.Frag} {n : Nat} {H : Hp} {xs ys : List V} (h : Gds K n H xs) (r : Gds K n H ys) : Gds K n H (xs ++ ys) := by
  induction xs with
  | nil => exact r
  | cons x xs ih =>
    obtain ⟨ds, h1, h2⟩ := h
    cases h1 with
    | cons a b =>
      simp only [smalls, Bool.and_eq_true] at h2
      exact .cons ⟨_, a, h2.1⟩ (ih ⟨_, b, h2.2⟩)
theorem Gds.of_mem {K : PySem.W.Frag} {n : Nat} {H : Hp} : ∀ {xs : List V}, (∀ x ∈ xs, Gd K n H x) → Gds K n H xs
  | [], _ => .nil
  | x :: xs, h => .cons (h x List.mem_cons_self) (Gds.of_mem fun y hy => h y (List.mem_cons_of_mem _ hy))
theorem Gds.mem {K : PySem.W.Frag} {n : Nat} {H : Hp} {xs : List V} (h : Gds K n H xs) : ∀ x ∈ xs, Gd K n H x := by
  induction xs with
  | nil => exact fun x hx => nomatch hx
  | cons y ys ih =>
    obtain ⟨ds, h1, h2⟩ := h
    cases h1 with
    | cons a b =>
      simp only [smalls, Bool.and_eq_true] at h2
      intro x hx
      rcases List.mem_cons.mp hx with rfl | hx
      · exact ⟨_, a, h2.1⟩
      · exact ih ⟨_, b, h2.2⟩ x hx
theorem Gds.cut {K : PySem.W.Frag} {n : Nat} {H : Hp} {xs : List V} (h : Gds K n H xs) (lo hi : Option Int) : Gds K n H (cutV xs lo hi) :=
  .of_mem fun x hx => h.mem x (by
    unfold cutV at hx
    exact List.mem_of_mem_drop (List.mem_of_mem_take hx))
theorem Gds.back {K : PySem.W.Frag} {n : Nat} {H : Hp} {xs : List V} (h : Gds K n H xs) : Gds K n H xs.reverse := .of_mem fun x hx => h.mem x (List.mem_reverse.mp hx)
theorem Gds.le {K : PySem.W.Frag} {n m : Nat} {H : Hp} {xs : List V} (l : n ≤ m) (h : Gds K n H xs) : Gds K m H xs := .of_mem fun x hx => (h.mem x hx).le l
theorem no_true (n : Nat) : inV (.bl true) ((List.range n).map fun _ => V.bl false) = false := by
  unfold inV
  rw [List.any_eq_false]
  intro y hy
  obtain ⟨_, _, rfl⟩ := List.mem_map.mp hy
  decide
theorem signs3 : signs 3 ≤ sizeLine := by decide +kernel
end LG
set_option Elab.async false
set_option linter.all false
set_option maxRecDepth 100000
set_option maxHeartbeats 2000000
namespace LG
open PySem L2
/-! ### comprehensions that only make objects -/
theorem lc_all {J : It} {n : Nat} {G : Hp → Prop} {Y : Nat → Hp → V → Hp → Prop} (w : Walk J n G Y) {g : TG} {te : TE} {vs : List Nat} {σ : L2.St} {H1 : Hp} {D : Addr} {Qd : Hp → Prop} (nD : H1 D = none) (fv : Nat → V) (hn : n ≤ sizeLine) (hG : ∀ H, Same H1 H → G H)
    (hs : ∀ (i : Nat) (x : V) (H H' : Hp) (Kt : VK), i < n → Same H1 H → Y i H x H' → (∀ H4, Same H H4 → Kt (fv i) H4) → g x (wipe σ vs) H' fun σ2 H2 => wipe σ2 vs = wipe σ vs ∧ te σ2 H2 Kt)
    (hd : ∀ H, Same H1 H → H D = some (.lst ((List.range n).map fv)) → Qd H) :
    ∃ W : Nat → Nat → Hp → Prop, (∃ m, W 0 m (upd H1 D (.lst []))) ∧ ∀ i m H, W i m H →
      (J.stop i H ∧ Qd H) ∨ (J.go i H ∧ ∃ Nx : Hp → Prop, (∀ H', Nx H' → ∃ m', m' < m ∧ W (i + 1) m' H') ∧ ∀ x H', J.yld i H x H' → g x (wipe σ vs) H' fun σ2 H2 => wipe σ2 vs = wipe σ vs ∧ tYes σ2 H2 fun b H3 =>
        if b = true then te σ2 H3 fun y H4 => ∃ acc, H4 D = some (.lst acc) ∧ acc.length < sizeLine ∧ Nx (upd H4 D (.lst (acc ++ [y]))) else Nx H3) := by
  refine lc_it w (fun i H => Same H1 H ∧ H D = some (.lst ((List.range i).map fv))) ⟨same_new nD _, upd_same⟩ (fun i H _ h => hG H h.1) ?_ (fun H h => hd H h.1 h.2)
  rintro i x H H' hi ⟨s, hD⟩ y
  refine hs i x H H' _ hi s y fun H4 s4 => ⟨_, s4 _ _ hD, by simp; omega, fun b o h => ?_, ?_⟩
  · rw [upd_ne (ne_of_none h nD)]
    exact s4 _ _ (s _ _ h)
  · rw [upd_same, List.range_succ, List.map_append]
    rfl
/-! ### names -/
def LET : Str := "abcdefghijklmnopqrstuvwxyz"
def FIG : Str := "0123456789"
def inL (c : Nat) : Bool := decide (c ∈ LET.cps.toList)
def inF (c : Nat) : Bool := decide (c ∈ FIG.cps.toList)
def isNameB (w : Str) : Bool := (decide (1 ≤ w.length) && decide (w.length ≤ 8) && inL (w.cps.toList.headD 0)) && w.cps.toList.all fun c => inL c || inF c
def sp1 : Str := " "
def nl1 : Str := "\n"
/-- the names behind the word head; none of them: [] -/
def namesIn (line head : Str) (few most : Int) : List Str :=
  let ws := Txt.split line sp1
  let ns := ws.tail
  if ws.headD Str.empty ≠ head ∨ ¬ (few ≤ (ns.length : Int) ∧ (ns.length : Int) ≤ most) then []
  else if (uniq ns).length < ns.length ∨ ¬ (ns.all isNameB = true) then [] else ns
structure Dev where
  calls : List Str
  answers : List Str
  states : List Str
  goals : List ((Str × Str) × (Str × Str))
def headsL : List (Str × Int × Int) := [("calls", 1, 3), ("answers", 2, 3), ("marks", 1, 4)]
def headAt (lines : List Str) (i : Nat) : List Str := match headsL[i]?, lines[i]? with
  | some (h, f, m), some l => namesIn l h f m
  | _, _ => []
/-- the names of the first lines, and the number of the bad one or 0 -/
def readHeads (lines : List Str) : List (List Str) × Nat :=
  if headAt lines 0 = [] then ([], 1)
  else if headAt lines 1 = [] then ([headAt lines 0], 2)
  else if headAt lines 2 = [] then ([headAt lines 0, headAt lines 1], 3)
  else ([headAt lines 0, headAt lines 1, headAt lines 2], 0)
abbrev Steps := List ((Str × Str × Str) × Str)
/-- what a watch's text tells -/
structure Wat where
  calls : List Str
  answers : List Str
  marks : List Str
  steps : Steps
def BRK : Str := "broken"
def isLine (ws : List Str) (C A S : List Str) : Bool :=
  match ws with
  | [r, s, c, a, g] => decide (r = "step") && (S.contains s && (C.contains c && (A.contains a && (S ++ [BRK]).contains g)))
  | _ => false
def goalStep (C A S : List Str) (g : Steps) (line : Str) : Option Steps :=
  match Txt.split line sp1 with
  | [r, s, c, a, t] => if isLine [r, s, c, a, t] C A S = true ∧ (g.lookup (s, c, a)).isNone = true then some (g ++ [((s, c, a), t)]) else none
  | _ => none
def goalsFrom (C A S : List Str) : List Str → Nat → Steps → Sum Nat Steps
  | [], _, g => .inr g
  | l :: r, at_, g => match goalStep C A S g l with
    | none => .inl (at_ + 1)
    | some g' => goalsFrom C A S r (at_ + 1) g'
def readGoals (lines : List Str) (C A S : List Str) : Sum Nat Steps := goalsFrom C A S (lines.drop 3) 3 []
def parse (text : Str) : Sum Nat Wat :=
  let lines := Txt.split text nl1
  match readHeads lines with
  | ([c, a, s], 0) => if s.contains BRK = true then .inl 3 else (match readGoals lines c a s with
    | .inl n => .inl n
    | .inr g => .inr ⟨c, a, s, g⟩)
  | (_, n) => .inl n
end LG
set_option Elab.async false
set_option linter.all false
set_option maxRecDepth 100000
set_option maxHeartbeats 2000000
namespace LG
open PySem L2 TL
theorem spl_some (S : List Nat) : ∀ (l : List Nat) (k : Nat) (acc : List Nat), spl S k acc l ≠ []
  | [], k, acc => by
    rw [spl_nil]
    simp
  | c :: r, 0, acc => by
    cases h : pre S (c :: r) with
    | true =>
      rw [spl_hit h]
      simp
    | false =>
      rw [spl_miss h]
      exact spl_some S r 0 _
  | c :: r, k + 1, acc => by
    show spl S k acc r ≠ []
    exact spl_some S r k acc
theorem split_some (x : Str) {y : Str} (hy : tl y ≠ []) (hk : y.cps.all (· < 256) = true) : Txt.split x y ≠ [] := by
  intro z
  have h := split_spl x y hy (kind_ok hk)
  rw [z] at h
  exact spl_some _ _ _ _ h.symm
theorem join_size (y : Str) : ∀ {ts : List Str}, ts ≠ [] → (Str.join y ts).length + y.length = (ts.map fun t => t.length + y.length).sum
  | [], h => absurd rfl h
  | [x], _ => by
    show x.length + y.length = _
    simp
  | x :: z :: r, _ => by
    have ih := join_size y (ts := z :: r) (by simp)
    have e : Str.join y (x :: z :: r) = x ++ y ++ Str.join y (z :: r) := rfl
    rw [e, strLen_append, strLen_append, List.map_cons, List.sum_cons]
    omega
theorem sum_bounds {ts : List Str} {k : Nat} : (∀ t ∈ ts, t.length + k ≤ (ts.map fun t => t.length + k).sum) ∧ ts.length * k ≤ (ts.map fun t => t.length + k).sum := by
  induction ts with
  | nil => simp
  | cons x r ih =>
    obtain ⟨h1, h2⟩ := ih
    refine ⟨fun t ht => ?_, ?_⟩
    · rw [List.map_cons, List.sum_cons]
      rcases List.mem_cons.mp ht with rfl | ht
      · omega
      · have := h1 t ht
        omega
    · rw [List.map_cons, List.sum_cons, List.length_cons, Nat.succ_mul]
      omega
theorem split_bounds (x : Str) {y : Str} (hy : tl y ≠ []) (hk : y.cps.all (· < 256) = true) (h1 : y.length = 1) : (∀ t ∈ Txt.split x y, t.length ≤ x.length) ∧ (Txt.split x y).length ≤ x.length + 1 := by
  have e := join_size y (split_some x hy hk)
  rw [PySem.StrLaws.join_split, h1] at e
  obtain ⟨b1, b2⟩ := sum_bounds (ts := Txt.split x y) (k := 1)
  refine ⟨fun t ht => ?_, ?_⟩
  · have := b1 t ht
    omega
  · omega
theorem sp1_ne : tl sp1 ≠ [] := by decide +kernel
theorem sp1_k : sp1.cps.all (· < 256) = true := by decide +kernel
theorem sp1_1 : sp1.length = 1 := by decide +kernel
theorem nl1_ne : tl nl1 ≠ [] := by decide +kernel
theorem nl1_k : nl1.cps.all (· < 256) = true := by decide +kernel
theorem nl1_1 : nl1.length = 1 := by decide +kernel
theorem words_some (x : Str) : Txt.split x sp1 ≠ [] := split_some x sp1_ne sp1_k
theorem words_bounds (x : Str) : (∀ t ∈ Txt.split x sp1, t.length ≤ x.length) ∧ (Txt.split x sp1).length ≤ x.length + 1 := split_bounds x sp1_ne sp1_k sp1_1
theorem lines_bounds (x : Str) : (∀ t ∈ Txt.split x nl1, t.length ≤ x.length) ∧ (Txt.split x nl1).length ≤ x.length + 1 := split_bounds x nl1_ne nl1_k nl1_1
theorem cut_from (xs : List V) (k : Nat) : cutV xs (some (k : Int)) none = xs.drop k := by
  unfold cutV
  rw [HT.sIx_nat, HT.sIx_none]
  by_cases h : k ≤ xs.length
  · rw [Nat.min_eq_left h]
    exact List.take_of_length_le (by rw [List.length_drop]; exact Nat.le_refl _)
  · rw [Nat.min_eq_right (by omega), List.drop_of_length_le (Nat.le_refl _), List.drop_of_length_le (by omega)]
    simp
theorem cut_upto (xs : List V) (k : Nat) : cutV xs none (some (k : Int)) = xs.take k := by
  unfold cutV
  rw [HT.sIx_nat, HT.sIx_none, List.drop_zero, Nat.sub_zero]
  by_cases h : k ≤ xs.length
  · rw [Nat.min_eq_left h]
  · rw [Nat.min_eq_right (by omega), List.take_of_length_le (Nat.le_refl _), List.take_of_length_le (by omega)]
end LG
set_option Elab.async false
set_option linter.all false
set_option maxRecDepth 100000
set_option maxHeartbeats 2000000
namespace K56
open PySem L2 LG
def top (i : Nat) : Stmt := PySem.Challenge.pw_toldboxes_k56_where_watches_are_safe_mar.main.body.getD i (.Pass ⟨0, 0, 0, 0⟩)
abbrev sInit : Stmt := inClass (top 1) 0
abbrev sIsName : Stmt := top 7
abbrev sNamesIn : Stmt := top 8
abbrev sReadHeads : Stmt := top 9
abbrev sIsAmong : Stmt := top 10
abbrev sDInit : Stmt := inClass (top 17) 0
abbrev sDRow : Stmt := inClass (top 17) 1
abbrev sDLen : Stmt := inClass (top 17) 3
abbrev sDContains : Stmt := inClass (top 17) 4
abbrev sDEq : Stmt := inClass (top 17) 5
abbrev sDAsk : Stmt := inClass (top 17) 9
abbrev sReadGoals : Stmt := top 18
abbrev sIsLine : Stmt := top 19
abbrev sTake : Stmt := top 24
abbrev sOf : Stmt := top 25
abbrev sSome : Stmt := top 26
abbrev sReadSteps : Stmt := top 18
abbrev sIsPair : Stmt := top 11
abbrev sIsRow : Stmt := top 12
abbrev sDBehind : Stmt := inClass (top 17) 1
abbrev sDStep : Stmt := inClass (top 17) 2
abbrev sSafe : Stmt := top 20
abbrev sVerdict : Stmt := top 21
abbrev sWay : Stmt := top 22
abbrev sPot : Stmt := top 27
abbrev sAny : Stmt := top 28
abbrev sHeardL : Stmt := top 29
abbrev sCells : Stmt := top 30
abbrev sTold : Stmt := top 31
abbrev sIsOf : Stmt := top 32
abbrev sRaised : Stmt := top 33
abbrev sOdd : Stmt := top 34
abbrev sBent : Stmt := top 35
abbrev sWatch : Stmt := top 36
abbrev sWText : Stmt := top 37
abbrev sStepL : Stmt := top 38
abbrev sLogged : Stmt := top 39
abbrev sSafeL : Stmt := top 40
abbrev sLog : Stmt := top 41
abbrev sIsLog : Stmt := top 42
abbrev sDue : Stmt := top 43
abbrev sRight : Stmt := top 44
abbrev sLaw : Stmt := top 45
section
variable {P : Program} {w : World} {K : PySem.W.Frag} {mg : Str → Option Value} {base : Heap}
theorem scPot : FnScope ["_law_script", "_law_place", "_law_cell", "_law_own", "_law_small"] ["_law_script", "_law_place"] (defScope sPot) := ⟨rfl, rfl, rfl, by decide +kernel, rfl, by decide +kernel, by decide +kernel⟩
def tPotRest : TS :=
  tSeq (tAsg (tOp (rI CMul fun i j => .int (i * j)) (tOp (rI (fun _ j => 0 < j) fun i j => .int (i % j)) (tCB rInt1 (tCons (tCB rAbs (tCons (tVar 2) tNil)) tNil))
      (tOp (rI (fun i j => 0 ≤ j ∧ (Builtin.Int.intBits i : Int) * j ≤ 2 ^ 27) fun i j => .int (i ^ j.toNat)) (tOp (rI CPow fun i j => .int (i ^ j.toNat)) (tC (.int 10)) (tC (.int 60))) (tC (.int 5))))
      (tCB rInt1 (tCons (tOp (rI0 fun i j => .bl (decide (i ≥ j))) (tCB rAbs (tCons (tVar 2) tNil)) (tOp (rI CPow fun i j => .int (i ^ j.toNat)) (tC (.int 10)) (tC (.int 18)))) tNil))) (gName 3))
  (tSeq (tAsg (tOp (rI (fun _ j => 0 < j) fun i j => .int (i % j)) (tCB rInt1 (tCons (tVar 2) tNil)) (tC (.int 2305843009213693951))) (gName 4))
  (tRet (tLst (tCons (tVar 3) (tCons (tOp (rI (fun _ j => 0 < j) fun i j => .int (i % j)) (tCB rInt1 (tCons (tOp (rI0 fun i j => .int (i + j)) (tOp (rI0 fun i j => .int (i + j)) (tOp (rI CMul fun i j => .int (i * j)) (tVar 4) (tC (.int 85077)))
      (tOp (rI CMul fun i j => .int (i * j)) (tOp (rI CMul fun i j => .int (i * j)) (tC (.int 9949)) (tVar 1)) (tVar 1))) (tC (.int 673))) tNil)) (tC (.int 2305843009213693921))) (tCons (tC (.int 0)) tNil))))))
theorem pot_rest {a : Addr} {j : Int} {H : Hp} {Q : VK} (z : Int) (H1 : Hp) (s1 : Same H H1) (f1 : ∀ p, H1 p = none → H p = none) (h0 : 0 ≤ j) (h1 : j ≤ 1000)
    (q : ∀ (p : Addr) (H' : Hp), Same H H' → H p = none → PotAt H' p 0 → Q (.ref p) H') : tPotRest { nx := fun _ H' => Q .non H', rt := Q } [some (.ref a), some (.int j), some (.int z), none, none] H1 := by
  have dec0 : (0 : Int) < (10 ^ (60 : Int).toNat) ^ (5 : Int).toNat := by decide +kernel
  refine ⟨_, rfl, _, rfl, .inl ⟨_, rfl, _, _, rfl, rfl, ⟨by decide, by decide, by decide⟩, _, _, rfl, rfl, ⟨by decide, bits60⟩, _, _, rfl, rfl, dec0, _, rfl, _, rfl, _, _, rfl, rfl, ⟨by decide, by decide, by decide⟩, _, _, rfl, rfl, .inr ⟨_, rfl, ?_⟩⟩⟩
  generalize hv : (if z < 0 then -z else z) % (10 ^ (60 : Int).toNat) ^ (5 : Int).toNat = own
  have own0 : 0 ≤ own := by rw [← hv]; exact Int.emod_nonneg _ (by omega)
  generalize hk : decide ((if z < 0 then -z else z) ≥ 10 ^ (18 : Int).toNat) = k
  clear hk
  have k01 : (if k = true then (1 : Int) else 0) = 0 ∨ (if k = true then (1 : Int) else 0) = 1 := by cases k <;> simp
  generalize (if k = true then (1 : Int) else 0) = kk at k01 ⊢
  have own1 : 0 ≤ own * kk := by
    rcases k01 with e | e
    · rw [e]; omega
    · rw [e]; omega
  refine ⟨_, _, rfl, rfl, .inr ⟨by omega, by omega⟩, ?_⟩
  refine ⟨_, rfl, .inl ⟨_, rfl, _, _, rfl, rfl, (by show (0 : Int) < 2305843009213693951; decide), ?_⟩⟩
  refine ⟨_, rfl, _, rfl, _, _, rfl, rfl, .inr ⟨by decide, by decide⟩, _, rfl, _, _, rfl, rfl, .inl ⟨by decide, by decide⟩, _, rfl, _, _, rfl, rfl, .inr ⟨by omega, by omega⟩, _, _, rfl, rfl, _, _, rfl, rfl, .inl ⟨_, rfl, _, _, rfl, rfl, (by show (0 : Int) < 2305843009213693921; decide), (by show 3 ≤ sizeLine; decide), fun p np => ?_⟩⟩
  refine q p _ (s1.trans (same_new np _)) (f1 p np) ⟨_, _, _, upd_same, (by rw [hv]; exact own1), ?_, ?_, by decide, by decide⟩
  · exact Int.emod_nonneg _ (by decide)
  · exact Int.lt_trans (Int.emod_lt_of_pos _ (by decide)) (by decide)
theorem ok_pot {f : Addr} {fd : FuncData} (F : Fun K "_law_pot" "_law_pot" sPot f fd) (T : Bltn mg) : FnOk P w K mg base CX0 1 f fd ["_law_script", "_law_place"] (spPot K) := by
  refine F.ok scPot (fun vs H Q E h => ?_) (fun cdv A outer s H vs Q E hr h => ?_)
  · obtain ⟨a, ns, j, rfl, _⟩ := h
    rfl
  obtain ⟨a, ns, j, rfl, hS, h63, h0, h1, q⟩ := h
  refine ⟨_, pss_cons (ps_set (i := 2) scPot.nd rfl (Or.inl rfl) (pe_ifExp (pt_cmpR op_lt (pv 1) (pe_callB call_len_seq rfl T.len PySem.boot_len (pa_cons (pv 0) pa_nil)) (nomark _)) (pe_ix ix_list (pv 0) (pv 1) (fun _ _ => rfl))
      (pe_op op_add (pe_op op_add (pe_op op_mod (pe_callB (cr_sum rfl) rfl T.sum (by decide +kernel) (pa_cons (pe_slice sl_list (pv 0) po_none (po_some pe_int)) pa_nil)) pe_int) (pe_op op_mul pe_int (pv 1))) pe_int)))
    (pss_cons (ps_set (i := 3) scPot.nd rfl (Or.inl rfl) (pe_op op_mul (pe_op op_mod (pe_callTy call_int1 rfl T.int (by decide +kernel) (pa_cons (pe_callB call_abs rfl T.abs (by decide +kernel) (pa_cons (pv 2) pa_nil)) pa_nil)) (pe_op op_powB (pe_op op_pow pe_int pe_int) pe_int))
      (pe_callTy call_int1 rfl T.int (by decide +kernel) (pa_cons (pe_cmpR op_ge (pe_callB call_abs rfl T.abs (by decide +kernel) (pa_cons (pv 2) pa_nil)) (pe_op op_pow pe_int pe_int) (nomark _)) pa_nil))))
    (pss_cons (ps_set (i := 4) scPot.nd rfl (Or.inl rfl) (pe_op op_mod (pe_callTy call_int1 rfl T.int (by decide +kernel) (pa_cons (pv 2) pa_nil)) pe_int))
    (pss_one (ps_ret (pe_lst (pa_cons (pv 3) (pa_cons (pe_op op_mod (pe_callTy call_int1 rfl T.int (by decide +kernel) (pa_cons (pe_op op_add (pe_op op_add (pe_op op_mul (pv 4) pe_int) (pe_op op_mul (pe_op op_mul pe_int (pv 1)) (pv 1))) pe_int) pa_nil)) pe_int) (pa_cons pe_int pa_nil)))))))), ?_⟩
  refine ⟨_, rfl, _, rfl, a, _, rfl, .inl hS, _, _, rfl, rfl, _, rfl, ?_⟩
  have dec0 : (0 : Int) < (10 ^ (60 : Int).toNat) ^ (5 : Int).toNat := by decide +kernel
  refine ite2 (fun c => ?_) (fun c => ?_)
  · have c' : j < (((ns.map V.int).length : Nat) : Int) := of_decide_eq_true c
    rw [List.length_map] at c'
    obtain ⟨z, hz⟩ := item_there h0 c'
    have H0 : Same H H := Same.refl H
    have free : ∀ p, H p = none → H p = none := fun _ e => e
    refine ⟨_, rfl, _, rfl, a, _, _, _, rfl, rfl, hS, hz, ?_⟩
    exact pot_rest z H H0 free h0 h1 q
  · obtain ⟨ms, em⟩ := cut_ints ns none (some 1)
    refine ⟨_, rfl, 1, rfl, a, _, rfl, hS, fun t nt => ?_⟩
    refine ⟨t, ms, rfl, SqL.of (by rw [upd_same, em]), _, _, rfl, rfl, (by show (0 : Int) < 1000003; decide), _, rfl, _, _, rfl, rfl, .inl ⟨by decide, by decide⟩, _, _, rfl, rfl, _, _, rfl, rfl, ?_⟩
    exact pot_rest _ _ (same_new nt _) (fun p e => (same_new nt _).free e) h0 h1 q
/-! ### one digit out of the pot -/
def spTake : Sp := fun vs H Q _ => ∃ (p : Addr) (u : Int) (b : Nat), vs = [.ref p, .int u] ∧ PotAt H p b ∧ b ≤ 100000 ∧ 1 ≤ u ∧ u < 1073741824 ∧
  ∀ (k : Int) (H' : Hp), 0 ≤ k → k < u → But p H H' → PotAt H' p (b + 1) → Q (.int k) H'
theorem scTake : FnScope ["_law_pot_here", "_law_upto", "_law_digit", "_law_prime", "_law_blend"] ["_law_pot_here", "_law_upto"] (defScope sTake) := ⟨rfl, rfl, rfl, by decide +kernel, rfl, by decide +kernel, by decide +kernel⟩
theorem sq_bound {n : Int} (h0 : 0 ≤ n) (h : n ≤ 200000) : 0 ≤ 99997 * n * n ∧ 99997 * n * n ≤ 3999880000000000 := by
  have h1 : 0 ≤ 99997 * n := by omega
  have h2 : 99997 * n ≤ 19999400000 := by omega
  have h3 := Int.mul_le_mul h2 h h0 (by decide)
  exact ⟨Int.mul_nonneg h1 h0, h3⟩
theorem ok_take {f : Addr} {fd : FuncData} (F : Fun K "_law_take" "_law_take" sTake f fd) (T : Bltn mg) : FnOk P w K mg base CX0 1 f fd ["_law_pot_here", "_law_upto"] spTake := by
  refine F.ok scTake (fun vs H Q E h => ?_) (fun cdv A outer s H vs Q E hr h => ?_)
  · obtain ⟨p, u, b, rfl, _⟩ := h
    rfl
  obtain ⟨p, u, b, rfl, ⟨own, sm, n, hp, hown, hs0, hs1, hn0, hn1⟩, hb, hu1, hu2, q⟩ := h
  refine ⟨_, pss_cons (ps_if (pt_cmpR op_gt (pe_ix ix_list (pv 0) pe_int (fun _ _ => rfl)) pe_int (nomark _))
      (pss_cons (ps_set (i := 2) scTake.nd rfl (Or.inl rfl) (pe_op op_mod (pe_callTy call_int1 rfl T.int (by decide +kernel) (pa_cons (pe_ix ix_list (pv 0) pe_int (fun _ _ => rfl)) pa_nil)) (pv 1)))
      (pss_cons (ps_asg (pe_op op_fdiv (pe_ix ix_list (pv 0) pe_int (fun _ _ => rfl)) (pv 1)) (pg_sub (pv 0) pe_int set_list))
      (pss_one (ps_ret (pv 2))))) pss_nil)
    (pss_cons (ps_asg (pe_op op_add (pe_ix ix_list (pv 0) pe_int (fun _ _ => rfl)) pe_int) (pg_sub (pv 0) pe_int set_list))
    (pss_cons (ps_set (i := 3) scTake.nd rfl (Or.inl rfl) (pe_ix ix_list (pe_lst (pa_cons pe_int (pa_cons pe_int (pa_cons pe_int (pa_cons pe_int (pa_cons pe_int pa_nil)))))) (pe_op op_mod (pe_callTy call_int1 rfl T.int (by decide +kernel) (pa_cons (pe_ix ix_list (pv 0) pe_int (fun _ _ => rfl)) pa_nil)) pe_int) (fun _ _ => rfl)))
    (pss_cons (ps_set (i := 4) scTake.nd rfl (Or.inl rfl) (pe_op op_mod (pe_callTy call_int1 rfl T.int (by decide +kernel) (pa_cons (pe_op op_pow (pe_callTy call_int1 rfl T.int (by decide +kernel) (pa_cons (pe_op op_add (pe_op op_add (pe_ix ix_list (pv 0) pe_int (fun _ _ => rfl)) (pe_op op_mul (pe_op op_mul pe_int (pe_ix ix_list (pv 0) pe_int (fun _ _ => rfl))) (pe_ix ix_list (pv 0) pe_int (fun _ _ => rfl)))) pe_int) pa_nil)) pe_int) pa_nil)) (pv 3)))
    (pss_one (ps_ret (pe_op op_mod (pe_callTy call_int1 rfl T.int (by decide +kernel) (pa_cons (pe_op op_fdiv (pe_op op_mul (pv 4) (pe_op op_add (pe_op op_mod (pe_callTy call_int1 rfl T.int (by decide +kernel) (pa_cons (pv 4) pa_nil)) pe_int) (pe_op op_mul pe_int (pe_ix ix_list (pv 0) pe_int (fun _ _ => rfl))))) pe_int) pa_nil)) (pv 1))))))), ?_⟩
  refine ⟨_, rfl, p, _, _, _, rfl, rfl, SqL.of hp, rfl, _, _, rfl, rfl, _, rfl, ?_⟩
  refine ite2 (fun c => ?_) (fun c => ?_)
  · refine ⟨_, rfl, p, _, _, _, rfl, rfl, SqL.of hp, rfl, .inl ⟨_, rfl, _, rfl, _, _, rfl, rfl, (by show 0 < u; omega), ?_⟩⟩
    refine ⟨_, rfl, p, _, _, _, rfl, rfl, SqL.of hp, rfl, _, rfl, _, _, rfl, rfl, ⟨by omega, by omega⟩, _, rfl, p, _, _, 0, rfl, rfl, hp, rfl, _, rfl, ?_⟩
    refine q _ _ (Int.emod_nonneg _ (by omega)) (Int.emod_lt_of_pos _ (by omega)) (fun c o e ne => by rw [upd_ne ne]; exact e) ⟨_, _, _, upd_same, ?_, hs0, hs1, hn0, by omega⟩
    exact Int.ediv_nonneg hown (by omega)
  · refine ⟨_, rfl, p, _, _, _, rfl, rfl, SqL.of hp, rfl, _, _, rfl, rfl, _, rfl, p, _, _, 2, rfl, rfl, hp, rfl, ?_⟩
    have hp1 : (upd H p (.lst [.int own, .int sm, .int (n + 1)])) p = some (.lst [.int own, .int sm, .int (n + 1)]) := upd_same
    have but1 : But p H (upd H p (.lst [.int own, .int sm, .int (n + 1)])) := fun c o e ne => by rw [upd_ne ne]; exact e
    show tSeq _ _ _ _ (upd H p (.lst [.int own, .int sm, .int (n + 1)]))
    generalize upd H p (.lst [.int own, .int sm, .int (n + 1)]) = H1 at hp1 but1 ⊢
    refine ⟨(by show 5 ≤ sizeLine; decide), fun t nt => ?_⟩
    have s2 : Same H1 (upd H1 t (.lst [.int 2147483647, .int 2147483629, .int 2147483587, .int 2147483579, .int 2147483563])) := same_new nt _
    have ht : (upd H1 t (.lst [.int 2147483647, .int 2147483629, .int 2147483587, .int 2147483579, .int 2147483563])) t = some (.lst [.int 2147483647, .int 2147483629, .int 2147483587, .int 2147483579, .int 2147483563]) := upd_same
    generalize upd H1 t (.lst [.int 2147483647, .int 2147483629, .int 2147483587, .int 2147483579, .int 2147483563]) = H2 at s2 ht ⊢
    have hp2 := s2 _ _ hp1
    obtain ⟨pr, hpr, pr1, pr2⟩ := prime_at (r := (n + 1) % 5) (Int.emod_nonneg _ (by decide)) (Int.emod_lt_of_pos _ (by decide))
    refine ⟨_, rfl, p, _, _, _, rfl, rfl, SqL.of hp2, rfl, .inl ⟨_, rfl, _, _, rfl, rfl, (by show (0 : Int) < 5; decide), t, _, _, _, rfl, rfl, SqL.of ht, hpr, ?_⟩⟩
    have sq := sq_bound (n := n + 1) (by omega) (by omega)
    refine ⟨_, rfl, p, _, _, _, rfl, rfl, SqL.of hp2, rfl, _, rfl, p, _, _, _, rfl, rfl, SqL.of hp2, rfl, _, _, rfl, rfl, .inl ⟨by decide, by decide⟩, _, rfl, p, _, _, _, rfl, rfl, SqL.of hp2, rfl, _, _, rfl, rfl, .inr ⟨by omega, by omega⟩,
      _, _, rfl, rfl, _, _, rfl, rfl, .inl ⟨_, rfl, _, _, rfl, rfl, ⟨by decide, by decide, ?_⟩, .inl ⟨_, rfl, _, rfl, _, _, rfl, rfl, (by show 0 < pr; omega), ?_⟩⟩⟩
    · show (sm + 99997 * (n + 1) * (n + 1) + 1107).natAbs < 2 ^ 64
      omega
    · generalize hb2 : (sm + 99997 * (n + 1) * (n + 1) + 1107) ^ (3 : Int).toNat % pr = bl
      have b0 : 0 ≤ bl := by rw [← hb2]; exact Int.emod_nonneg _ (by omega)
      have b1 : bl < pr := by rw [← hb2]; exact Int.emod_lt_of_pos _ (by omega)
      refine ⟨_, rfl, _, rfl, .inl ⟨_, rfl, _, _, rfl, rfl, (by show (0 : Int) < 11251; decide), _, rfl, p, _, _, _, rfl, rfl, SqL.of hp2, rfl, _, _, rfl, rfl, .inl ⟨by decide, by decide⟩, _, _, rfl, rfl, _, _, rfl, rfl, .inl ⟨by rw [hb2]; omega, by rw [hb2]; omega⟩,
        _, _, rfl, rfl, ⟨by decide, by decide⟩, .inl ⟨_, rfl, _, rfl, _, _, rfl, rfl, (by show 0 < u; omega), ?_⟩⟩⟩
      refine q _ _ (Int.emod_nonneg _ (by omega)) (Int.emod_lt_of_pos _ (by omega)) (but1.trans (But.of s2)) ⟨_, _, _, hp2, hown, hs0, hs1, by omega, by omega⟩
theorem scOf : FnScope ["_law_pot_here", "_law_some_here"] ["_law_pot_here", "_law_some_here"] (defScope sOf) := ⟨rfl, rfl, rfl, by decide +kernel, rfl, by decide +kernel, by decide +kernel⟩
theorem ok_of {f g : Addr} {fd gd : FuncData} (F : Fun K "_law_of" "_law_of" sOf f fd) (T : Bltn mg) (G : FnOk P w K mg base CX0 1 g gd ["_law_pot_here", "_law_upto"] spTake) (mG : mg "_law_take" = some (.ref g)) (kG : PySem.W.keepIn K (.ref g) = true) (bG : Binds K gd ["_law_pot_here", "_law_upto"] []) :
    FnOk P w K mg base CX0 2 f fd ["_law_pot_here", "_law_some_here"] (spOf K) := by
  refine F.ok scOf (fun vs H Q E h => ?_) (fun cdv A outer s H vs Q E hr h => ?_)
  · obtain ⟨p, l, xs, b, rfl, _⟩ := h
    rfl
  obtain ⟨p, l, xs, b, rfl, hp, hb, hl, x0, x1, ne, q⟩ := h
  refine ⟨_, pss_one (ps_ret (pe_ix ix_list (pv 1) (pe_call G hr rfl mG kG bG .nil pass0 (pa_cons (pv 0) (pa_cons (pe_callB call_len_seq rfl T.len PySem.boot_len (pa_cons (pv 1) pa_nil)) pa_nil))) (fun _ _ => rfl))), ?_⟩
  refine ⟨_, rfl, _, rfl, _, rfl, l, _, rfl, .inl hl, p, _, b, rfl, hp, hb, by omega, by omega, fun k H' k0 k1 but pot => ?_⟩
  have hk : k.toNat < xs.length := by omega
  have at_ : atI xs k = some xs[k.toNat] := at_of (j := k.toNat) (by omega) (List.getElem?_eq_getElem hk)
  exact ⟨l, xs, k, _, rfl, rfl, But.seq but ne hl, at_, q _ _ (List.getElem_mem hk) but pot⟩
/-! ### the cells -/
def spCells (K : PySem.W.Frag) : Sp := fun vs H Q _ => ∃ (a : Addr) (ns : List Int) (m : Int), vs = [.ref a, .int m] ∧ SqL K H a (ns.map V.int) ∧ ns.length ≤ 63 ∧ 1 ≤ m ∧ m ≤ 63 ∧
  ∀ (p : Addr) (n : Nat) (H' : Hp), Same H H' → H p = none → 1 ≤ n → n ≤ 63 → H' p = some (.lst ((List.range n).map fun i => V.int (i : Nat))) → Q (.ref p) H'
theorem scCells : FnScope ["_law_script", "_law_limit"] ["_law_script", "_law_limit"] (defScope sCells) := ⟨rfl, rfl, rfl, by decide +kernel, rfl, by decide +kernel, by decide +kernel⟩
theorem ok_cells {f : Addr} {fd : FuncData} (F : Fun K "_law_cells" "_law_cells" sCells f fd) (T : Bltn mg) : FnOk P w K mg base CX0 1 f fd ["_law_script", "_law_limit"] (spCells K) := by
  refine F.ok scCells (fun vs H Q E h => ?_) (fun cdv A outer s H vs Q E hr h => ?_)
  · obtain ⟨a, ns, m, rfl, _⟩ := h
    rfl
  obtain ⟨a, ns, m, rfl, hS, h63, m0, m1, q⟩ := h
  refine ⟨_, pss_one (ps_ret (pe_listRg rfl rfl T.list (prg_1 rfl T.range (pe_callB (call_max2 rfl) rfl T.max (by decide +kernel) (pa_cons pe_int (pa_cons (pe_callB (call_min2 rfl) rfl T.min (by decide +kernel)
    (pa_cons (pv 1) (pa_cons (pe_callB call_len_seq rfl T.len PySem.boot_len (pa_cons (pv 0) pa_nil)) pa_nil))) pa_nil)))))), ?_⟩
  refine ⟨_, rfl, _, rfl, a, _, rfl, .inl hS, _, _, rfl, _, _, rfl, _, rfl, ?_⟩
  have hl : (ns.map V.int).length = ns.length := List.length_map _
  rw [hl]
  generalize hz : (if (if (ns.length : Int) < m then (ns.length : Int) else m) > 1 then (if (ns.length : Int) < m then (ns.length : Int) else m) else 1) = z
  have z0 : 1 ≤ z ∧ z ≤ 63 := by
    rw [← hz]
    split <;> split <;> omega
  refine ⟨RgOk.of_le (by decide) (by omega) (by decide) (by omega), fun p np => ?_⟩
  refine q p z.toNat _ (same_new np _) np (by omega) (by omega) ?_
  rw [upd_same]
  have e : rgV 0 z = (List.range z.toNat).map fun i => V.int (i : Nat) := by
    unfold rgV
    have e1 : (z - 0).toNat = z.toNat := by omega
    rw [e1]
    refine List.map_congr_left fun i _ => ?_
    rw [Int.zero_add]
  rw [e]
end
end K56
set_option Elab.async false
set_option linter.all false
set_option maxRecDepth 100000
set_option maxHeartbeats 4000000
namespace K56
open PySem L2 LG
section
variable {P : Program} {w : World} {K : PySem.W.Frag} {mg : Str → Option Value} {base : Heap}
/-- the module's own constants -/
structure Consts (K : PySem.W.Frag) (mg : Str → Option Value) : Prop where
  let_ : ∃ t, mg "LETTERS" = some (.str LET t)
  brk : ∃ t, mg "BROKEN" = some (.str BRK t)
  fig : ∃ t, mg "FIGURES" = some (.str FIG t)
def spName : Sp := fun vs H Q _ => ∃ (x : Str), vs = [.str x] ∧ x.length ≤ 100000 ∧ ∀ H', Same H H' → Q (.bl (isNameB x)) H'
theorem scName : FnScope ["word", "sign"] ["word"] (defScope sIsName) := ⟨rfl, rfl, rfl, by decide +kernel, rfl, by decide +kernel, by decide +kernel⟩
theorem name_bits (x : Str) : (List.range x.cps.size).map (fun i => V.bl (inL (x.cps.getD i 0) || inF (x.cps.getD i 0))) = (x.cps.toList.map fun c => inL c || inF c).map V.bl := by
  apply List.ext_getElem
  · simp
  · intro k h1 h2
    have hk : k < x.cps.size := by simpa using h1
    simp [Array.getD, hk]
theorem ok_name {f : Addr} {fd : FuncData} (F : Fun K "is_name" "is_name" sIsName f fd) (T : Bltn mg) (C : Consts K mg) : FnOk P w K mg base CX0 1 f fd ["word"] spName := by
  obtain ⟨tL, mL⟩ := C.let_
  obtain ⟨tF, mF⟩ := C.fig
  refine F.ok scName (fun vs H Q E h => ?_) (fun cdv A outer s H vs Q E hr h => ?_)
  · obtain ⟨x, rfl, _⟩ := h
    rfl
  obtain ⟨x, rfl, hx, q⟩ := h
  refine ⟨_, pss_cons (ps_if (PW.pt (pw_or (pt_not (pt_chain op_le op_le pe_int (pe_callB call_len_str rfl T.len PySem.boot_len (pa_cons (pv 0) pa_nil)) pe_int)) (pw_or1 (pt_cmpR op_notIn_sign (pe_ix ix_str (pv 0) pe_int (fun _ _ => rfl)) (pe_glob (v := .str LET) rfl mL ⟨_, rfl⟩) (by rfl)))))
      (pss_one (ps_ret pe_bl)) pss_nil)
    (pss_one (ps_ret (pe_callB (cr_all rfl) rfl T.all (by decide +kernel) (pa_cons (pe_lc (own := [("sign", 1)]) (g := gName 1) (tt := tYes) rfl scName.nd (pi_str (pv 0)) (blkOk_by (own := [("sign", 1)]) (N := ["word", "sign"]) (sc := defScope sIsName) (by decide +kernel))
      (fun _ _ _ _ _ => pg_name (i := 1) scName.nd rfl (Or.inl rfl)) (fun _ _ _ _ _ => pts_nil)
      (fun _ _ _ _ _ => pe_or (pe_cmpR op_in_sign (pv 1) (pe_glob (v := .str LET) rfl mL ⟨_, rfl⟩) (by rfl)) (pe_one (pe_cmpR op_in_sign (pv 1) (pe_glob (v := .str FIG) rfl mF ⟨_, rfl⟩) (by rfl))))) pa_nil)))), ?_⟩
  have len0 : x.length ≤ sizeLine := Nat.le_trans hx (by rw [sizeLine_eq]; decide)
  have no : isNameB x = false → Q (.bl false) H := fun e => by
    have := q H (Same.refl H)
    rw [e] at this
    exact this
  refine ⟨_, rfl, _, rfl, len0, _, _, rfl, rfl, _, rfl, ?_⟩
  refine ite2 (fun c1 => ?_) (fun c1 => ?_)
  · refine ⟨_, _, rfl, rfl, _, rfl, ?_⟩
    have l1 : 1 ≤ x.length := by
      have := of_decide_eq_true c1
      omega
    show (if (!decide ((x.length : Int) ≤ 8)) = true then _ else _)
    by_cases c2 : (x.length : Int) ≤ 8
    · rw [if_neg (by simp [c2])]
      have hc : x.cps[0]? = some (x.cps.getD 0 0) := by
        have : 0 < x.cps.size := l1
        simp [Array.getD, this]
      have hd0 : x.cps.toList.headD 0 = x.cps.getD 0 0 := by
        have : 0 < x.cps.size := l1
        rw [List.headD_eq_head?_getD, List.head?_eq_getElem?, Array.getElem?_toList, hc]
        rfl
      refine ⟨_, rfl, x, 0, x.cps.getD 0 0, rfl, rfl, len0, ?_, _, _, rfl, rfl, _, rfl, ?_⟩
      · have z : atI x.cps.toList ((0 : Nat) : Int) = some (x.cps.getD 0 0) := atI_nat (by rw [Array.getElem?_toList]; exact hc)
        exact z
      refine ite2 (fun c3 => ?_) (fun c3 => ?_)
      · refine no ?_
        have c3' : inL (x.cps.getD 0 0) = false := by
          unfold inL
          simpa using c3
        rw [show isNameB x = ((decide (1 ≤ x.length) && decide (x.length ≤ 8) && inL (x.cps.toList.headD 0)) && x.cps.toList.all fun c => inL c || inF c) from rfl, hd0, c3']
        simp
      · refine ⟨_, rfl, x, rfl, fun D nD => ?_⟩
        refine lc_all walk_str nD (fun i => V.bl (inL (x.cps.getD i 0) || inF (x.cps.getD i 0))) (Nat.le_trans (show x.cps.size ≤ _ from len0) (Nat.le_refl _)) (fun _ _ => trivial) ?_ ?_
        · rintro i y H0 H' Kt hi s0 ⟨rfl, c, hc, rfl⟩ hK
          have ec : x.cps.getD i 0 = c := by
            rw [Array.getD_eq_getD_getElem?, hc]
            rfl
          refine ⟨rfl, _, rfl, _, _, rfl, rfl, _, rfl, ?_⟩
          have hK := hK H' (Same.refl _)
          rw [ec] at hK
          unfold inL inF at hK
          by_cases m : c ∈ LET.cps.toList
          · simp only [m, decide_true, Bool.true_or, if_true] at hK ⊢
            exact hK
          · simp only [m, decide_false, Bool.false_or, if_neg, Bool.false_eq_true, if_false] at hK ⊢
            exact ⟨_, rfl, _, _, rfl, rfl, hK⟩
        · intro H2 s2 hD
          rw [name_bits] at hD
          refine ⟨D, _, rfl, SqL.of hD, ?_⟩
          have c3' : inL (x.cps.getD 0 0) = true := by
            unfold inL
            simpa using c3
          have e : isNameB x = (x.cps.toList.map fun c => inL c || inF c).all id := by
            rw [show isNameB x = ((decide (1 ≤ x.length) && decide (x.length ≤ 8) && inL (x.cps.toList.headD 0)) && x.cps.toList.all fun c => inL c || inF c) from rfl, hd0, c3', decide_eq_true l1, decide_eq_true (by omega : x.length ≤ 8), List.all_map]
            rfl
          rw [← e]
          exact q H2 s2
    · rw [if_pos (by simp [c2])]
      refine no ?_
      have : ¬ x.length ≤ 8 := by omega
      simp [isNameB, this]
  · refine ⟨_, rfl, iteT (iteT (no ?_))⟩
    have : ¬ 1 ≤ x.length := fun h => c1 (decide_eq_true (by omega))
    simp [isNameB, this]
end
end K56
set_option Elab.async false
set_option linter.all false
set_option maxRecDepth 100000
set_option maxHeartbeats 4000000
namespace K56
open PySem L2 LG
section
variable {P : Program} {w : World} {K : PySem.W.Frag} {mg : Str → Option Value} {base : Heap}
def spNames (K : PySem.W.Frag) : Sp := fun vs H Q _ => ∃ (l h : Str) (a b : Int), vs = [.str l, .str h, .int a, .int b] ∧ l.length ≤ 3900 ∧ ∀ (p : Addr) (H' : Hp), Same H H' → SqT K H' p ((namesIn l h a b).map V.str) → Q (.ref p) H'
abbrev nN : List Str := ["line", "head", "fewest", "most", "words", "names", "name"]
theorem scNames : FnScope nN ["line", "head", "fewest", "most"] (defScope sNamesIn) := ⟨rfl, rfl, rfl, by decide +kernel, rfl, by decide +kernel, by decide +kernel⟩
theorem cut_tail (ws : List Str) : cutV (ws.map V.str) (some 1) none = ws.tail.map V.str := by
  rw [show (1 : Int) = ((1 : Nat) : Int) from rfl, cut_from, List.drop_one, List.map_tail]
theorem names_bits (ns : List Str) : (List.range ns.length).map (fun i => V.bl (isNameB (ns.getD i Str.empty))) = (ns.map isNameB).map V.bl := by
  apply List.ext_getElem
  · simp
  · intro k h1 h2
    have hk : k < ns.length := by simpa using h1
    simp [List.getD, hk]
theorem ok_names {f g : Addr} {fd gd : FuncData} (F : Fun K "names_in" "names_in" sNamesIn f fd) (T : Bltn mg) (G : FnOk P w K mg base CX0 1 g gd ["word"] spName) (mG : mg "is_name" = some (.ref g)) (kG : PySem.W.keepIn K (.ref g) = true) (bG : Binds K gd ["word"] []) :
    FnOk P w K mg base CX0 2 f fd ["line", "head", "fewest", "most"] (spNames K) := by
  refine F.ok scNames (fun vs H Q E h => ?_) (fun cdv A outer s H vs Q E hr h => ?_)
  · obtain ⟨l, h, a, b, rfl, _⟩ := h
    rfl
  obtain ⟨l, h, a, b, rfl, hl, q⟩ := h
  refine ⟨_, pss_cons (ps_set (i := 4) scNames.nd rfl (Or.inl rfl) (pe_split (pv 0) pe_str))
    (pss_cons (ps_set (i := 5) scNames.nd rfl (Or.inl rfl) (pe_slice sl_list (pv 4) (po_some pe_int) po_none))
    (pss_cons (ps_if (PW.pt (pw_or (pt_cmpR op_ne (pe_ix ix_list (pv 4) pe_int (fun _ _ => rfl)) (pv 1) (nomark _)) (pw_or1 (pt_not (pt_chain op_le op_le (pv 2) (pe_callB call_len_seq rfl T.len PySem.boot_len (pa_cons (pv 5) pa_nil)) (pv 3))))))
      (pss_one (ps_ret (pe_tup pa_nil))) pss_nil)
    (pss_cons (ps_if (PW.pt (pw_or (pt_cmpR op_lt (pe_lenSetS rfl T.len rfl T.set (pv 5)) (pe_callB call_len_seq rfl T.len PySem.boot_len (pa_cons (pv 5) pa_nil)) (nomark _))
        (pw_or1 (pt_not (pt_val (pe_callB (cr_all rfl) rfl T.all (by decide +kernel) (pa_cons (pe_lc (own := [("name", 6)]) (g := gName 6) (tt := tYes) rfl scNames.nd (pi_list (pv 5)) (blkOk_by (own := [("name", 6)]) (N := nN) (sc := defScope sNamesIn) (by decide +kernel))
          (fun _ _ _ _ _ => pg_name (i := 6) scNames.nd rfl (Or.inl rfl)) (fun _ _ _ _ _ => pts_nil)
          (fun _ _ _ _ _ => pe_call G hr rfl mG kG bG .nil pass0 (pa_cons (pv 6) pa_nil))) pa_nil)))))))
      (pss_one (ps_ret (pe_tup pa_nil))) pss_nil)
    (pss_one (ps_ret (pe_callTy call_tuple_of rfl T.tuple (by decide +kernel) (pa_cons (pv 5) pa_nil))))))), ?_⟩
  refine ⟨_, rfl, ⟨_, rfl⟩, l, sp1, rfl, rfl, rfl, ?_, fun p np => ?_⟩
  · rw [sizeLine_eq]
    omega
  obtain ⟨wb1, wb2⟩ := words_bounds l
  have wne := words_some l
  generalize hws : Txt.split l sp1 = ws at wb1 wb2 wne
  have hp : (upd H p (.lst (ws.map V.str))) p = some (.lst (ws.map V.str)) := upd_same
  have s1 := same_new np (.lst (ws.map V.str))
  generalize upd H p (.lst (ws.map V.str)) = H1 at hp s1 ⊢
  refine ⟨_, rfl, 1, rfl, p, _, rfl, SqL.of hp, fun p2 np2 => ?_⟩
  rw [cut_tail]
  have hp2 : (upd H1 p2 (.lst (ws.tail.map V.str))) p2 = some (.lst (ws.tail.map V.str)) := upd_same
  have s2 := s1.trans (same_new np2 (.lst (ws.tail.map V.str)))
  have hp' := same_new np2 (.lst (ws.tail.map V.str)) _ _ hp
  generalize upd H1 p2 (.lst (ws.tail.map V.str)) = H2 at hp2 s2 hp' ⊢
  have hlen : (ws.tail.map V.str).length = ws.tail.length := List.length_map _
  have tl3 : ws.tail.length ≤ 3901 := by
    rw [List.length_tail]
    omega
  have h0 : atI (ws.map V.str) ((0 : Nat) : Int) = some (.str (ws.headD Str.empty)) := by
    cases ws with
    | nil => exact absurd rfl wne
    | cons x r => exact atI_nat (by simp)
  have bad : LG.namesIn l h a b = [] → ∀ G, Same H2 G → ∀ t, G t = none → Q (.ref t) (upd G t (.tup [])) := by
    intro e G sG t nt
    refine q t _ ((s2.trans sG).trans (same_new nt _)) ?_
    rw [e]
    exact .inl (.inl upd_same)
  have hN : LG.namesIn l h a b = if ws.headD Str.empty ≠ h ∨ ¬ (a ≤ (ws.tail.length : Int) ∧ (ws.tail.length : Int) ≤ b) then [] else if (uniq ws.tail).length < ws.tail.length ∨ ¬ (ws.tail.all isNameB = true) then [] else ws.tail := by
    unfold LG.namesIn
    rw [hws]
  generalize ws.headD Str.empty = hd at h0 hN
  refine ⟨_, rfl, p, _, _, _, rfl, rfl, SqL.of hp', h0, _, rfl, rfl, _, rfl, ?_⟩
  refine ite2 (fun c1 => ?_) (fun c1 => ?_)
  · refine ⟨(by show 0 ≤ sizeLine; decide), fun t nt => bad ?_ _ (Same.refl _) t nt⟩
    rw [hN, if_pos]
    left
    intro e
    rw [e] at c1
    simp at c1
  have hh : hd = h := Classical.byContradiction fun ne => c1 (by simp [ne])
  refine ⟨_, rfl, _, rfl, p2, _, rfl, .inl (SqL.of hp2), _, _, rfl, rfl, _, rfl, ?_⟩
  rw [hlen]
  have good : (a ≤ (ws.tail.length : Int) ∧ (ws.tail.length : Int) ≤ b) → LG.namesIn l h a b = if (uniq ws.tail).length < ws.tail.length ∨ ¬ (ws.tail.all isNameB = true) then [] else ws.tail := fun c => by
    rw [hN, if_neg]
    rintro (e | e)
    · exact e hh
    · exact e c
  have worse : ¬ (a ≤ (ws.tail.length : Int) ∧ (ws.tail.length : Int) ≤ b) → LG.namesIn l h a b = [] := fun c => by
    rw [hN, if_pos (.inr c)]
  refine ite2 (fun c2 => ?_) (fun c2 => ?_)
  · refine ⟨_, rfl, _, _, rfl, rfl, _, rfl, ?_⟩
    by_cases c3 : (ws.tail.length : Int) ≤ b
    · rw [decide_eq_true c3]
      refine iteF ?_
      have gd2 := good ⟨of_decide_eq_true c2, c3⟩
      clear good worse
      refine ⟨_, rfl, p2, ws.tail, rfl, SqL.of hp2, by omega, _, rfl, p2, _, rfl, .inl (SqL.of hp2), _, _, rfl, rfl, _, rfl, ?_⟩
      rw [hlen]
      refine ite2 (fun c4 => ?_) (fun c4 => ?_)
      · refine ⟨(by show 0 ≤ sizeLine; decide), fun t nt => bad ?_ _ (Same.refl _) t nt⟩
        rw [gd2, if_pos]
        left
        have := of_decide_eq_true c4
        omega
      have c4' : ¬ (uniq ws.tail).length < ws.tail.length := fun z => c4 (decide_eq_true (by omega))
      refine ⟨_, rfl, p2, rfl, ⟨_, SqL.of hp2⟩, fun D nD => ?_⟩
      refine lc_all walk_list nD (fun i => V.bl (isNameB (ws.tail.getD i Str.empty))) ?_ (fun G sG => SqL.of (sG _ _ hp2)) ?_ ?_
      · rw [hlen, sizeLine_eq]
        omega
      · rintro i x G G' Kt hi sG ⟨rfl, hx⟩ hK
        rw [hlen] at hi
        rw [List.getElem?_map, List.getElem?_eq_getElem hi] at hx
        have ex : x = .str ws.tail[i] := (Option.some.inj hx).symm
        subst ex
        refine ⟨rfl, _, rfl, _, rfl, ?_, fun G4 s4 => ?_⟩
        · have := wb1 _ (List.mem_of_mem_tail (List.getElem_mem hi))
          omega
        · have := hK G4 s4
          rw [List.getD_eq_getElem?_getD, List.getElem?_eq_getElem hi] at this
          exact this
      · intro G sG hD
        rw [hlen, names_bits] at hD
        refine ⟨D, _, rfl, SqL.of hD, _, rfl, ?_⟩
        have ea : (ws.tail.map isNameB).all id = ws.tail.all isNameB := by
          rw [List.all_map]
          rfl
        rw [ea]
        by_cases c5 : ws.tail.all isNameB = true
        · rw [c5]
          refine iteF ⟨_, rfl, p2, _, rfl, .inl ⟨SqL.of (sG _ _ hp2), fun t nt => q t _ ((s2.trans sG).trans (same_new nt _)) ?_⟩⟩
          rw [gd2, if_neg (by rintro (z | z); exact c4' z; exact z c5)]
          exact .inl (.inl upd_same)
        · have c5' : ws.tail.all isNameB = false := by simpa using c5
          rw [c5']
          refine iteT ⟨(by show 0 ≤ sizeLine; decide), fun t nt => bad ?_ _ sG t nt⟩
          rw [gd2, if_pos (.inr c5)]
    · rw [decide_eq_false c3]
      refine iteT ⟨(by show 0 ≤ sizeLine; decide), fun t nt => bad (worse fun z => c3 z.2) _ (Same.refl _) t nt⟩
  · refine ⟨_, rfl, iteT ⟨(by show 0 ≤ sizeLine; decide), fun t nt => bad (worse fun z => c2 (decide_eq_true z.1)) _ (Same.refl _) t nt⟩⟩
end
end K56
set_option Elab.async false
set_option linter.all false
set_option maxRecDepth 100000
set_option maxHeartbeats 4000000
namespace LG
open PySem L2
/-- texts' tuples -/
def TxtT (K : PySem.W.Frag) (H : Hp) (v : V) (ns : List Str) : Prop := ∃ t, v = .ref t ∧ SqT K H t (ns.map V.str)
theorem TxtT.same {K : PySem.W.Frag} {H H' : Hp} {v : V} {ns : List Str} (e : Same H H') (h : TxtT K H v ns) : TxtT K H' v ns := by
  obtain ⟨t, h1, h2⟩ := h
  exact ⟨t, h1, same_tup e h2⟩
theorem tup_lst {K : PySem.W.Frag} {H : Hp} {p t : Addr} {xs ys zs : List V} (h : H p = some (.lst xs)) (q : SqT K H t zs) : SqT K (upd H p (.lst ys)) t zs := by
  rcases q with (q | ⟨o, q⟩) | q
  · exact .inl (.inl (by rw [upd_ne (fun z => by rw [z, h] at q; cases q)]; exact q))
  · exact .inl (.inr ⟨o, by rw [upd_ne (fun z => by rw [z, h] at q; cases q)]; exact q⟩)
  · exact .inr q
theorem TxtT.lst {K : PySem.W.Frag} {H : Hp} {p : Addr} {xs ys : List V} {v : V} {ns : List Str} (hp : H p = some (.lst xs)) (h : TxtT K H v ns) : TxtT K (upd H p (.lst ys)) v ns := by
  obtain ⟨t, h1, h2⟩ := h
  exact ⟨t, h1, tup_lst hp h2⟩
inductive TxtTs (K : PySem.W.Frag) (H : Hp) : List V → List (List Str) → Prop
  | nil : TxtTs K H [] []
  | cons {v : V} {ns : List Str} {vs : List V} {nss : List (List Str)} : TxtT K H v ns → TxtTs K H vs nss → TxtTs K H (v :: vs) (ns :: nss)
theorem TxtTs.same {K : PySem.W.Frag} {H H' : Hp} {vs : List V} {nss : List (List Str)} (e : Same H H') (h : TxtTs K H vs nss) : TxtTs K H' vs nss := by
  induction h with
  | nil => exact .nil
  | cons a _ ih => exact .cons (a.same e) ih
theorem TxtTs.snoc {K : PySem.W.Frag} {H : Hp} {vs : List V} {nss : List (List Str)} {v : V} {ns : List Str} (h : TxtTs K H vs nss) (a : TxtT K H v ns) : TxtTs K H (vs ++ [v]) (nss ++ [ns]) := by
  induction h with
  | nil => exact .cons a .nil
  | cons b _ ih => exact .cons b ih
theorem TxtTs.lst {K : PySem.W.Frag} {H : Hp} {p : Addr} {xs ys : List V} {vs : List V} {nss : List (List Str)} (h : TxtTs K H vs nss) (hp : H p = some (.lst xs)) : TxtTs K (upd H p (.lst ys)) vs nss := by
  induction h with
  | nil => exact .nil
  | cons a _ ih => exact .cons (a.lst hp) ih
theorem TxtTs.len {K : PySem.W.Frag} {H : Hp} {vs : List V} {nss : List (List Str)} (h : TxtTs K H vs nss) : vs.length = nss.length := by
  induction h with
  | nil => rfl
  | cons _ _ ih => rw [List.length_cons, List.length_cons, ih]
/-- the written table of the first lines -/
structure HeadsAt (K : PySem.W.Frag) (a : Addr) : Prop where
  ex : ∃ a0 a1 a2 : Addr, (∀ H, SqT K H a [.ref a0, .ref a1, .ref a2]) ∧ (∀ H, SqT K H a0 [.str "calls", .int 1, .int 3]) ∧ (∀ H, SqT K H a1 [.str "answers", .int 2, .int 3]) ∧ (∀ H, SqT K H a2 [.str "marks", .int 1, .int 4])
theorem HeadsAt.at {K : PySem.W.Frag} {a : Addr} (h : HeadsAt K a) : ∃ hs : List Addr, hs.length = 3 ∧ (∀ H, SqT K H a (hs.map V.ref)) ∧ ∀ (i : Nat) (b : Addr), hs[i]? = some b → ∃ t, headsL[i]? = some t ∧ ∀ H, SqT K H b [.str t.1, .int t.2.1, .int t.2.2] := by
  obtain ⟨a0, a1, a2, h1, h2, h3, h4⟩ := h.ex
  refine ⟨[a0, a1, a2], rfl, h1, fun i b e => ?_⟩
  match i, e with
  | 0, e => cases e; exact ⟨_, rfl, h2⟩
  | 1, e => cases e; exact ⟨_, rfl, h3⟩
  | 2, e => cases e; exact ⟨_, rfl, h4⟩
  | n + 3, e => simp at e
theorem readHeads_bad {lines : List Str} {i : Nat} (hi : i < 3) (ok : ∀ j, j < i → headAt lines j ≠ []) (bad : headAt lines i = []) : readHeads lines = ((List.range i).map (headAt lines), i + 1) := by
  unfold readHeads
  match i, hi with
  | 0, _ => rw [if_pos bad]; rfl
  | 1, _ => rw [if_neg (ok 0 (by omega)), if_pos bad]; rfl
  | 2, _ => rw [if_neg (ok 0 (by omega)), if_neg (ok 1 (by omega)), if_pos bad]; rfl
theorem readHeads_ok {lines : List Str} (ok : ∀ j, j < 3 → headAt lines j ≠ []) : readHeads lines = ((List.range 3).map (headAt lines), 0) := by
  unfold readHeads
  rw [if_neg (ok 0 (by omega)), if_neg (ok 1 (by omega)), if_neg (ok 2 (by omega))]
  rfl
end LG
namespace K56
open PySem L2 LG
section
variable {P : Program} {w : World} {K : PySem.W.Frag} {mg : Str → Option Value} {base : Heap}
def spHeads (K : PySem.W.Frag) : Sp := fun vs H Q _ => ∃ (l hA : Addr) (lines : List Str), vs = [.ref l, .ref hA] ∧ HeadsAt K hA ∧ SqL K H l (lines.map V.str) ∧ (∀ t ∈ lines, t.length ≤ 3900) ∧ lines.length ≤ 4000 ∧
  ∀ (p q : Addr) (xs : List V) (H' : Hp), Same H H' → H q = none → SqT K H' p [.ref q, .int ((readHeads lines).2 : Nat)] → H' q = some (.lst xs) → TxtTs K H' xs (readHeads lines).1 → Q (.ref p) H'
abbrev nH : List Str := ["lines", "heads", "read", "at", "head", "fewest", "most", "names"]
theorem scHeads : FnScope nH ["lines", "heads"] (defScope sReadHeads) := ⟨rfl, rfl, rfl, by decide +kernel, rfl, by decide +kernel, by decide +kernel⟩
theorem ok_heads {f g : Addr} {fd gd : FuncData} (F : Fun K "read_heads" "read_heads" sReadHeads f fd) (T : Bltn mg) (G : FnOk P w K mg base CX0 2 g gd ["line", "head", "fewest", "most"] (spNames K)) (mG : mg "names_in" = some (.ref g)) (kG : PySem.W.keepIn K (.ref g) = true) (bG : Binds K gd ["line", "head", "fewest", "most"] []) :
    FnOk P w K mg base CX0 3 f fd ["lines", "heads"] (spHeads K) := by
  refine F.ok scHeads (fun vs H Q E h => ?_) (fun cdv A outer s H vs Q E hr h => ?_)
  · obtain ⟨l, hA, lines, rfl, _⟩ := h
    rfl
  obtain ⟨l, hA, lines, rfl, hA3, hl, hb, hn, q⟩ := h
  refine ⟨_, pss_cons (ps_set (i := 2) scHeads.nd rfl (Or.inl rfl) (pe_lst pa_nil))
    (pss_cons (ps_for PassesOwn.never rfl (pi_enumT rfl T.enumerate (pa_cons (pv 1) pa_nil))
        (pg_tup rfl (pgs_cons (pg_name (i := 3) scHeads.nd rfl (Or.inl rfl)) (pgs_cons (pg_tup rfl (pgs_cons (pg_name (i := 4) scHeads.nd rfl (Or.inl rfl)) (pgs_cons (pg_name (i := 5) scHeads.nd rfl (Or.inl rfl)) (pgs_cons (pg_name (i := 6) scHeads.nd rfl (Or.inl rfl)) pgs_nil)))) pgs_nil)))
      (pss_cons (ps_set (i := 7) scHeads.nd rfl (Or.inl rfl) (pe_ifExp (pt_cmpR op_lt (pv 3) (pe_callB call_len_seq rfl T.len PySem.boot_len (pa_cons (pv 0) pa_nil)) (nomark _))
          (pe_call G hr rfl mG kG bG .nil pass0 (pa_cons (pe_ix ix_list (pv 0) (pv 3) (fun _ _ => rfl)) (pa_cons (pv 4) (pa_cons (pv 5) (pa_cons (pv 6) pa_nil))))) (pe_tup pa_nil)))
      (pss_cons (ps_if (pt_not (pt_truth (pv 7) (by intro _; rfl))) (pss_one (ps_ret (pe_tup (pa_cons (pv 2) (pa_cons (pe_op op_add (pv 3) pe_int) pa_nil))))) pss_nil)
      (pss_one (ps_expr (pe_bm PySem.F.plainAttrs_list PySem.F.slot_list_append PySem.F.type_list_append mt_append (pv 2) (pa_cons (pv 7) pa_nil)))))))
    (pss_one (ps_ret (pe_tup (pa_cons (pv 2) (pa_cons pe_int pa_nil)))))), ?_⟩
  obtain ⟨hs, hs3, hsT, hsI⟩ := hA3.at
  refine ⟨(by show 0 ≤ sizeLine; decide), fun p np => ?_⟩
  have hp : (upd H p (.lst [])) p = some (.lst []) := upd_same
  have s1 := same_new np (.lst [])
  show _
  generalize upd H p (.lst []) = H1 at hp s1 ⊢
  refine ⟨_, rfl, hA, _, rfl, hsT H1, ?_⟩
  refine for_enumT (xs := hs.map V.ref) (fun i σ G => ∃ x3 x4 x5 x6 x7 xs, σ = [some (.ref l), some (.ref hA), some (.ref p), x3, x4, x5, x6, x7] ∧ Same H G ∧ G p = some (.lst xs) ∧ TxtTs K G xs ((List.range i).map (headAt lines)) ∧ ∀ j, j < i → headAt lines j ≠ [])
    ⟨_, _, _, _, _, [], rfl, s1, hp, .nil, fun j hj => absurd hj (by omega)⟩ (fun i σ G _ => hsT G) ?_ ?_
  · rintro i x T1 σ G hx ⟨x3, x4, x5, x6, x7, xs, rfl, sG, hG, tG, okG⟩ nT
    have hi : i < hs.length := by
      have := (List.getElem?_eq_some_iff.mp hx).1
      simpa using this
    rw [List.getElem?_map, List.getElem?_eq_getElem hi] at hx
    have ex : x = .ref hs[i] := (Option.some.inj hx).symm
    subst ex
    obtain ⟨⟨hd, fw, ms⟩, et, hb3⟩ := hsI i hs[i] (List.getElem?_eq_getElem hi)
    have sT := same_new nT (.tup [.int (i : Nat), .ref hs[i]])
    have hT : (upd G T1 (.tup [.int (i : Nat), .ref hs[i]])) T1 = some (.tup [.int (i : Nat), .ref hs[i]]) := upd_same
    show _
    generalize upd G T1 (.tup [.int (i : Nat), .ref hs[i]]) = G1 at sT hT ⊢
    refine ⟨T1, _, rfl, .inl (.inl hT), rfl, _, _, rfl, _, _, rfl, ⟨hs[i], _, rfl, hb3 G1, rfl, _, _, rfl, _, _, rfl, _, _, rfl, rfl, ?_⟩⟩
    have sG1 := sG.trans sT
    have lG1 : SqL K G1 l (lines.map V.str) := sG1.seq hl
    have hG1 := sT _ _ hG
    have tG1 := tG.same sT
    have i3 : i < 3 := by omega
    refine ⟨rfl, _, rfl, _, rfl, l, _, rfl, .inl lG1, _, _, rfl, rfl, _, rfl, ?_⟩
    rw [List.length_map]
    refine ite2 (fun c1 => ?_) (fun c1 => ?_)
    · have c1' : i < lines.length := by
        have := of_decide_eq_true c1
        omega
      refine ⟨_, rfl, _, rfl, l, _, _, _, rfl, rfl, lG1, atI_nat (by rw [List.getElem?_map, List.getElem?_eq_getElem c1']; rfl), _, rfl, _, rfl, _, rfl, lines[i], hd, fw, ms, rfl, hb _ (List.getElem_mem c1'), fun t G2 s2 ht => ?_⟩
      have eh : headAt lines i = LG.namesIn lines[i] hd fw ms := by
        unfold headAt
        rw [et, List.getElem?_eq_getElem c1']
      rw [← eh] at ht
      have hG2 := s2 _ _ hG1
      have tG2 := tG1.same s2
      have sG2 := sG1.trans s2
      by_cases e0 : headAt lines i = []
      · rw [e0] at ht
        refine ⟨_, rfl, false, .inr (.inl ⟨[], ht, rfl⟩), iteT ⟨_, rfl, _, rfl, _, _, rfl, rfl, (by show 2 ≤ sizeLine; decide), fun t2 n2 => ?_⟩⟩
        have s3 := same_new n2 (.tup [.ref p, .int ((i : Nat) + 1 : Int)])
        refine q t2 p xs _ (sG2.trans s3) np ?_ (s3 _ _ hG2) ?_
        · rw [readHeads_bad i3 okG e0]
          exact .inl (.inl upd_same)
        · rw [readHeads_bad i3 okG e0]
          exact tG2.same s3
      · obtain ⟨n0, nr, en⟩ : ∃ n0 nr, headAt lines i = n0 :: nr := by
          cases hh : headAt lines i with
          | nil => exact absurd hh e0
          | cons a b => exact ⟨a, b, rfl⟩
        have lx := tG2.len
        rw [List.length_map, List.length_range] at lx
        refine ⟨_, rfl, true, .inr (.inl ⟨_, ht, ?_⟩), iteF ⟨_, rfl, .inl ⟨rfl, _, SqL.of hG2⟩, _, rfl, p, _, _, rfl, rfl, hG2, ?_, ?_⟩⟩
        · rw [en]
          rfl
        · rw [lx, sizeLine_eq]
          omega
        · refine ⟨_, _, _, _, _, xs ++ [.ref t], rfl, fun b o e => ?_, upd_same, ?_, fun j hj => ?_⟩
          · rw [upd_ne (ne_of_none e np)]
            exact sG2 _ _ e
          · rw [List.range_succ, List.map_append]
            exact (tG2.lst hG2).snoc ⟨t, rfl, tup_lst hG2 ht⟩
          · by_cases ej : j = i
            · rw [ej]
              exact e0
            · exact okG j (by omega)
    · have e0 : headAt lines i = [] := by
        have : lines[i]? = none := by
          rw [List.getElem?_eq_none_iff]
          have : ¬ ((i : Int) < (lines.length : Int)) := fun z => c1 (decide_eq_true z)
          omega
        unfold headAt
        rw [this]
        cases headsL[i]? <;> rfl
      refine ⟨(by show 0 ≤ sizeLine; decide), fun t nt => ?_⟩
      have s2 := same_new nt (.tup [])
      have ht : (upd G1 t (.tup [])) t = some (.tup []) := upd_same
      show _
      generalize upd G1 t (.tup []) = G2 at s2 ht ⊢
      refine ⟨_, rfl, false, .inr (.inl ⟨[], .inl (.inl ht), rfl⟩), iteT ⟨_, rfl, _, rfl, _, _, rfl, rfl, (by show 2 ≤ sizeLine; decide), fun t2 n2 => ?_⟩⟩
      have s3 := same_new n2 (.tup [.ref p, .int ((i : Nat) + 1 : Int)])
      refine q t2 p xs _ ((sG1.trans s2).trans s3) np ?_ (s3 _ _ (s2 _ _ hG1)) ?_
      · rw [readHeads_bad i3 okG e0]
        exact .inl (.inl upd_same)
      · rw [readHeads_bad i3 okG e0]
        exact (tG1.same s2).same s3
  · rintro σ G ⟨x3, x4, x5, x6, x7, xs, rfl, sG, hG, tG, okG⟩
    rw [List.length_map, hs3] at tG okG
    refine ⟨_, rfl, (by show 2 ≤ sizeLine; decide), fun t2 n2 => ?_⟩
    have s3 := same_new n2 (.tup [.ref p, .int 0])
    refine q t2 p xs _ (sG.trans s3) np ?_ (s3 _ _ hG) ?_
    · rw [readHeads_ok okG]
      exact .inl (.inl upd_same)
    · rw [readHeads_ok okG]
      exact tG.same s3
end
end K56
set_option Elab.async false
set_option linter.all false
set_option maxRecDepth 100000
set_option maxHeartbeats 4000000
namespace LG
open PySem L2
theorem inV_str (x : Str) (ns : List Str) : inV (.str x) (ns.map V.str) = ns.contains x := by
  unfold inV
  rw [List.any_map, List.contains_eq_any_beq]
  congr 1
  funext y
  show (y == x) = (x == y)
  by_cases h : y = x
  · rw [h]
  · have h1 : (y == x) = false := by simpa using h
    have h2 : (x == y) = false := by simpa using fun z : x = y => h z.symm
    rw [h1, h2]
theorem iteC {c : Bool} {A B : Prop} (hc : c = true) (h : A) : if c = true then A else B := by
  rw [if_pos hc]
  exact h
theorem iteN {c : Bool} {A B : Prop} (hc : c = false) (h : B) : if c = true then A else B := by
  rw [hc]
  exact iteF h
theorem flat_txt (ns : List Str) : (ns.map V.str).all flatV = true := by
  rw [List.all_eq_true]
  intro y hy
  obtain ⟨_, _, rfl⟩ := List.mem_map.mp hy
  rfl
/-- x in texts, x a text -/
def rInTxt (K : PySem.W.Frag) : R2 := fun x y H Q => ∃ (z : Str) (p : Addr) (ns : List Str), x = .str z ∧ y = .ref p ∧ (SqL K H p (ns.map V.str) ∨ SqT K H p (ns.map V.str)) ∧ Q (.bl (ns.contains z)) H
theorem op_in_txt {X : Cx} : OpR X (compareOp .In) (rInTxt X.K) := by
  intro pins s σ H x y v u Q I rx ry h
  obtain ⟨z, p, ns, rfl, rfl, hq, q⟩ := h
  refine op_in_seq pins s σ H _ _ v u Q I rx ry ⟨p, _, rfl, hq, rfl, flat_txt ns, ?_⟩
  rw [inV_str]
  exact q
/-- a text, or of a type that is no text's -/
def StrOr (K : PySem.W.Frag) (H : Hp) (v : V) : Prop := (∃ x, v = .str x) ∨ ∃ t, TyX K H v t ∧ PySem.W.kitOne K t (.type "str") = some false ∧ ∀ x, v ≠ .str x
def amongB (v : V) (ns : List Str) : Bool := match v with
  | .str x => ns.contains x
  | _ => false
theorem among_not {v : V} {ns : List Str} (h : ∀ x, v ≠ .str x) : amongB v ns = false := by
  cases v with
  | str x => exact absurd rfl (h x)
  | _ => rfl
end LG
namespace K56
open PySem L2 LG
section
variable {P : Program} {w : World} {K : PySem.W.Frag} {mg : Str → Option Value} {base : Heap}
def spAmong (K : PySem.W.Frag) : Sp := fun vs H Q _ => ∃ (v : V) (t : Addr) (ns : List Str), vs = [v, .ref t] ∧ StrOr K H v ∧ (SqL K H t (ns.map V.str) ∨ SqT K H t (ns.map V.str)) ∧ Q (.bl (amongB v ns)) H
theorem scAmong : FnScope ["value", "names"] ["value", "names"] (defScope sIsAmong) := ⟨rfl, rfl, rfl, by decide +kernel, rfl, by decide +kernel, by decide +kernel⟩
theorem ok_among {f : Addr} {fd : FuncData} (F : Fun K "is_among" "is_among" sIsAmong f fd) (T : Bltn mg) : FnOk P w K mg base CX0 1 f fd ["value", "names"] (spAmong K) := by
  refine F.ok scAmong (fun vs H Q E h => ?_) (fun cdv A outer s H vs Q E hr h => ?_)
  · obtain ⟨v, t, ns, rfl, _⟩ := h
    rfl
  obtain ⟨v, t, ns, rfl, ty, hq, q⟩ := h
  refine ⟨_, pss_one (ps_ret (pe_and (pe_callB call_isi rfl T.isinstance (by decide +kernel) (pa_cons (pv 0) (pa_cons (pe_bltn (v := .ty "str") (u := .type "str") rfl T.str (by decide +kernel) rfl) pa_nil))) (pe_one (pe_cmpR op_in_txt (pv 0) (pv 1) (by rfl))))), ?_⟩
  rcases ty with ⟨x, rfl⟩ | ⟨tv, ty, k, no⟩
  · refine ⟨_, rfl, .str x, .ty "str", .type "str", .type "str", true, rfl, .ty _, .base (.str x), if_pos (beq_self_eq_true _), _, rfl, iteT ⟨_, rfl, _, rfl, x, t, ns, rfl, rfl, hq, q⟩⟩
  · refine ⟨_, rfl, v, .ty "str", tv, .type "str", false, rfl, .ty _, ty, k, _, rfl, iteF ?_⟩
    rw [among_not no] at q
    exact q
def spLine (K : PySem.W.Frag) : Sp := fun vs H Q _ => ∃ (l c a s : Addr) (ws C A S : List Str), vs = [.ref l, .ref c, .ref a, .ref s] ∧ SqL K H l (ws.map V.str) ∧ SqT K H c (C.map V.str) ∧ SqT K H a (A.map V.str) ∧ SqT K H s (S.map V.str) ∧ S.length ≤ 1000 ∧ ∀ H', Same H H' → Q (.bl (isLine ws C A S)) H'
theorem scLine : FnScope ["words", "calls", "answers", "marks"] ["words", "calls", "answers", "marks"] (defScope sIsLine) := ⟨rfl, rfl, rfl, by decide +kernel, rfl, by decide +kernel, by decide +kernel⟩
theorem ok_line {f : Addr} {fd : FuncData} (F : Fun K "is_line_of_step" "is_line_of_step" sIsLine f fd) (T : Bltn mg) (hB : ∃ t, mg "BROKEN" = some (.str BRK t)) : FnOk P w K mg base CX0 1 f fd ["words", "calls", "answers", "marks"] (spLine K) := by
  refine F.ok scLine (fun vs H Q E h => ?_) (fun cdv A0 outer st H vs Q E hr h => ?_)
  · obtain ⟨l, c, a, s, ws, C, A, S, rfl, _⟩ := h
    rfl
  obtain ⟨l, c, a, s, ws, C, A, S, rfl, hl, hc, ha, hs, lS, q⟩ := h
  obtain ⟨tB, mB⟩ := hB
  refine ⟨_, pss_cons (ps_if (PW.pt (pw_or (pt_cmpR op_ne (pe_callB call_len_seq rfl T.len PySem.boot_len (pa_cons (pv 0) pa_nil)) pe_int (nomark _)) (pw_or1 (pt_cmpR op_ne (pe_ix ix_list (pv 0) pe_int (fun _ _ => rfl)) pe_str (nomark _)))))
      (pss_one (ps_ret pe_bl)) pss_nil)
    (pss_one (ps_ret (pe_and (pe_cmpR op_in_txt (pe_ix ix_list (pv 0) pe_int (fun _ _ => rfl)) (pv 3) (by rfl)) (pe_and (pe_cmpR op_in_txt (pe_ix ix_list (pv 0) pe_int (fun _ _ => rfl)) (pv 1) (by rfl))
      (pe_and (pe_cmpR op_in_txt (pe_ix ix_list (pv 0) pe_int (fun _ _ => rfl)) (pv 2) (by rfl)) (pe_one (pe_cmpR op_in_txt (pe_ix ix_list (pv 0) pe_int (fun _ _ => rfl)) (pe_op op_catA (pv 3) (pe_tup (pa_cons (pe_glob (v := .str BRK) rfl mB ⟨_, rfl⟩) pa_nil))) (by rfl)))))))), ?_⟩
  refine ⟨_, rfl, l, _, rfl, .inl hl, rfl, _, rfl, ?_⟩
  rw [List.length_map]
  by_cases h5 : ws.length = 5
  · obtain ⟨x0, x1, x2, x3, x4, rfl⟩ : ∃ x0 x1 x2 x3 x4, ws = [x0, x1, x2, x3, x4] := by
      match ws, h5 with
      | [x0, x1, x2, x3, x4], _ => exact ⟨_, _, _, _, _, rfl⟩
    refine iteF ⟨_, rfl, l, _, _, _, rfl, rfl, hl, atI_nat (j := 0) rfl, rfl, _, rfl, ?_⟩
    have e : isLine [x0, x1, x2, x3, x4] C A S = (decide (x0 = "step") && (S.contains x1 && (C.contains x2 && (A.contains x3 && (S ++ [BRK]).contains x4)))) := rfl
    rw [e] at q
    have i1 : atI ([x0, x1, x2, x3, x4].map V.str) 1 = some (.str x1) := rfl
    have i2 : atI ([x0, x1, x2, x3, x4].map V.str) 2 = some (.str x2) := rfl
    have i3 : atI ([x0, x1, x2, x3, x4].map V.str) 3 = some (.str x3) := rfl
    have i4 : atI ([x0, x1, x2, x3, x4].map V.str) 4 = some (.str x4) := rfl
    by_cases h0 : x0 = "step"
    · rw [decide_eq_true h0, Bool.true_and] at q
      subst h0
      refine iteF ⟨_, rfl, l, _, _, _, rfl, rfl, hl, i1, _, rfl, _, s, S, rfl, rfl, .inr hs, _, rfl, ?_⟩
      cases e1 : S.contains x1 with
      | false =>
        rw [e1] at q
        exact iteF (q H (Same.refl H))
      | true =>
        rw [e1, Bool.true_and] at q
        refine iteT ⟨_, rfl, l, _, _, _, rfl, rfl, hl, i2, _, rfl, _, c, C, rfl, rfl, .inr hc, _, rfl, ?_⟩
        cases e2 : C.contains x2 with
        | false =>
          rw [e2] at q
          exact iteF (q H (Same.refl H))
        | true =>
          rw [e2, Bool.true_and] at q
          refine iteT ⟨_, rfl, l, _, _, _, rfl, rfl, hl, i3, _, rfl, _, a, A, rfl, rfl, .inr ha, _, rfl, ?_⟩
          cases e3 : A.contains x3 with
          | false =>
            rw [e3] at q
            exact iteF (q H (Same.refl H))
          | true =>
            rw [e3, Bool.true_and] at q
            refine iteT ⟨_, rfl, l, _, _, _, rfl, rfl, hl, i4, _, rfl, (by show 1 ≤ sizeLine; decide), fun t nt => ?_⟩
            have s1 := same_new nt (.tup [V.str BRK])
            have ht : (upd H t (.tup [V.str BRK])) t = some (.tup [V.str BRK]) := upd_same
            show _
            generalize upd H t (.tup [V.str BRK]) = H1 at s1 ht ⊢
            have hs1 := same_tup s1 hs
            refine ⟨s, t, S.map V.str, [V.str BRK], rfl, rfl, hs1, .inl (.inl ht), by rw [List.length_map, List.length_singleton, sizeLine_eq]; omega, fun e => ?_, fun _ e => (nomatch e), fun _ _ p np => ?_⟩
            · have : S = [] := List.map_eq_nil_iff.mp e
              subst this
              exact ⟨x4, t, [BRK], rfl, rfl, .inr (.inl (.inl ht)), q H1 s1⟩
            · have s2 := same_new np (.tup (S.map V.str ++ [V.str BRK]))
              refine ⟨x4, p, S ++ [BRK], rfl, rfl, .inr (.inl (.inl ?_)), q _ (s1.trans s2)⟩
              rw [List.map_append]
              exact upd_same
    · rw [decide_eq_false h0, Bool.false_and] at q
      have ne : (!decide ((V.str x0) = V.str "step")) = true := by simp [h0]
      exact iteC ne (q H (Same.refl H))
  · have e : isLine ws C A S = false := by
      unfold isLine
      split
      · rename_i r s c a g
        exact absurd rfl h5
      · rfl
    rw [e] at q
    have ne : (!decide (V.int (ws.length : Nat) = V.int 5)) = true := by
      have : ¬ ((ws.length : Int) = 5) := by omega
      simp [this]
    exact iteC ne (iteT (q H (Same.refl H)))
end
end K56
set_option Elab.async false
set_option linter.all false
set_option maxRecDepth 100000
set_option maxHeartbeats 4000000
namespace LG
open PySem L2
/-! ### errors that keep one value, raised -/
def vf (v : V) : List (Str × V) := [(("value" : Str), v)]
theorem vf_get (v : V) : (vf v).lookup ("value" : Str) = some v := by
  unfold vf
  simp [List.lookup]
def spInit (K : PySem.W.Frag) : Sp := fun vs H Q _ => ∃ (a C : Addr) (v : V), vs = [.ref a, v] ∧ OexC K C ∧ PySem.W.findIn K (.ref C) "value" = some none ∧ H a = some (exo a C none) ∧
  ∀ d, H d = none → d ≠ a → Q .non (upd (upd H d (exd d (vf v))) a (exo a C (some d)))
/-- a class of errors by its name -/
structure ECl (K : PySem.W.Frag) (mg : Str → Option Value) (fI : Addr) (x : Str) (C : Addr) : Prop where
  mg : mg x = some (.ref C)
  er : ErrC K C
  ini : PySem.W.findIn K (.ref C) "__init__" = some (some (.ref fI))
  no : PySem.W.findIn K (.ref C) "value" = some none
/-- the init as a callee -/
structure Ini (P : Program) (w : World) (K : PySem.W.Frag) (mg : Str → Option Value) (base : Heap) (fI : Addr) : Prop where
  ex : ∃ fd, FnOk P w K mg base CX0 1 fI fd ["self", "value"] (spInit K) ∧ Binds K fd ["self", "value"] []
  ty : PySem.W.typeIn K (.ref fI) = some (.type "function")
/-- any reading is as good as one from which it follows -/
theorem pe_mono {X : Cx} {e : Expr} {te : TE} (h : PE X e te) : PE X e (fun σ H Q => ∃ R : VK, te σ H R ∧ ∀ v H1, R v H1 → Q v H1) :=
  ⟨fun pins s σ H Q I ⟨R, q, k⟩ => thn (h.run pins s σ H R I q) fun u s1 ⟨v, H1, I1, r, q1⟩ => ⟨v, H1, I1, r, k v H1 q1⟩⟩
/-- raise X(e): the error's own dict at a new d -/
def tErrR (C : Addr) (W : WX) (te : TE) : TS := fun _ σ H => te σ H fun v H1 => ∀ d, H1 d = none → W (.ref C) (some d) σ (upd H1 d (.xd (vf v)))
theorem ps_err {X : Cx} {C fI : Addr} {x : Str} {e : Expr} {te : TE} {W : WX} {p1 pos pos2 : Pos} (hc : X.calm = true) (I : Ini X.prog X.w X.K X.mg X.base fI) (c : ECl X.K X.mg fI x C) (hr : Room 2 X.A) (tk : Takes X W) (he : PE X e te) (hg : Gl X x) (hdb : (x == ("__debug__" : Str)) = false := by decide)
    (hs : starEach [e] X.env = (false, eval e X.env) :: starEach [] X.env := by rfl) (hpl : (backTo pos (starEach [] X.env)).any (·.1) = false := by rfl) :
    PS X (.Raise (some (.Call (.Name x p1) [e] [] pos)) none pos2) (tErrR C W te) := by
  obtain ⟨fd, G, bG⟩ := I.ex
  have h := ps_raise (pos := pos2) hc tk (pmk_oex (p := p1) (dvs := []) (pos := pos) c.er.ox c.ini I.ty G hr bG .nil pass0 hg c.mg (pa_cons (pe_mono he) pa_nil hs) hdb hs hpl)
  refine ⟨fun pins s σ H D J q => h.run pins s σ H D J ⟨_, q, ?_⟩⟩
  intro v H1 k
  refine ⟨(by show 1 ≤ 1000; decide), fun a na => ⟨a, C, v, rfl, c.er.ox, c.no, upd_same, fun d nd ne => ⟨rfl, d, vf v, upd_same, ?_, ?_, ?_⟩⟩⟩
  · rw [upd_ne ne, upd_same]
  · rw [upd_ne ne] at nd
    exact nd
  · rw [upd_ne ne] at nd
    have e : upd (del (upd (upd (upd H1 a (exo a C none)) d (exd d (vf v))) a (exo a C (some d))) a) d (.xd (vf v)) = upd H1 d (.xd (vf v)) := by
      funext b
      by_cases hb : b = d
      · rw [hb, upd_same, upd_same]
      · rw [upd_ne hb, upd_ne hb]
        by_cases ha : b = a
        · rw [ha, del_same, na]
        · rw [del_ne ha, upd_ne ha, upd_ne hb, upd_ne ha]
    rw [e]
    exact k d nd
end LG
set_option Elab.async false
set_option linter.all false
set_option maxRecDepth 100000
set_option maxHeartbeats 8000000
namespace LG
open PySem L2
/-! ### rows by (state, call) -/
abbrev Goals := List ((Str × Str) × (Str × Str))
def kT (k : Str × Str) : List Key := [.inr k.1, .inr k.2]
inductive GR (K : PySem.W.Frag) (H : Hp) : List (List Key × V) → Goals → Prop
  | nil : GR K H [] []
  | cons {k x : Str × Str} {t : Addr} {kvs : List (List Key × V)} {g : Goals} : SqT K H t [.str x.1, .str x.2] → GR K H kvs g → GR K H ((kT k, .ref t) :: kvs) ((k, x) :: g)
theorem GR.same {K : PySem.W.Frag} {H H' : Hp} {kvs : List (List Key × V)} {g : Goals} (e : Same H H') (h : GR K H kvs g) : GR K H' kvs g := by
  induction h with
  | nil => exact .nil
  | cons a _ ih => exact .cons (same_tup e a) ih
theorem GR.len {K : PySem.W.Frag} {H : Hp} {kvs : List (List Key × V)} {g : Goals} (h : GR K H kvs g) : kvs.length = g.length := by
  induction h with
  | nil => rfl
  | cons _ _ ih => rw [List.length_cons, List.length_cons, ih]
theorem kT_inj {a b : Str × Str} : kT a = kT b ↔ a = b := by
  constructor
  · intro h
    simp [kT] at h
    exact Prod.ext h.1 h.2
  · rintro rfl
    rfl
theorem GR.snoc {K : PySem.W.Frag} {H : Hp} {kvs : List (List Key × V)} {g : Goals} {k x : Str × Str} {t : Addr} (h : GR K H kvs g) (a : SqT K H t [.str x.1, .str x.2]) : GR K H (kvs ++ [(kT k, .ref t)]) (g ++ [(k, x)]) := by
  induction h with
  | nil => exact .cons a .nil
  | cons b _ ih => exact .cons b ih
theorem GR.val {K : PySem.W.Frag} {H : Hp} {kvs : List (List Key × V)} {g : Goals} (h : GR K H kvs g) (k : Str × Str) :
    (g.lookup k = none ∧ valV kvs (kT k) = none) ∨ ∃ x t, g.lookup k = some x ∧ valV kvs (kT k) = some (.ref t) ∧ SqT K H t [.str x.1, .str x.2] := by
  induction h with
  | nil => exact .inl ⟨rfl, rfl⟩
  | @cons j x t kvs g a _ ih =>
    by_cases e : j = k
    · subst e
      exact .inr ⟨x, t, by simp [List.lookup], valV_pos rfl, a⟩
    · have ne : (k == j) = false := by simpa using fun z : k = j => e z.symm
      have l : List.lookup k ((j, x) :: g) = List.lookup k g := by simp [List.lookup, ne]
      rw [l, valV_neg (fun z => e (kT_inj.mp z))]
      exact ih
theorem GR.upd {K : PySem.W.Frag} {H : Hp} {kvs : List (List Key × V)} {g : Goals} {p : Addr} {o : HO} {zs : List (List Key × V)} (hp : H p = some (.dT zs)) (h : GR K H kvs g) : GR K (upd H p o) kvs g := by
  induction h with
  | nil => exact .nil
  | cons a _ ih =>
    refine .cons ?_ ih
    rcases a with (q | ⟨ob, q⟩) | q
    · exact .inl (.inl (by rw [upd_ne (fun z => by rw [z, hp] at q; cases q)]; exact q))
    · exact .inl (.inr ⟨ob, by rw [upd_ne (fun z => by rw [z, hp] at q; cases q)]; exact q⟩)
    · exact .inr q
/-! ### steps by (mark, call, answer) -/
def kT3 (k : Str × Str × Str) : List Key := [.inr k.1, .inr k.2.1, .inr k.2.2]
theorem kT3_inj {a b : Str × Str × Str} : kT3 a = kT3 b ↔ a = b := by
  constructor
  · intro h
    simp [kT3] at h
    exact Prod.ext h.1 (Prod.ext h.2.1 h.2.2)
  · rintro rfl
    rfl
def kvW (g : Steps) : List (List Key × V) := g.map fun e => (kT3 e.1, V.str e.2)
theorem kvW_len (g : Steps) : (kvW g).length = g.length := List.length_map _
theorem kvW_val (g : Steps) (k : Str × Str × Str) : valV (kvW g) (kT3 k) = (g.lookup k).map V.str := by
  induction g with
  | nil => rfl
  | cons e g ih =>
    obtain ⟨j, x⟩ := e
    by_cases c : j = k
    · subst c
      have : List.lookup j ((j, x) :: g) = some x := by simp [List.lookup]
      rw [this]
      exact valV_pos rfl
    · have ne : (k == j) = false := by simpa using fun z : k = j => c z.symm
      have l : List.lookup k ((j, x) :: g) = List.lookup k g := by simp [List.lookup, ne]
      rw [l, ← ih]
      exact valV_neg (fun z => c (kT3_inj.mp z))
theorem kvW_app (g h : Steps) : kvW (g ++ h) = kvW g ++ kvW h := List.map_append
theorem step_bad {C A S : List Str} {g : Steps} {line : Str} (h : isLine (Txt.split line sp1) C A S = false) : goalStep C A S g line = none := by
  unfold goalStep
  split
  · rename_i e
    rw [e] at h
    rw [if_neg (by rw [h]; simp)]
  · rfl
theorem step_two {C A S : List Str} {g : Steps} {line r s c a t x : Str} (e : Txt.split line sp1 = [r, s, c, a, t]) (h : g.lookup (s, c, a) = some x) : goalStep C A S g line = none := by
  unfold goalStep
  rw [e]
  show (if _ then _ else _) = _
  rw [if_neg (by rw [h]; simp)]
theorem step_ok {C A S : List Str} {g : Steps} {line r s c a t : Str} (e : Txt.split line sp1 = [r, s, c, a, t]) (hl : isLine [r, s, c, a, t] C A S = true) (h : g.lookup (s, c, a) = none) : goalStep C A S g line = some (g ++ [((s, c, a), t)]) := by
  unfold goalStep
  rw [e]
  show (if _ then _ else _) = _
  rw [if_pos ⟨hl, by rw [h]; rfl⟩]
theorem line_form {ws C A S : List Str} (h : isLine ws C A S = true) : ∃ r s c a t, ws = [r, s, c, a, t] := by
  unfold isLine at h
  split at h
  · exact ⟨_, _, _, _, _, rfl⟩
  · cases h
def GoalsW (H : Hp) (a : Addr) (g : Steps) : Prop := H a = some (.dT (kvW g))
/-- to be read -/
def GoalsAt (H : Hp) (a : Addr) (g : Steps) : Prop := Rd H a (.dT (kvW g))
theorem rd_same {H H' : Hp} {a : Addr} {u : HO} (e : Same H H') (h : Rd H a u) : Rd H' a u := h.elim (fun q => .inl (e _ _ q)) fun ⟨o, q⟩ => .inr ⟨o, e _ _ q⟩
theorem GoalsAt.same {H H' : Hp} {a : Addr} {g : Steps} (e : Same H H') (h : GoalsAt H a g) : GoalsAt H' a g := rd_same e h
end LG
namespace K56
open PySem L2 LG
section
variable {P : Program} {w : World} {K : PySem.W.Frag} {mg : Str → Option Value} {base : Heap} {fI : Addr}
def spSteps (K : PySem.W.Frag) (CB : Addr) : Sp := fun vs H Q E => ∃ (l c a s : Addr) (lines C A S : List Str), vs = [.ref l, .ref c, .ref a, .ref s] ∧ SqL K H l (lines.map V.str) ∧ (∀ t ∈ lines, t.length ≤ 3900) ∧ lines.length ≤ 4000 ∧
  SqT K H c (C.map V.str) ∧ SqT K H a (A.map V.str) ∧ SqT K H s (S.map V.str) ∧ C.length ≤ 1000 ∧ S.length ≤ 1000 ∧
  (∀ g, readGoals lines C A S = .inr g → ∀ p H', Same H H' → H p = none → GoalsAt H' p g → Q (.ref p) H') ∧
  (∀ n : Nat, readGoals lines C A S = .inl n → ∀ d H', Same H H' → H d = none → H' d = some (.xd (vf (.int n))) → E (.ref CB) (some d) H')
abbrev nG : List Str := ["lines", "calls", "answers", "marks", "goals", "at", "words"]
theorem scSteps : FnScope nG ["lines", "calls", "answers", "marks"] (defScope sReadSteps) := ⟨rfl, rfl, rfl, by decide +kernel, rfl, by decide +kernel, by decide +kernel⟩
theorem ok_steps {f g hA CB : Addr} {fd gd : FuncData} (F : Fun K "read_steps" "read_steps" sReadSteps f fd) (T : Bltn mg) (hH : mg "HEADS" = some (.ref hA)) (HA : HeadsAt K hA) (I : Ini P w K mg base fI) (cB : ECl K mg fI "BadWatch" CB)
    (G : FnOk P w K mg base CX0 1 g gd ["words", "calls", "answers", "marks"] (spLine K)) (mG : mg "is_line_of_step" = some (.ref g)) (kG : PySem.W.keepIn K (.ref g) = true) (bG : Binds K gd ["words", "calls", "answers", "marks"] []) :
    FnOk P w K mg base (L2.CX P w) 3 f fd ["lines", "calls", "answers", "marks"] (spSteps K CB) := by
  refine F.okX scSteps (fun vs H Q E h => ?_) (fun cdv A0 outer st H vs Q E hr h => ?_)
  · obtain ⟨l, c, a, s, lines, C, A, S, rfl, _⟩ := h
    rfl
  obtain ⟨l, c, a, s, lines, C, A, S, rfl, hl, hb, hn, hc, ha, hs, lC, lS, qok, qbad⟩ := h
  have hu := hu_of hr
  have r1 : Room 1 _ := hr.mono (by decide)
  have tk := takes_of (X := cxOf (L2.CX P w) P w K mg base nG "read_steps" (defScope sReadSteps) f cdv A0 outer st H E) rfl rfl rfl rfl
  refine ⟨_, pss_cons (ps_set (i := 4) scSteps.nd rfl (Or.inl rfl) pe_dnewT)
    (pss_cons (ps_for (passes_of rfl) rfl (pi_range2 rfl T.range (pa_cons (pe_callB call_len_seq rfl T.len PySem.boot_len (pa_cons (pe_glob (v := .ref hA) rfl hH rfl) pa_nil)) (pa_cons (pe_callB call_len_seq rfl T.len PySem.boot_len (pa_cons (pv 0) pa_nil)) pa_nil))) (pg_name (i := 5) scSteps.nd rfl (Or.inl rfl))
      (pss_cons (ps_set (i := 6) scSteps.nd rfl (Or.inl rfl) (pe_split (pe_ix ix_list (pv 0) (pv 5) (fun _ _ => rfl)) pe_str))
      (pss_cons (ps_if (PW.pt (pw_or (pt_not (pt_val (pe_call G r1 rfl mG kG bG .nil pass0 (pa_cons (pv 6) (pa_cons (pv 1) (pa_cons (pv 2) (pa_cons (pv 3) pa_nil))))))) (pw_or1 (pt_cmp (pc_din hu (pe_tup (pa_cons (pe_ix ix_list (pv 6) pe_int (fun _ _ => rfl)) (pa_cons (pe_ix ix_list (pv 6) pe_int (fun _ _ => rfl)) (pa_cons (pe_ix ix_list (pv 6) pe_int (fun _ _ => rfl)) pa_nil)))) (pv 4))))))
        (pss_one (ps_err rfl I cB hr tk (pe_op op_add (pv 5) pe_int) rfl)) pss_nil)
      (pss_one (ps_dput hu (pv 4) (pe_tup (pa_cons (pe_ix ix_list (pv 6) pe_int (fun _ _ => rfl)) (pa_cons (pe_ix ix_list (pv 6) pe_int (fun _ _ => rfl)) (pa_cons (pe_ix ix_list (pv 6) pe_int (fun _ _ => rfl)) pa_nil)))) (pe_ix ix_list (pv 6) pe_int (fun _ _ => rfl)) rfl)))))
    (pss_one (ps_ret (pv 4)))), ?_⟩
  intro p np
  have hp : (upd H p (.dT [])) p = some (.dT []) := upd_same
  have s1 := same_new np (.dT [])
  show _
  generalize upd H p (.dT []) = H1 at hp s1 ⊢
  obtain ⟨hs0, hs3, hsT, _⟩ := HA.at
  refine ⟨hA, _, rfl, .inr (hsT H1), _, rfl, l, _, rfl, .inl (s1.seq hl), _, _, rfl, ?_⟩
  have e3 : ((hs0.map V.ref).length : Int) = 3 := by
    rw [List.length_map, hs3]
    rfl
  have en : ((lines.map V.str).length : Int) = (lines.length : Int) := by rw [List.length_map]
  rw [e3, en]
  refine ⟨⟨by decide, by decide, by omega, by omega⟩, ?_⟩
  have start : goalsFrom C A S (lines.drop 3) 3 [] = goalsFrom C A S (lines.drop (3 + 0)) (3 + 0) [] := rfl
  refine for_range (lo := 3) (n := ((lines.length : Int) - 3).toNat) (fun i σ G => ∃ x5 x6 g, σ = [some (.ref l), some (.ref c), some (.ref a), some (.ref s), some (.ref p), x5, x6] ∧ Same H G ∧ GoalsW G p g ∧ g.length ≤ i ∧ goalsFrom C A S (lines.drop 3) 3 [] = goalsFrom C A S (lines.drop (3 + i)) (3 + i) g)
    ⟨_, _, [], rfl, s1, hp, by simp, rfl⟩ ?_ ?_
  · rintro i σ G hi ⟨x5, x6, g, rfl, sG, hG, hgi, eG⟩
    have lt : 3 + i < lines.length := by omega
    have lG := sG.seq hl
    rw [List.drop_eq_getElem_cons lt] at eG
    have i3 : ((3 : Int) + (i : Int)) = ((3 + i : Nat) : Int) := by omega
    refine ⟨_, rfl, _, rfl, l, _, _, _, rfl, rfl, lG, ?_, ⟨_, rfl⟩, lines[3 + i], sp1, rfl, rfl, rfl, ?_, fun q nq => ?_⟩
    · rw [i3]
      exact atI_nat (by rw [List.getElem?_map, List.getElem?_eq_getElem lt]; rfl)
    · have := hb _ (List.getElem_mem lt)
      rw [sizeLine_eq]
      omega
    have hws : isLine (Txt.split lines[3 + i] sp1) C A S = isLine (Txt.split lines[3 + i] sp1) C A S := rfl
    generalize hw : Txt.split lines[3 + i] sp1 = ws at hws
    have hq : (upd G q (.lst (ws.map V.str))) q = some (.lst (ws.map V.str)) := upd_same
    have s2 := same_new nq (.lst (ws.map V.str))
    show _
    generalize upd G q (.lst (ws.map V.str)) = G1 at hq s2 ⊢
    have sG1 := sG.trans s2
    have hq' : SqL K G1 q (ws.map V.str) := SqL.of hq
    refine ⟨_, rfl, _, rfl, _, rfl, _, rfl, q, c, a, s, ws, C, A, S, rfl, hq', same_tup sG1 hc, same_tup sG1 ha, same_tup sG1 hs, lS, fun Gx sx => ⟨_, rfl, ?_⟩⟩
    have sGx := sG1.trans sx
    have hqx := sx.seq hq'
    have hGx : Gx p = some (.dT (kvW g)) := sx _ _ (s2 _ _ hG)
    cases hline : isLine ws C A S with
    | false =>
      refine iteT (iteT ⟨_, rfl, _, _, rfl, rfl, fun d nd => ?_⟩)
      have s3 := same_new nd (.xd (vf (.int (3 + (i : Int) + 1))))
      have eb : readGoals lines C A S = .inl (3 + i + 1) := by
        show goalsFrom C A S (lines.drop 3) 3 [] = _
        rw [eG]
        show (match goalStep C A S g lines[3 + i] with | none => _ | some g' => _) = _
        rw [step_bad (by rw [hw]; exact hline)]
      refine qbad _ eb d _ (sGx.trans s3) (sGx.free nd) ?_
      rw [upd_same]
      have e4 : (((3 + i + 1 : Nat) : Nat) : Int) = 3 + (i : Int) + 1 := by omega
      rw [e4]
    | true =>
      obtain ⟨x0, x1, x2, x3, x4, rfl⟩ := line_form hline
      have i1 : atI ([x0, x1, x2, x3, x4].map V.str) 1 = some (.str x1) := rfl
      have i2 : atI ([x0, x1, x2, x3, x4].map V.str) 2 = some (.str x2) := rfl
      have i3' : atI ([x0, x1, x2, x3, x4].map V.str) 3 = some (.str x3) := rfl
      have i4 : atI ([x0, x1, x2, x3, x4].map V.str) 4 = some (.str x4) := rfl
      refine iteF ⟨_, rfl, q, _, _, _, rfl, rfl, hqx, i1, _, rfl, q, _, _, _, rfl, rfl, hqx, i2, _, rfl, q, _, _, _, rfl, rfl, hqx, i3', (by show 3 ≤ sizeLine; decide), fun t nt => ?_⟩
      have s3 := same_new nt (.tup [.str x1, .str x2, .str x3])
      have ht : (upd Gx t (.tup [.str x1, .str x2, .str x3])) t = some (.tup ((kT3 (x1, x2, x3)).map kV)) := upd_same
      show _
      generalize upd Gx t (.tup [.str x1, .str x2, .str x3]) = G2 at s3 ht ⊢
      have hG2 := s3 _ _ hGx
      have sG2 := sGx.trans s3
      refine ⟨_, rfl, p, _, rfl, DGet.t hG2 ht, _, rfl, ?_⟩
      rw [kvW_val]
      cases lk : g.lookup (x1, x2, x3) with
      | none =>
        refine iteF ?_
        have hq2 := s3.seq hqx
        refine ⟨_, rfl, q, _, _, _, rfl, rfl, hq2, i4, _, rfl, _, rfl, q, _, _, _, rfl, rfl, hq2, i1, _, rfl, q, _, _, _, rfl, rfl, hq2, i2, _, rfl, q, _, _, _, rfl, rfl, hq2, i3', (by show 3 ≤ sizeLine; decide), fun tk ntk => ?_⟩
        have s5 := same_new ntk (.tup [.str x1, .str x2, .str x3])
        have htk : (upd G2 tk (.tup [.str x1, .str x2, .str x3])) tk = some (.tup ((kT3 (x1, x2, x3)).map kV)) := upd_same
        show _
        generalize upd G2 tk (.tup [.str x1, .str x2, .str x3]) = G4 at s5 htk ⊢
        have hG4 := s5 _ _ hG2
        have sG4 := sG2.trans s5
        refine ⟨p, _, rfl, DPut.t hG4 htk (by rw [kvW_len, sizeLine_eq]; omega), ?_⟩
        rw [putK_new _ (by rw [kvW_val, lk]; rfl)]
        refine ⟨_, _, g ++ [((x1, x2, x3), x4)], rfl, fun b o e => ?_, ?_, ?_, ?_⟩
        · rw [upd_ne (ne_of_none e np)]
          exact sG4 _ _ e
        · show upd _ p _ p = _
          rw [kvW_app]
          exact upd_same
        · rw [List.length_append, List.length_singleton]
          omega
        · rw [eG]
          show (match goalStep C A S g lines[3 + i] with | none => _ | some g' => _) = _
          rw [step_ok hw hline lk]
          rfl
      | some x =>
        refine iteT ⟨_, rfl, _, _, rfl, rfl, fun d nd => ?_⟩
        have s4 := same_new nd (.xd (vf (.int (3 + (i : Int) + 1))))
        have eb : readGoals lines C A S = .inl (3 + i + 1) := by
          show goalsFrom C A S (lines.drop 3) 3 [] = _
          rw [eG]
          show (match goalStep C A S g lines[3 + i] with | none => _ | some g' => _) = _
          rw [step_two hw lk]
        refine qbad _ eb d _ (sG2.trans s4) (sG2.free nd) ?_
        rw [upd_same]
        have e4 : (((3 + i + 1 : Nat) : Nat) : Int) = 3 + (i : Int) + 1 := by omega
        rw [e4]
  · rintro σ G ⟨x5, x6, g, rfl, sG, hG, hgi, eG⟩
    have ed : lines.drop (3 + ((lines.length : Int) - 3).toNat) = [] := List.drop_of_length_le (by omega)
    rw [ed] at eG
    have eR : readGoals lines C A S = .inr g := by
      show goalsFrom C A S (lines.drop 3) 3 [] = _
      rw [eG]
      rfl
    exact ⟨_, rfl, qok g eR p G sG np (.inl hG)⟩
end
end K56
set_option Elab.async false
set_option linter.all false
set_option maxRecDepth 100000
set_option maxHeartbeats 8000000
namespace LG
open PySem L2
/-- what the written part says of the class of devices -/
structure DevCl (K : PySem.W.Frag) (mg : Str → Option Value) (C : Addr) : Prop where
  mg : mg "Watch" = some (.ref C)
  cl : Cls K C
  nt : NoAttr K C "text"
  nc : NoAttr K C "calls"
  na : NoAttr K C "answers"
  ns : NoAttr K C "marks"
  ng : NoAttr K C "_goals"
def devF (T : Str) (c a s g : Addr) : List (Str × V) := [("text", .str T), ("calls", .ref c), ("answers", .ref a), ("marks", .ref s), ("_goals", .ref g)]
theorem put_new {f : Str} {v : V} : ∀ {fs : List (Str × V)}, (∀ p ∈ fs, p.1 ≠ f) → putF f v fs = fs ++ [(f, v)]
  | [], _ => rfl
  | (g, x) :: r, h => by
    show (if g = f then _ else _) = _
    rw [if_neg (h _ List.mem_cons_self), put_new fun p hp => h p (List.mem_cons_of_mem _ hp)]
    rfl
/-- a device of the text T, read as D -/
def DevAt (K : PySem.W.Frag) (H : Hp) (x C : Addr) (T : Str) (D : Wat) : Prop := ∃ dx c a s g, H x = some (.ins C dx (devF T c a s g)) ∧ SqT K H c (D.calls.map V.str) ∧ SqT K H a (D.answers.map V.str) ∧ SqT K H s (D.marks.map V.str) ∧ GoalsAt H g D.steps
theorem DevAt.same {K : PySem.W.Frag} {H H' : Hp} {x C : Addr} {T : Str} {D : Wat} (e : Same H H') (h : DevAt K H x C T D) : DevAt K H' x C T D := by
  obtain ⟨dx, c, a, s, g, h1, h2, h3, h4, h5⟩ := h
  exact ⟨dx, c, a, s, g, e _ _ h1, same_tup e h2, same_tup e h3, same_tup e h4, h5.same e⟩
def parseV (v : V) : Sum Nat Wat := match v with
  | .str T => parse T
  | _ => .inl 0
theorem parse_heads {T : Str} {c a s : List Str} {g : Steps} (h : readHeads (Txt.split T nl1) = ([c, a, s], 0)) : parse T = if s.contains BRK = true then .inl 3 else match readGoals (Txt.split T nl1) c a s with | .inl n => .inl n | .inr g => .inr ⟨c, a, s, g⟩ := by
  unfold parse
  show (match readHeads (Txt.split T nl1) with | ([c, a, s], 0) => _ | (_, n) => _) = _
  rw [h]
  rfl
theorem namesIn_len (l h : Str) (a b : Int) (hb : 0 ≤ b) : ((LG.namesIn l h a b).length : Int) ≤ b := by
  unfold LG.namesIn
  show (((if _ then _ else _ : List Str).length : Nat) : Int) ≤ b
  split
  · simpa using hb
  · rename_i c
    split
    · simpa using hb
    · exact Classical.byContradiction fun z => c (.inr fun y => z y.2)
theorem headAt_len (lines : List Str) (i : Nat) : (headAt lines i).length ≤ 4 := by
  unfold headAt
  match i with
  | 0 => cases h : lines[0]? with
    | none => simp
    | some l =>
      have := namesIn_len l "calls" 1 3 (by decide)
      show (LG.namesIn l "calls" 1 3).length ≤ 4
      omega
  | 1 => cases h : lines[1]? with
    | none => simp
    | some l =>
      have := namesIn_len l "answers" 2 3 (by decide)
      show (LG.namesIn l "answers" 2 3).length ≤ 4
      omega
  | 2 => cases h : lines[2]? with
    | none => simp
    | some l =>
      have := namesIn_len l "marks" 1 4 (by decide)
      show (LG.namesIn l "marks" 1 4).length ≤ 4
      omega
  | n + 3 => simp [headsL]
theorem heads_cases (lines : List Str) : (∃ c a s, readHeads lines = ([c, a, s], 0) ∧ c.length ≤ 4 ∧ s.length ≤ 4) ∨ ∃ r n, readHeads lines = (r, n + 1) := by
  unfold readHeads
  by_cases h0 : headAt lines 0 = []
  · rw [if_pos h0]
    exact .inr ⟨_, _, rfl⟩
  · rw [if_neg h0]
    by_cases h1 : headAt lines 1 = []
    · rw [if_pos h1]
      exact .inr ⟨_, _, rfl⟩
    · rw [if_neg h1]
      by_cases h2 : headAt lines 2 = []
      · rw [if_pos h2]
        exact .inr ⟨_, _, rfl⟩
      · rw [if_neg h2]
        exact .inl ⟨_, _, _, rfl, headAt_len _ _, headAt_len _ _⟩
theorem ft1 : ("text" : Str) ≠ "calls" := by decide
theorem ft2 : ("text" : Str) ≠ "answers" := by decide
theorem ft3 : ("calls" : Str) ≠ "answers" := by decide
theorem ft4 : ("text" : Str) ≠ "marks" := by decide
theorem ft5 : ("calls" : Str) ≠ "marks" := by decide
theorem ft6 : ("answers" : Str) ≠ "marks" := by decide
theorem ft7 : ("text" : Str) ≠ "_goals" := by decide
theorem ft8 : ("calls" : Str) ≠ "_goals" := by decide
theorem ft9 : ("answers" : Str) ≠ "_goals" := by decide
theorem ft0 : ("marks" : Str) ≠ "_goals" := by decide
theorem devF_text {T : Str} {c a s g : Addr} : (devF T c a s g).lookup ("text" : Str) = some (.str T) := rfl
theorem parse_bad {T : Str} {r : List (List Str)} {n : Nat} (h : readHeads (Txt.split T nl1) = (r, n + 1)) : parse T = .inl (n + 1) := by
  unfold parse
  show (match readHeads (Txt.split T nl1) with | ([c, a, s], 0) => _ | (_, n) => _) = _
  rw [h]
  split
  · rename_i e
    cases e
  · rename_i e
    cases e
    rfl
theorem tup_but {K : PySem.W.Frag} {H H' : Hp} {x t C dx : Addr} {fs : List (Str × V)} {zs : List V} (e : But x H H') (hx : H x = some (.ins C dx fs)) (h : SqT K H t zs) : SqT K H' t zs := by
  rcases h with (q | ⟨o, q⟩) | q
  · exact .inl (.inl (e _ _ q (fun z => by rw [z, hx] at q; cases q)))
  · exact .inl (.inr ⟨o, e _ _ q (fun z => by rw [z, hx] at q; cases q)⟩)
  · exact .inr q
theorem lst_but {K : PySem.W.Frag} {H H' : Hp} {x t C dx : Addr} {fs : List (Str × V)} {zs : List V} (e : But x H H') (hx : H x = some (.ins C dx fs)) (h : SqL K H t zs) : SqL K H' t zs := by
  rcases h with (q | ⟨o, q⟩) | q
  · exact .inl (.inl (e _ _ q (fun z => by rw [z, hx] at q; cases q)))
  · exact .inl (.inr ⟨o, e _ _ q (fun z => by rw [z, hx] at q; cases q)⟩)
  · exact .inr q
theorem gr_but {K : PySem.W.Frag} {H H' : Hp} {x C dx : Addr} {fs : List (Str × V)} {kvs : List (List Key × V)} {g : Goals} (e : But x H H') (hx : H x = some (.ins C dx fs)) (h : GR K H kvs g) : GR K H' kvs g := by
  induction h with
  | nil => exact .nil
  | cons a _ ih => exact .cons (tup_but e hx a) ih
theorem goals_but {H H' : Hp} {x p C dx : Addr} {fs : List (Str × V)} {g : Steps} (e : But x H H') (hx : H x = some (.ins C dx fs)) (h : GoalsAt H p g) : GoalsAt H' p g := by
  rcases h with q | ⟨o, q⟩
  · exact .inl (e _ _ q (fun z => by rw [z, hx] at q; cases q))
  · exact .inr ⟨o, e _ _ q (fun z => by rw [z, hx] at q; cases q)⟩
theorem but_upd (x : Addr) (H : Hp) (o : HO) : But x H (upd H x o) := fun b u e ne => by
  rw [upd_ne ne]
  exact e
end LG
namespace K56
open PySem L2 LG
section
variable {P : Program} {w : World} {K : PySem.W.Frag} {mg : Str → Option Value} {base : Heap} {fI : Addr}
def spDInit (K : PySem.W.Frag) (C CB : Addr) : Sp := fun vs H Q E => ∃ (x dx : Addr) (v : V), vs = [.ref x, v] ∧ H x = some (.ins C dx []) ∧ StrOr K H v ∧ (∀ T, v = .str T → T.length ≤ 3900) ∧
  (∀ T D, v = .str T → parse T = .inr D → ∀ H', But x H H' → DevAt K H' x C T D → Q .non H') ∧
  (∀ n : Nat, parseV v = .inl n → ∀ d H', But x H H' → H d = none → H' d = some (.xd (vf (.int n))) → E (.ref CB) (some d) H')
abbrev nD : List Str := ["self", "text", "lines", "heads", "bad"]
theorem scDInit : FnScope nD ["self", "text"] (defScope sDInit) := ⟨rfl, rfl, rfl, by decide +kernel, rfl, by decide +kernel, by decide +kernel⟩
theorem ok_dinit {f g1 g2 hA C CB : Addr} {fd gd1 gd2 : FuncData} (F : Fun K "__init__" "Watch.__init__" sDInit f fd) (T : Bltn mg) (hH : mg "HEADS" = some (.ref hA)) (HA : HeadsAt K hA) (I : Ini P w K mg base fI) (cB : ECl K mg fI "BadWatch" CB) (DC : DevCl K mg C) (hB : ∃ t, mg "BROKEN" = some (.str BRK t))
    (G1 : FnOk P w K mg base CX0 3 g1 gd1 ["lines", "heads"] (spHeads K)) (m1 : mg "read_heads" = some (.ref g1)) (k1 : PySem.W.keepIn K (.ref g1) = true) (b1 : Binds K gd1 ["lines", "heads"] [])
    (G2 : FnOk P w K mg base (L2.CX P w) 3 g2 gd2 ["lines", "calls", "answers", "marks"] (spSteps K CB)) (m2 : mg "read_steps" = some (.ref g2)) (k2 : PySem.W.keepIn K (.ref g2) = true) (b2 : Binds K gd2 ["lines", "calls", "answers", "marks"] []) :
    FnOk P w K mg base (L2.CX P w) 4 f fd ["self", "text"] (spDInit K C CB) := by
  refine F.okX scDInit (fun vs H Q E h => ?_) (fun cdv A0 outer st H vs Q E hr h => ?_)
  · obtain ⟨x, dx, v, rfl, _⟩ := h
    rfl
  obtain ⟨x, dx, v, rfl, hx, ty, hz, qok, qbad⟩ := h
  obtain ⟨tB, mB⟩ := hB
  have r2 : Room 2 _ := hr.mono (by decide)
  have tk := takes_of (X := cxOf (L2.CX P w) P w K mg base nD "Watch.__init__" (defScope sDInit) f cdv A0 outer st H E) rfl rfl rfl rfl
  refine ⟨_, pss_cons (ps_if (pt_not (pt_val (pe_callB call_isi rfl T.isinstance (by decide +kernel) (pa_cons (pv 1) (pa_cons (pe_bltn (v := .ty "str") (u := .type "str") rfl T.str (by decide +kernel) rfl) pa_nil)))))
      (pss_one (ps_err rfl I cB r2 tk pe_int rfl)) pss_nil)
    (pss_cons (ps_set (i := 2) scDInit.nd rfl (Or.inl rfl) (pe_split (pv 1) pe_str))
    (pss_cons (ps_asg (pe_call G1 hr rfl m1 k1 b1 .nil pass0 (pa_cons (pv 2) (pa_cons (pe_glob (v := .ref hA) rfl hH rfl) pa_nil))) (pg_tup rfl (pgs_cons (pg_name (i := 3) scDInit.nd rfl (Or.inl rfl)) (pgs_cons (pg_name (i := 4) scDInit.nd rfl (Or.inl rfl)) pgs_nil))))
    (pss_cons (ps_if (pt_cmpR op_gt (pv 4) pe_int (nomark _)) (pss_one (ps_err rfl I cB r2 tk (pv 4) rfl)) pss_nil)
    (pss_cons (ps_fld (pv 0) (pv 1) rfl)
    (pss_cons (ps_asg (pv 3) (pg_unl rfl (pgs_cons (pg_fld (pv 0)) (pgs_cons (pg_fld (pv 0)) (pgs_cons (pg_fld (pv 0)) pgs_nil)))))
    (pss_cons (ps_if (pt_cmpR op_in_txt (pe_glob (v := .str BRK) rfl mB ⟨_, rfl⟩) (pe_fld (pv 0) rfl) (by rfl)) (pss_one (ps_err rfl I cB r2 tk (pe_callB call_len_seq rfl T.len PySem.boot_len (pa_cons (pe_glob (v := .ref hA) rfl hH rfl) pa_nil)) rfl)) pss_nil)
    (pss_one (ps_fld (pv 0) (pe_call G2 hr rfl m2 k2 b2 .nil (passes_call tk (fun _ _ _ _ h => h)) (pa_cons (pv 2) (pa_cons (pe_fld (pv 0) rfl) (pa_cons (pe_fld (pv 0) rfl) (pa_cons (pe_fld (pv 0) rfl) pa_nil))))) rfl)))))))), ?_⟩
  have bx : ∀ {H' : Hp}, Same H H' → But x H H' := fun e => But.of e
  rcases ty with ⟨X, rfl⟩ | ⟨tv, ty, k, no⟩
  · refine ⟨_, rfl, .str X, .ty "str", .type "str", .type "str", true, rfl, .ty _, .base (.str X), if_pos (beq_self_eq_true _), _, rfl, iteF ?_⟩
    have hX := hz X rfl
    obtain ⟨lb1, lb2⟩ := lines_bounds X
    refine ⟨_, rfl, ⟨_, rfl⟩, X, nl1, rfl, rfl, rfl, (by rw [sizeLine_eq]; omega), fun l nl => ?_⟩
    have hl : (upd H l (.lst ((Txt.split X nl1).map V.str))) l = some (.lst ((Txt.split X nl1).map V.str)) := upd_same
    have s1 := same_new nl (.lst ((Txt.split X nl1).map V.str))
    show _
    generalize upd H l (.lst ((Txt.split X nl1).map V.str)) = H1 at hl s1 ⊢
    have hp : parseV (.str X) = parse X := rfl
    have hd := heads_cases (Txt.split X nl1)
    have pb := @parse_bad X
    have ph := @parse_heads X
    generalize Txt.split X nl1 = lines at hl lb1 lb2 hd pb ph ⊢
    refine ⟨_, rfl, l, hA, lines, rfl, HA, SqL.of hl, fun t ht => Nat.le_trans (lb1 t ht) hX, by omega, fun p q xs H2 s2 nq hp2 hq hxs => ?_⟩
    have s12 := s1.trans s2
    refine ⟨p, _, rfl, hp2, rfl, _, _, rfl, _, _, rfl, rfl, ?_⟩
    rcases hd with ⟨c, a, s, e, lc, ls⟩ | ⟨r, n, e⟩
    · rw [e] at hxs
      refine ⟨_, rfl, _, _, rfl, rfl, _, rfl, ?_⟩
      rw [e]
      refine iteF ?_
      cases hxs with
      | cons h1 r1 => cases r1 with
        | cons h2 r2 => cases r2 with
          | cons h3 r3 =>
            cases r3
            obtain ⟨tc, rfl, h1⟩ := h1
            obtain ⟨ta, rfl, h2⟩ := h2
            obtain ⟨ts, rfl, h3⟩ := h3
            have hx2 := s12 _ _ hx
            have b2 : But x H H2 := bx s12
            have hl2 : SqL K H2 l (lines.map V.str) := s2.seq (SqL.of hl)
            have hq2 : SqL K H2 q [.ref tc, .ref ta, .ref ts] := SqL.of hq
            refine ⟨_, rfl, _, rfl, x, C, dx, _, rfl, hx2, DC.cl, DC.nt, by show 0 < 1000; decide, ?_⟩
            have hx3 : (upd H2 x (.ins C dx (putF "text" (.str X) []))) x = some (.ins C dx [("text", .str X)]) := upd_same
            have e3 := but_upd x H2 (.ins C dx (putF "text" (.str X) []))
            generalize upd H2 x (.ins C dx (putF "text" (.str X) [])) = H3 at hx3 e3 ⊢
            have h1 := tup_but e3 hx2 h1
            have h2 := tup_but e3 hx2 h2
            have h3 := tup_but e3 hx2 h3
            have hl3 := lst_but e3 hx2 hl2
            have hq3 := lst_but e3 hx2 hq2
            have b3 := b2.trans e3
            refine ⟨_, rfl, q, _, rfl, hq3, rfl, _, _, rfl, _, rfl, x, C, dx, _, rfl, hx3, DC.cl, DC.nc, by show 1 < 1000; decide, ?_⟩
            have hx4 : (upd H3 x (.ins C dx (putF "calls" (.ref tc) [("text", .str X)]))) x = some (.ins C dx [("text", .str X), ("calls", .ref tc)]) := by
              rw [upd_same, put_new (by intro p hp; simp at hp; rw [hp]; exact ft1)]
              rfl
            have e4 := but_upd x H3 (.ins C dx (putF "calls" (.ref tc) [("text", .str X)]))
            generalize upd H3 x (.ins C dx (putF "calls" (.ref tc) [("text", .str X)])) = H4 at hx4 e4 ⊢
            refine ⟨_, _, rfl, _, rfl, x, C, dx, _, rfl, hx4, DC.cl, DC.na, by show 2 < 1000; decide, ?_⟩
            have hx5 : (upd H4 x (.ins C dx (putF "answers" (.ref ta) [("text", .str X), ("calls", .ref tc)]))) x = some (.ins C dx [("text", .str X), ("calls", .ref tc), ("answers", .ref ta)]) := by
              rw [upd_same, put_new (by intro p hp; simp at hp; rcases hp with rfl | rfl; exact ft2; exact ft3)]
              rfl
            have e5 := but_upd x H4 (.ins C dx (putF "answers" (.ref ta) [("text", .str X), ("calls", .ref tc)]))
            generalize upd H4 x (.ins C dx (putF "answers" (.ref ta) [("text", .str X), ("calls", .ref tc)])) = H5 at hx5 e5 ⊢
            refine ⟨_, _, rfl, _, rfl, x, C, dx, _, rfl, hx5, DC.cl, DC.ns, by show 3 < 1000; decide, ?_⟩
            have hx6 : (upd H5 x (.ins C dx (putF "marks" (.ref ts) [("text", .str X), ("calls", .ref tc), ("answers", .ref ta)]))) x = some (.ins C dx [("text", .str X), ("calls", .ref tc), ("answers", .ref ta), ("marks", .ref ts)]) := by
              rw [upd_same, put_new (by intro p hp; simp at hp; rcases hp with rfl | rfl | rfl; exact ft4; exact ft5; exact ft6)]
              rfl
            have e6 := but_upd x H5 (.ins C dx (putF "marks" (.ref ts) [("text", .str X), ("calls", .ref tc), ("answers", .ref ta)]))
            generalize upd H5 x (.ins C dx (putF "marks" (.ref ts) [("text", .str X), ("calls", .ref tc), ("answers", .ref ta)])) = H6 at hx6 e6 ⊢
            have e36 : But x H3 H6 := (e4.trans e5).trans e6
            have h1 := tup_but e36 hx3 h1
            have h2 := tup_but e36 hx3 h2
            have h3 := tup_but e36 hx3 h3
            have hl6 := lst_but e36 hx3 hl3
            have b6 := b3.trans e36
            have ph := ph (c := c) (a := a) (s := s) (g := []) e
            refine ⟨rfl, _, rfl, x, C, dx, _, _, rfl, hx6, DC.cl, DC.ns, rfl, _, ts, s, rfl, rfl, .inr h3, _, rfl, ?_⟩
            cases eb : s.contains BRK with
            | true =>
              rw [eb, if_pos rfl] at ph
              obtain ⟨hs0, hs3, hsT, _⟩ := HA.at
              refine iteT ⟨hA, _, rfl, .inr (hsT H6), fun d nd => ?_⟩
              have e3 : ((hs0.map V.ref).length : Int) = 3 := by
                rw [List.length_map, hs3]
                rfl
              rw [e3]
              have s7 := same_new nd (.xd (vf (.int 3)))
              refine qbad 3 ph d _ (b6.trans (But.of s7)) ?_ upd_same
              cases q : H d with
              | none => rfl
              | some o =>
                by_cases hb : d = x
                · rw [hb, hx6] at nd
                  cases nd
                · rw [b6 d o q hb] at nd
                  cases nd
            | false =>
            rw [eb, if_neg Bool.false_ne_true] at ph
            refine iteF ?_
            refine ⟨_, rfl, _, rfl, x, C, dx, _, _, rfl, hx6, DC.cl, DC.nc, rfl, _, rfl, x, C, dx, _, _, rfl, hx6, DC.cl, DC.na, rfl, _, rfl, x, C, dx, _, _, rfl, hx6, DC.cl, DC.ns, rfl, ?_⟩
            refine ⟨l, tc, ta, ts, lines, c, a, s, rfl, hl6, fun t ht => Nat.le_trans (lb1 t ht) hX, by omega, h1, h2, h3, by omega, by omega, fun g eg p7 H7 s7 np7 hg7 => ?_, fun n en d H7 s7 nd7 hd7 => ?_⟩
            · have hx7 := s7 _ _ hx6
              refine ⟨_, rfl, x, C, dx, _, rfl, hx7, DC.cl, DC.ng, by show 4 < 1000; decide, ?_⟩
              have e8 := but_upd x H7 (.ins C dx (putF "_goals" (.ref p7) [("text", .str X), ("calls", .ref tc), ("answers", .ref ta), ("marks", .ref ts)]))
              refine qok X ⟨c, a, s, g⟩ rfl (by rw [ph, eg]) _ ((b6.trans (But.of s7)).trans e8) ⟨dx, tc, ta, ts, p7, ?_, tup_but e8 hx7 (same_tup s7 h1), tup_but e8 hx7 (same_tup s7 h2), tup_but e8 hx7 (same_tup s7 h3), ?_⟩
              · rw [upd_same, put_new (by intro p hp; simp at hp; rcases hp with rfl | rfl | rfl | rfl; exact ft7; exact ft8; exact ft9; exact ft0)]
                rfl
              · exact goals_but e8 hx7 hg7
            · refine qbad n ?_ d H7 (b6.trans (But.of s7)) ?_ hd7
              · show parse X = _
                rw [ph, en]
              · have n6 := nd7
                cases q : H d with
                | none => rfl
                | some o =>
                  by_cases hb : d = x
                  · rw [hb, hx6] at n6
                    cases n6
                  · rw [b6 d o q hb] at n6
                    cases n6
    · refine ⟨_, rfl, _, _, rfl, rfl, _, rfl, ?_⟩
      rw [e]
      have gt : decide ((((r, n + 1) : List (List Str) × Nat).2 : Int) > 0) = true := decide_eq_true (by show ((n + 1 : Nat) : Int) > 0; omega)
      refine iteC gt ⟨_, rfl, fun d nd => ?_⟩
      have s3 := same_new nd (.xd (vf (.int ((n + 1 : Nat) : Int))))
      refine qbad (n + 1) (pb e) d _ (bx (s12.trans s3)) (s12.free nd) ?_
      exact upd_same
  · refine ⟨_, rfl, v, .ty "str", tv, .type "str", false, rfl, .ty _, ty, k, _, rfl, iteT (fun d nd => ?_)⟩
    have s3 := same_new nd (.xd (vf (.int 0)))
    refine qbad 0 ?_ d _ (bx s3) nd upd_same
    cases v with
    | str X => exact absurd rfl (no X)
    | _ => rfl
end
end K56
set_option Elab.async false
set_option linter.all false
set_option maxRecDepth 100000
set_option maxHeartbeats 8000000
namespace LG
open PySem L2
end LG
namespace K56
open PySem L2 LG
section
variable {P : Program} {w : World} {K : PySem.W.Frag} {mg : Str → Option Value} {base : Heap} {fI C : Addr}
def spHas (K : PySem.W.Frag) (C : Addr) : Sp := fun vs H Q _ => ∃ (x : Addr) (v : V) (T : Str) (D : Wat), vs = [.ref x, v] ∧ DevAt K H x C T D ∧ StrOr K H v ∧ Q (.bl (amongB v D.marks)) H
theorem scHas : FnScope ["self", "value"] ["self", "value"] (defScope sDContains) := ⟨rfl, rfl, rfl, by decide +kernel, rfl, by decide +kernel, by decide +kernel⟩
theorem ok_has {f g : Addr} {fd gd : FuncData} (F : Fun K "__contains__" "Watch.__contains__" sDContains f fd) (DC : DevCl K mg C) (G : FnOk P w K mg base CX0 1 g gd ["value", "names"] (spAmong K)) (mG : mg "is_among" = some (.ref g)) (kG : PySem.W.keepIn K (.ref g) = true) (bG : Binds K gd ["value", "names"] []) :
    FnOk P w K mg base CX0 2 f fd ["self", "value"] (spHas K C) := by
  refine F.ok scHas (fun vs H Q E h => ?_) (fun cdv A outer s H vs Q E hr h => ?_)
  · obtain ⟨x, v, T, D, rfl, _⟩ := h
    rfl
  obtain ⟨x, v, T, D, rfl, ⟨dx, c, a, st, g0, hx, hc, ha, hs, hg⟩, ty, q⟩ := h
  refine ⟨_, pss_one (ps_ret (pe_call G hr rfl mG kG bG .nil pass0 (pa_cons (pv 1) (pa_cons (pe_fld (pv 0) rfl) pa_nil)))), ?_⟩
  exact ⟨_, rfl, _, rfl, x, C, dx, _, _, rfl, hx, DC.cl, DC.ns, rfl, v, st, _, rfl, ty, .inr hs, q⟩
def spLen (K : PySem.W.Frag) (C : Addr) : Sp := fun vs H Q _ => ∃ (x : Addr) (T : Str) (D : Wat), vs = [.ref x] ∧ DevAt K H x C T D ∧ Q (.int D.marks.length) H
theorem scLen : FnScope ["self"] ["self"] (defScope sDLen) := ⟨rfl, rfl, rfl, by decide +kernel, rfl, by decide +kernel, by decide +kernel⟩
theorem ok_len {f : Addr} {fd : FuncData} (F : Fun K "__len__" "Watch.__len__" sDLen f fd) (T : Bltn mg) (DC : DevCl K mg C) : FnOk P w K mg base CX0 1 f fd ["self"] (spLen K C) := by
  refine F.ok scLen (fun vs H Q E h => ?_) (fun cdv A outer s H vs Q E hr h => ?_)
  · obtain ⟨x, T, D, rfl, _⟩ := h
    rfl
  obtain ⟨x, T', D, rfl, ⟨dx, c, a, st, g0, hx, hc, ha, hs, hg⟩, q⟩ := h
  refine ⟨_, pss_one (ps_ret (pe_callB call_len_seq rfl T.len PySem.boot_len (pa_cons (pe_fld (pv 0) rfl) pa_nil))), ?_⟩
  refine ⟨_, rfl, x, C, dx, _, _, rfl, hx, DC.cl, DC.ns, rfl, st, _, rfl, .inr hs, ?_⟩
  rw [List.length_map]
  exact q
/-- what isinstance asks of the class -/
structure DevIs (K : PySem.W.Frag) (C : Addr) : Prop where
  ca : PySem.W.findIn K (.ref C) "__class__" = some (some (.builtin "object.__class__"))
  cn : PySem.W.specialIn K (.builtin "object.__class__") "__get__" = some (some (.builtin "getset_descriptor.__get__"))
  ct : PySem.W.takesIn K (.builtin "object.__class__") = some true
  cm : PySem.W.mroIn K C (.type "object") = some true
theorem dev_ty {H : Hp} {x : Addr} {T : Str} {D : Wat} (DC : DevCl K mg C) (S : DevIs K C) (h : DevAt K H x C T D) : TyX K H (.ref x) (.ref C) := by
  obtain ⟨dx, c, a, st, g0, hx, _⟩ := h
  exact .base (.ins hx DC.cl S.ca S.cn S.ct S.cm)
def spDEq (K : PySem.W.Frag) (C : Addr) : Sp := fun vs H Q _ => ∃ (x : Addr) (y : V) (T : Str) (D : Wat), vs = [.ref x, y] ∧ DevAt K H x C T D ∧
  ((∃ (x2 : Addr) (T2 : Str) (D2 : Wat), y = .ref x2 ∧ DevAt K H x2 C T2 D2 ∧ Q (.bl (decide (T = T2))) H) ∨ ∃ t, TyX K H y t ∧ PySem.W.kitOne K t (.ref C) = some false ∧ Q (.bl false) H)
theorem scDEq : FnScope ["self", "other"] ["self", "other"] (defScope sDEq) := ⟨rfl, rfl, rfl, by decide +kernel, rfl, by decide +kernel, by decide +kernel⟩
theorem ok_eq {f : Addr} {fd : FuncData} (F : Fun K "__eq__" "Watch.__eq__" sDEq f fd) (T : Bltn mg) (DC : DevCl K mg C) (S : DevIs K C) : FnOk P w K mg base CX0 1 f fd ["self", "other"] (spDEq K C) := by
  refine F.ok scDEq (fun vs H Q E h => ?_) (fun cdv A outer s H vs Q E hr h => ?_)
  · obtain ⟨x, y, T, D, rfl, _⟩ := h
    rfl
  obtain ⟨x, y, T', D, rfl, hD, q⟩ := h
  refine ⟨_, pss_one (ps_ret (pe_and (pe_callB call_isi rfl T.isinstance (by decide +kernel) (pa_cons (pv 1) (pa_cons (pe_glob (v := .ref C) rfl DC.mg rfl) pa_nil))) (pe_one (pe_cmpR op_eq (pe_fld (pv 0) rfl) (pe_fld (pv 1) rfl) (nomark _))))), ?_⟩
  rcases q with ⟨x2, T2, D2, rfl, hD2, q⟩ | ⟨t, ty, k, q⟩
  · have ty2 := dev_ty DC S hD2
    obtain ⟨dx, c, a, st, g0, hx, _⟩ := hD
    obtain ⟨dx2, c2, a2, st2, g2, hx2, _⟩ := hD2
    refine ⟨_, rfl, .ref x2, .ref C, .ref C, .ref C, true, rfl, .own C, ty2, if_pos (beq_self_eq_true _), _, rfl, iteT ⟨_, rfl, x, C, dx, _, _, rfl, hx, DC.cl, DC.nt, rfl, _, rfl, x2, C, dx2, _, _, rfl, hx2, DC.cl, DC.nt, rfl, rfl, ?_⟩⟩
    have e : decide (V.str T' = V.str T2) = decide (T' = T2) := by
      by_cases h : T' = T2
      · simp [h]
      · simp [h]
    rw [e]
    exact q
  · exact ⟨_, rfl, y, .ref C, t, .ref C, false, rfl, .own C, ty, k, _, rfl, iteF q⟩
end
end K56
set_option Elab.async false
set_option linter.all false
set_option maxRecDepth 100000
set_option maxHeartbeats 2000000
/-! A lambda handed to a def that catches, what is raised wished for at the slots of that def. -/
namespace LG
open PySem PySem.Spec PyProof.Rows L2 LamX
section
variable {X : Cx} {pins : List (Addr × Obj)} {σ : L2.St} {H HZ : Hp} {s s1 : Shared}
theorem pe_act2 {Eg : XK} {Ng : List Str} {qg : Str} {sg : Scope} {g f c' : Addr} {cdg pm ctv : Value} {params : Arguments} {body : Expr} {scope : Scope} {k i : Nat} {a : Str} {pn : List (Addr × Obj)} {xe : Value → Shared → Prop} {W : WX} {tb : XK → TE} {p1 p2 : Pos}
    (I : Inv X pins σ H s) (L : LamS X.env.scope scope) (hf : s.heap.get? f = some (PySem.W.kla_obj "<lambda>" (X.env.qual ++ "<lambda>") params body scope (cloFrom X.env.cells scope.names []) pm c' ctv)) (hfn : H f = none) (hfr : f ∉ frs X.stack)
    (hbind : bindArgs (PySem.W.kla_fn "<lambda>" (X.env.qual ++ "<lambda>") params body scope (cloFrom X.env.cells scope.names []) pm (.ref c') ctv) ⟨[], []⟩ = pure [])
    (tk : Takes ((cxOf CX0 X.prog X.w X.K X.mg X.base Ng qg sg g cdg X.A X.stack s H Eg).tr pn xe) W) (hr : Room (k + 1) (X.A.deeper (envOfC qg sg s.heap.objs.size g cdg)))
    (hbody : ∀ (A : Around) (outer : List Env) (s : Shared) (H : Hp) (E : XK), Room k (A.deeper (lamEnv X scope s.heap.objs.size f c')) → PE (lamCx X A outer s H E scope f c') body (tb E))
    (hN : Ng[i]? = some a) (hv : Vis sg a) (hd : (a == ("__debug__" : Str)) = false := by decide) (hcd : (a == ("__classdict__" : Str)) = false := by decide) :
    PE ((cxOf CX0 X.prog X.w X.K X.mg X.base Ng qg sg g cdg X.A X.stack s H Eg).tr pn xe) (.Call (.Name a p1) [] [] p2)
      (fun σZ HZ Q => σZ[i]? = some (some (.ref f)) ∧ HZ c' = some (CodeO c' (X.env.qual ++ "<lambda>")) ∧ ∃ E : XK, (∀ cls d H', E cls d H' → W cls d σZ H') ∧ tb E σ HZ Q) := by
  refine ⟨fun pinsZ sZ σZ HZ Q IZ h => ?_⟩
  obtain ⟨slot, code, E, hW, ht⟩ := h
  refine wpAny_Call_Name_kw (thn ((pe_var (pos := p1) (i := i) hN hv hd hcd).run pinsZ sZ σZ HZ (fun v G => v = .ref f ∧ G = HZ) IZ ⟨.ref f, slot, rfl, rfl⟩) fun u z1 ⟨v, G, I1, r1, q1⟩ => ?_)
  obtain ⟨ev, eH⟩ := q1
  subst ev
  rw [eH] at I1
  have eu : u = Value.ref f := r1
  subst eu
  have fn1 : z1.heap.get? f = some (PySem.W.kla_obj "<lambda>" (X.env.qual ++ "<lambda>") params body scope (cloFrom X.env.cells scope.names []) pm c' ctv) := I1.base.keep f _ hf hfn hfr (fun z => nomatch (show f ∈ ([] : List Addr) from z))
  refine PySem.W.callWith_F0 ⟨_, _, _, _, fn1⟩ ?_
  have un : Un (frs X.stack) [] H HZ s.heap z1.heap := I1.base
  obtain ⟨⟨oc, vs, t, hoc, hdc, hvc⟩, _, _⟩ := I1.hok c' _ code
  have rc : codeAny (model X.prog X.w) (X.A.deeper (envOfC qg sg s.heap.objs.size g cdg)) (.call (.ref f) ⟨[], []⟩) (CR (L2.CX X.prog X.w) (envOfC qg sg s.heap.objs.size g cdg :: X.stack) X.prog X.w HZ z1 Q E) z1 := by
    refine PySem.W.kla_callFunE hr.depth fn1 rfl L.co L.gen rfl ⟨c', oc, vs, t, rfl, hoc, hdc, hvc⟩ ?_
    rw [hbind]
    refine wpAny_pure (wpAny_newFunctionEnv (fun y hy => (L.own y hy).2) (fun y hy => absurd hy (by simp)) (fun g1 hns hsb => ⟨I1.nolimit.fresh _ hsb, ?_⟩) L.kind)
    show codeAny _ _ (.expr body (lamEnv X scope z1.heap.objs.size f c')) _ _
    have kp : ∀ b o, z1.heap.get? b = some o → g1.get? b = some o := fun b o e => hsb.extBut b o (Nat.ne_of_lt (Heap.lt_size e)) (Heap.get?_push_of_some _ e)
    have J : Inv (lamCx X (X.A.deeper (envOfC qg sg s.heap.objs.size g cdg)) (envOfC qg sg s.heap.objs.size g cdg :: X.stack) z1 HZ E scope f c') [] σ HZ { z1 with heap := g1, toks := z1.toks + ([] : List (Str × Value)).length } :=
      lam_start2 I L I1.env0 hr.hd un hns kp
    refine PySem.W.kla_codeExpr (wpAny_mono ((hbody _ _ z1 HZ E (hr.deeper _)).run [] _ _ HZ Q J ht) (fun v z' hq => ?_) fun _ _ hq => hq)
    obtain ⟨w', H', J', rv, q⟩ := hq
    exact ⟨w', H', J'.os, J'.bare, J'.base, J'.hok, rv, q⟩
  refine wpAny_call (codeAny_mono rc fun r z' hq => ?_)
  match r, hq with
  | .error e, hq => exact tk e z' (XE.of_call I1 (fun cls d H' q => hW cls d H' q) hq)
  | .ok (.ret u), hq => exact I1.after hq
  | .ok .next, hq => exact hq.elim
  | .ok .brk, hq => exact hq.elim
  | .ok .cont, hq => exact hq.elim
/-- the def that calls what it got -/
def Gives2 (X : Cx) (Ng : List Str) (x : Str) (sg : Scope) (g : Addr) (cdg : Value) (bg : List Stmt) (a : Str) (q : Str) (TT : (XK → Hp → VK → Prop) → Hp → VK → Prop) : Prop :=
  ∀ (f c' : Addr) (s : Shared) (H : Hp) (Q : VK) (tl : XK → Hp → VK → Prop),
    (∀ (W : WX) (pn : List (Addr × Obj)) (xe : Value → Shared → Prop) (p1 p2 : Pos), Takes ((cxOf CX0 X.prog X.w X.K X.mg X.base Ng x sg g cdg X.A X.stack s H E0).tr pn xe) W →
      PE ((cxOf CX0 X.prog X.w X.K X.mg X.base Ng x sg g cdg X.A X.stack s H E0).tr pn xe) (.Call (.Name a p1) [] [] p2) (fun σZ HZ Q => σZ[0]? = some (some (.ref f)) ∧ HZ c' = some (CodeO c' q) ∧ ∃ E : XK, (∀ cls d H', E cls d H' → W cls d σZ H') ∧ tl E HZ Q)) →
    H c' = some (CodeO c' q) → TT tl H Q →
    ∃ t, PSs (cxOf CX0 X.prog X.w X.K X.mg X.base Ng x sg g cdg X.A X.stack s H E0).nox bg t ∧ t { nx := fun _ H' => Q .non H', rt := Q } (L2.start Ng [.ref f]) H
theorem pe_lam2 {T : List (Addr × Str)} {TT : (XK → Hp → VK → Prop) → Hp → VK → Prop} {x a : Str} {g c P : Addr} {k : Nat} {pg : Arguments} {bg : List Stmt} {sg : Scope} {dV kV doc pm cdv ct oc : Value} {an od : Option Addr} {osl : Array (Option Value)} {Ng : List Str}
    {params : Arguments} {body : Expr} {scope : Scope} {t : XK → TE} {p lpos pos : Pos} (hg : Gl X x) (hm : X.mg x = some (.ref g)) (hk : PySem.W.keepIn X.K (.ref g) = true)
    (lk : X.K.lookup g = some ⟨oc, od, .func (PySem.W.fnOf x x pg bg sg dV kV doc pm an cdv ct), osl⟩) (hcg : PySem.W.codeIn X.K cdv x = true) (hb : L2.Binds X.K (PySem.W.fnOf x x pg bg sg dV kV doc pm an cdv ct) [a] []) (Sg : FnScope Ng [a] sg) (hNg : Ng[0]? = some a) (hva : Vis sg a)
    (hG : Gives2 X Ng x sg g cdv bg a (X.env.qual ++ "<lambda>") TT)
    (TB : TabB X.base X.mg c P) (hcode : X.env.code = .ref c) (hmT : (P, X.env.qual ++ "<lambda>") ∈ T) (hu : ∀ p ∈ T, p.1 = P → p.2 = X.env.qual ++ "<lambda>") (hr : Room (k + 2) X.A) (L : LamS X.env.scope scope) (hdef : defaultsOf params X.env = ([], []))
    (hbind : ∀ (q : Str) (cl : List (Str × Addr)) (pm cv ctv : Value), bindArgs (PySem.W.kla_fn "<lambda>" q params body scope cl pm cv ctv) ⟨[], []⟩ = pure [])
    (hbody : ∀ (A : Around) (outer : List Env) (s : Shared) (H : Hp) (E : XK) (f c' : Addr), Room k (A.deeper (lamEnv X scope s.heap.objs.size f c')) → PE (lamCx X A outer s H E scope f c') body (t E))
    (hdb : (x == ("__debug__" : Str)) = false := by decide) (hd : (a == ("__debug__" : Str)) = false := by decide) (hcd : (a == ("__classdict__" : Str)) = false := by decide) :
    PE X (.Call (.Name x p) [.Lambda params body scope lpos] [] pos) (tLam T TT t) := by
  refine ⟨fun pins s σ H Q I h => ?_⟩
  obtain ⟨hT, h⟩ := h
  refine wpAny_Call_Name_kw (ld_glob I hg hm ?_ hdb)
  refine PySem.W.callWith_K (h₀ := X.base) I.ok.mod.kin hk ?_ (by rfl) (by rfl)
  show wpAny _ _ (spliced ((false, eval (.Lambda params body scope lpos) X.env) :: backTo pos (starEach [] X.env))) _ _ s
  refine Calls.spliced_cons (lam_make2 I TB hcode hmT hu hT hdef (L.has I.ok) fun f c' pm' ctv G z I1 eN T1 hf hfn hfr hco => Calls.spliced_nil ⟨I1.kIn, ?_⟩)
  have rc : codeAny (model X.prog X.w) X.A (.call (.ref g) ⟨[.ref f], []⟩) (CR CX0 X.stack X.prog X.w G z Q E0) z := by
    refine run_ofS (N := Ng) (ps := [a]) (us := [.ref f]) (vs := [.ref f]) lk hcg Sg hr I1.env0 (hb z [.ref f] I1.kIn rfl) (.cons rfl .nil) rfl fun hr' => ?_
    obtain ⟨t', ht', hq'⟩ := hG f c' z G Q (fun E H' Q' => t E σ H' Q') (fun W pn xe p1 p2 tk => pe_act2 (i := 0) I1 L hf hfn hfr (hbind _ _ _ _ _) tk hr' (fun A outer s H E hr2 => hbody A outer s H E f c' hr2) hNg hva hd hcd) hco (h G eN T1)
    exact ⟨t', ht'.nox, hq'⟩
  refine wpAny_call (codeAny_mono rc fun r z2 hq => ?_)
  match r, hq with
  | .error e, hq => exact (show False from hq).elim
  | .ok (.ret u), hq => exact I1.after hq
  | .ok .next, hq => exact hq.elim
  | .ok .brk, hq => exact hq.elim
  | .ok .cont, hq => exact hq.elim
end
end LG
set_option Elab.async false
set_option linter.all false
set_option maxRecDepth 100000
set_option maxHeartbeats 4000000
namespace LG
open PySem L2 LamX
/-- told: (the caught error, None) or (None, what came back) -/
def TTk (K : PySem.W.Frag) (B : Addr) : (XK → Hp → VK → Prop) → Hp → VK → Prop := fun tl H Q => ∀ (H1 : Hp) (E : XK) (R : VK), Same H H1 →
  (∀ cls d H', PySem.W.exmOne K cls (.ref B) = some true → (∀ a, H' a = none → ∀ p, upd H' a (exq a cls d) p = none → Q (.ref p) (upd (upd H' a (exq a cls d)) p (.tup [.ref a, .non]))) → E cls d H') →
  (∀ v H', (∀ p, H' p = none → Q (.ref p) (upd H' p (.tup [.non, v]))) → R v H') → tl E H1 R
end LG
namespace K56
open PySem L2 LG LamX
section
abbrev nT : List Str := ["_law_look", "_law_caught", "_law_back", "error"]
theorem scTold : FnScope nT ["_law_look"] (defScope sTold) := ⟨rfl, rfl, rfl, by decide +kernel, rfl, by decide +kernel, by decide +kernel⟩
theorem told_gives {X : Cx} {g B : Addr} {cdg : Value} {q : Str} (mB : X.mg "BoxError" = some (.ref B)) : Gives2 X nT "_law_heard_of" (defScope sTold) g cdg (defBody sTold) "_law_look" q (TTk X.K B) := by
  intro f c' s H Q tl act hc h
  refine ⟨_, pss_cons (ps_asg (pe_tup (pa_cons pe_non (pa_cons pe_non pa_nil))) (pg_tup rfl (pgs_cons (pg_name (i := 1) scTold.nd rfl (Or.inl rfl)) (pgs_cons (pg_name (i := 2) scTold.nd rfl (Or.inl rfl)) pgs_nil))))
    (pss_cons (ps_try_keep (i := 3) (X := (cxOf CX0 X.prog X.w X.K X.mg X.base nT "_law_heard_of" (defScope sTold) g cdg X.A X.stack s H E0).nox) (c := .ref B)
      (tb := fun W D σ G => ∃ Ech : XK, (∀ cls d H', Ech cls d H' → W cls d σ H') ∧ σ[0]? = some (some (.ref f)) ∧ G c' = some (CodeO c' q) ∧ tl Ech G (fun v H' => D.nx (σ.set 2 (some v)) H'))
      rfl rfl rfl scTold.nd rfl rfl ⟨rfl, by decide, .inl mB⟩ L2.takes0 (fun W pn xe tk _ => ?_) (fun a pn => pss_one (ps_set (i := 1) scTold.nd rfl (Or.inl rfl) (pv 3))))
    (pss_one (ps_ret (pe_tup (pa_cons (pv 1) (pa_cons (pv 2) pa_nil)))))), ?_⟩
  · refine ⟨fun pins s' σ G D I h' => ?_⟩
    obtain ⟨Ech, hW, h1, h2, h3⟩ := h'
    refine (pss_one (ps_set (i := 2) scTold.nd rfl (Or.inl rfl) (act W pn xe _ _ tk))).run pins s' σ G D I ?_
    exact ⟨h1, h2, Ech, hW, h3⟩
  · refine ⟨(by show 2 ≤ sizeLine; decide), fun t nt => ⟨t, _, rfl, .inl (.inl upd_same), rfl, _, _, rfl, _, _, rfl, rfl, ?_⟩⟩
    have s1 := same_new nt (.tup [V.non, V.non])
    refine ⟨fun cls d H' => PySem.W.exmOne X.K cls (.ref B) = some true ∧ ∀ a, H' a = none → ∀ p, upd H' a (exq a cls d) p = none → Q (.ref p) (upd (upd H' a (exq a cls d)) p (.tup [.ref a, .non])), ?_, rfl, s1 _ _ hc, h _ _ _ s1 (fun cls d H' e q => ⟨e, q⟩) fun v H' q => ?_⟩
    · rintro cls d H' ⟨e, q⟩
      exact ⟨true, e, fun _ a na => ⟨_, rfl, _, rfl, _, rfl, (by show 2 ≤ sizeLine; decide), fun p np => q a na p np⟩, fun z => nomatch z⟩
    · exact ⟨_, rfl, _, rfl, (by show 2 ≤ sizeLine; decide), fun p np => q p np⟩
end
end K56
set_option Elab.async false
set_option linter.all false
set_option maxRecDepth 100000
set_option maxHeartbeats 4000000
namespace LG
open PySem L2
theorem But.tup {K : PySem.W.Frag} {H H' : Hp} {p t b : _} {zs : List V} (e : But p H H') (hp : PotAt H p b) (h : SqT K H t zs) : SqT K H' t zs := by
  obtain ⟨own, sm, n, h1, _⟩ := hp
  rcases h with (q | ⟨o, q⟩) | q
  · exact .inl (.inl (e _ _ q (fun z => by rw [z, h1] at q; cases q)))
  · exact .inl (.inr ⟨o, e _ _ q (fun z => by rw [z, h1] at q; cases q)⟩)
  · exact .inr q
theorem But.put {p r : Addr} {H G : Hp} {o : HO} (e : But p H G) (nr : H r = none) : But p H (upd G r o) := fun c u h ne => by
  rw [upd_ne (ne_of_none h nr)]
  exact e c u h ne
theorem erase_perm : ∀ {zs : List V} {k : Nat} {y : V}, zs[k]? = some y → (y :: zs.eraseIdx k).Perm zs
  | [], k, y, h => by simp at h
  | z :: r, 0, y, h => by
    simp at h
    subst h
    exact List.Perm.refl _
  | z :: r, k + 1, y, h => by
    have ih := erase_perm (zs := r) (k := k) (y := y) (by simpa using h)
    exact (List.Perm.swap z y (r.eraseIdx k)).trans (ih.cons z)
theorem pick_perm {zs ys xs : List V} {k : Nat} {y : V} (h : (zs ++ ys).Perm xs) (hy : zs[k]? = some y) : (zs.eraseIdx k ++ (ys ++ [y])).Perm xs := by
  have h1 := erase_perm hy
  refine List.Perm.trans ?_ h
  have h2 : (zs.eraseIdx k ++ (ys ++ [y])).Perm ((y :: zs.eraseIdx k) ++ ys) := by
    rw [← List.append_assoc]
    refine (List.perm_append_singleton y (zs.eraseIdx k ++ ys)).trans ?_
    exact List.Perm.refl _
  exact h2.trans (h1.append_right ys)
/-- so many unlike places of a list -/
def spSome (K : PySem.W.Frag) : Sp := fun vs H Q _ => ∃ (p l : Addr) (m b : Nat) (xs : List V), vs = [.ref p, .ref l, .int m] ∧ PotAt H p b ∧ b + m ≤ 100000 ∧ SqL K H l xs ∧ l ≠ p ∧ m ≤ xs.length ∧ xs.length ≤ 1000 ∧
  ∀ (f : Addr) (ys : List V) (H' : Hp), But p H H' → PotAt H' p (b + m) → H f = none → f ≠ p → H' f = some (.lst ys) → ys.length = m → (∃ zs, (zs ++ ys).Perm xs) → Q (.ref f) H'
end LG
namespace K56
open PySem L2 LG
section
variable {P : Program} {w : World} {K : PySem.W.Frag} {mg : Str → Option Value} {base : Heap}
abbrev nS : List Str := ["_law_pot_here", "_law_pool", "_law_many", "_law_left", "_law_found", "_law_lap"]
theorem scSome : FnScope nS ["_law_pot_here", "_law_pool", "_law_many"] (defScope sSome) := ⟨rfl, rfl, rfl, by decide +kernel, rfl, by decide +kernel, by decide +kernel⟩
theorem ok_some {f g : Addr} {fd gd : FuncData} (F : Fun K "_law_some" "_law_some" sSome f fd) (T : Bltn mg) (G : FnOk P w K mg base CX0 1 g gd ["_law_pot_here", "_law_upto"] spTake) (mG : mg "_law_take" = some (.ref g)) (kG : PySem.W.keepIn K (.ref g) = true) (bG : Binds K gd ["_law_pot_here", "_law_upto"] []) :
    FnOk P w K mg base CX0 2 f fd ["_law_pot_here", "_law_pool", "_law_many"] (spSome K) := by
  refine F.ok scSome (fun vs H Q E h => ?_) (fun cdv A outer s H vs Q E hr h => ?_)
  · obtain ⟨p, l, m, b, xs, rfl, _⟩ := h
    rfl
  obtain ⟨p, l, m, b, xs, rfl, hp, hb, hl, ne, hm, hx, q⟩ := h
  refine ⟨_, pss_cons (ps_par (i := 3) (j := 4) rfl scSome.nd rfl rfl (by decide) rfl rfl (pa_cons (pe_callTy call_list_of rfl T.list (by decide +kernel) (pa_cons (pv 1) pa_nil)) (pa_cons (pe_lst pa_nil) pa_nil)) (by rfl))
    (pss_cons (ps_for PassesOwn.never rfl (pi_range1 rfl T.range (pa_cons (pv 2) pa_nil)) (pg_name (i := 5) scSome.nd rfl (Or.inl rfl))
      (pss_one (ps_expr (pe_bm PySem.F.plainAttrs_list PySem.F.slot_list_append PySem.F.type_list_append mt_append (pv 4) (pa_cons
        (pe_bm PySem.F.plainAttrs_list PySem.F.slot_list_pop PySem.F.type_list_pop mt_popAt (pv 3) (pa_cons (pe_call G hr rfl mG kG bG .nil pass0 (pa_cons (pv 0) (pa_cons (pe_callB call_len_seq rfl T.len PySem.boot_len (pa_cons (pv 3) pa_nil)) pa_nil))) pa_nil)) pa_nil)))))
    (pss_one (ps_ret (pv 4)))), ?_⟩
  refine ⟨_, rfl, l, xs, rfl, .inl hl, fun r nr => ?_⟩
  have s1 := same_new nr (.lst xs)
  have hr1 : (upd H r (.lst xs)) r = some (.lst xs) := upd_same
  show _
  generalize upd H r (.lst xs) = H1 at s1 hr1 ⊢
  refine ⟨(by show 0 ≤ sizeLine; decide), fun fo nf => ?_⟩
  have s2 := same_new nf (.lst [])
  have hf2 : (upd H1 fo (.lst [])) fo = some (.lst []) := upd_same
  have hr2 := s2 _ _ hr1
  show _
  generalize upd H1 fo (.lst []) = H2 at s2 hf2 hr2 ⊢
  have nf0 : H fo = none := s1.free nf
  have nrf : r ≠ fo := ne_of_none hr1 nf
  have npr : r ≠ p := fun z => hp.there (by rw [← z]; exact nr)
  have npf : fo ≠ p := fun z => hp.there (by rw [← z]; exact nf0)
  refine ⟨_, _, rfl, _, rfl, _, rfl, (by omega), (by omega), ?_⟩
  refine for_range (lo := 0) (n := ((m : Int)).toNat) (fun i σ Gi => ∃ x5 zs ys, σ = [some (.ref p), some (.ref l), some (.int m), some (.ref r), some (.ref fo), x5] ∧ But p H Gi ∧ PotAt Gi p (b + i) ∧ Gi r = some (.lst zs) ∧ Gi fo = some (.lst ys) ∧ (zs ++ ys).Perm xs ∧ ys.length = i)
    ⟨_, xs, [], rfl, But.of (s1.trans s2), hp.same (s1.trans s2), hr2, hf2, by rw [List.append_nil], rfl⟩ ?_ ?_
  · rintro i σ Gi hi ⟨x5, zs, ys, rfl, bG, pG, hrG, hfG, perm, ly⟩
    have hlen := perm.length_eq
    rw [List.length_append] at hlen
    have z0 : 0 < zs.length := by omega
    refine ⟨_, rfl, .inl ⟨rfl, _, SqL.of hfG⟩, _, rfl, .inl ⟨rfl, _, SqL.of hrG⟩, _, rfl, _, rfl, r, _, rfl, .inl (SqL.of hrG), p, _, b + i, rfl, pG, by omega, by omega, by omega, fun k G2 k0 k1 but2 pot2 => ?_⟩
    have hr3 := but2 _ _ hrG npr
    have hf3 := but2 _ _ hfG npf
    have kz : k.toNat < zs.length := by omega
    have bG2 := bG.trans but2
    refine ⟨r, zs, k, k.toNat, zs[k.toNat], rfl, rfl, hr3, by omega, by omega, ?_, List.getElem?_eq_getElem kz, ?_⟩
    · unfold seqIndex?
      show (if (0 ≤ (if k < 0 then k + (zs.length : Int) else k) && (if k < 0 then k + (zs.length : Int) else k) < (zs.length : Int)) = true then _ else _) = _
      rw [if_neg (by omega : ¬ k < 0), if_pos (by simp; omega)]
    · have hf4 : (upd G2 r (.lst (zs.eraseIdx k.toNat))) fo = some (.lst ys) := by
        rw [upd_ne (Ne.symm nrf)]
        exact hf3
      refine ⟨fo, ys, _, rfl, rfl, hf4, by rw [sizeLine_eq]; omega, _, zs.eraseIdx k.toNat, ys ++ [zs[k.toNat]], rfl, (bG2.put nr).put nf0, ?_, ?_, upd_same, pick_perm perm (List.getElem?_eq_getElem kz), by rw [List.length_append, ly]; rfl⟩
      · obtain ⟨own, sm, n, h1, h2⟩ := pot2
        exact ⟨own, sm, n, by rw [upd_ne (Ne.symm npf), upd_ne (Ne.symm npr)]; exact h1, h2⟩
      · rw [upd_ne nrf, upd_same]
  · rintro σ Gi ⟨x5, zs, ys, rfl, bG, pG, hrG, hfG, perm, ly⟩
    have em : ((m : Int)).toNat = m := Int.toNat_natCast m
    rw [em] at ly pG
    exact ⟨_, rfl, q fo ys Gi bG pG nf0 npf hfG ly ⟨zs, perm⟩⟩
end
end K56
set_option Elab.async false
set_option linter.all false
set_option maxRecDepth 100000
set_option maxHeartbeats 4000000
namespace LG
open PySem L2
/-! ### drawn devices -/
def prodK (S C : List Str) : List (Str × Str) := S.flatMap fun s => C.map fun c => (s, c)
structure Drawn (D : Dev) : Prop where
  cn : D.calls.Nodup
  an : D.answers.Nodup
  sn : D.states.Nodup
  c1 : 1 ≤ D.calls.length ∧ D.calls.length ≤ 3
  a1 : 2 ≤ D.answers.length ∧ D.answers.length ≤ 3
  s1 : 1 ≤ D.states.length ∧ D.states.length ≤ 4
  cw : ∀ x ∈ D.calls, isNameB x = true
  aw : ∀ x ∈ D.answers, isNameB x = true
  sw : ∀ x ∈ D.states, isNameB x = true
  keys : D.goals.map (·.1) = prodK D.states D.calls
  vals : ∀ e ∈ D.goals, e.2.1 ∈ D.answers ∧ e.2.2 ∈ D.states
structure OwnAt (K : PySem.W.Frag) (H : Hp) (o : Addr) (D : Dev) : Prop where
  ex : ∃ c a s r kvs, H o = some (.dK [(.inr ("calls" : Str), .ref c), (.inr ("answers" : Str), .ref a), (.inr ("states" : Str), .ref s), (.inr ("rows" : Str), .ref r)]) ∧ H c = some (.lst (D.calls.map V.str)) ∧ H a = some (.lst (D.answers.map V.str)) ∧ H s = some (.lst (D.states.map V.str)) ∧
    H r = some (.dT kvs) ∧ GR K H kvs D.goals
theorem OwnAt.same {K : PySem.W.Frag} {H H' : Hp} {o : Addr} {D : Dev} (e : Same H H') (h : OwnAt K H o D) : OwnAt K H' o D := by
  obtain ⟨c, a, s, r, kvs, h1, h2, h3, h4, h5, h6⟩ := h.ex
  exact ⟨c, a, s, r, kvs, e _ _ h1, e _ _ h2, e _ _ h3, e _ _ h4, e _ _ h5, h6.same e⟩
theorem str_inj : Function.Injective V.str := fun _ _ h => V.str.inj h
theorem nodup_map_str {ns : List Str} (h : ns.Nodup) : (ns.map V.str).Nodup := by
  unfold List.Nodup at h ⊢
  rw [List.pairwise_map]
  exact h.imp fun ne e => ne (V.str.inj e)
theorem nodup_of_map_str {ns : List Str} (h : (ns.map V.str).Nodup) : ns.Nodup := by
  unfold List.Nodup at h ⊢
  rw [List.pairwise_map] at h
  exact h.imp fun ne e => ne (by rw [e])
theorem some_txt {zs ys : List V} {pool : List Str} (h : (zs ++ ys).Perm (pool.map V.str)) (nd : pool.Nodup) : ∃ ns : List Str, ys = ns.map V.str ∧ ns.Nodup ∧ ∀ n ∈ ns, n ∈ pool := by
  have mem : ∀ y ∈ ys, ∃ n ∈ pool, y = V.str n := fun y hy => by
    have := h.mem_iff.mp (List.mem_append_right zs hy)
    obtain ⟨n, hn, e⟩ := List.mem_map.mp this
    exact ⟨n, hn, e.symm⟩
  have nds : (zs ++ ys).Nodup := (h.nodup_iff).mpr (nodup_map_str nd)
  have ndy : ys.Nodup := (List.nodup_append.mp nds).2.1
  have ex : ∀ (l : List V), (∀ y ∈ l, ∃ n ∈ pool, y = V.str n) → ∃ ns : List Str, l = ns.map V.str ∧ ∀ n ∈ ns, n ∈ pool := by
    intro l
    induction l with
    | nil => exact fun _ => ⟨[], rfl, fun _ h => nomatch h⟩
    | cons y r ih =>
      intro hm
      obtain ⟨n, hn, rfl⟩ := hm y List.mem_cons_self
      obtain ⟨ns, rfl, hns⟩ := ih fun z hz => hm z (List.mem_cons_of_mem _ hz)
      refine ⟨n :: ns, rfl, fun z hz => ?_⟩
      rcases List.mem_cons.mp hz with rfl | hz
      · exact hn
      · exact hns z hz
  obtain ⟨ns, rfl, hns⟩ := ex ys mem
  exact ⟨ns, rfl, nodup_of_map_str ndy, hns⟩
theorem lookup_none_of {g : Goals} {k : Str × Str} (h : k ∉ g.map (·.1)) : g.lookup k = none := by
  induction g with
  | nil => rfl
  | cons e r ih =>
    obtain ⟨k', x⟩ := e
    have ne : ¬ k = k' := fun z => h (by simp [z])
    have nb : (k == k') = false := by simpa using ne
    have l : List.lookup k ((k', x) :: r) = List.lookup k r := by simp [List.lookup, nb]
    rw [l]
    exact ih fun z => h (by simp at z ⊢; exact .inr z)
theorem prod_take {S C : List Str} {i : Nat} (h : i < S.length) : prodK (S.take (i + 1)) C = prodK (S.take i) C ++ C.map fun c => (S[i], c) := by
  unfold prodK
  rw [List.take_add_one, List.getElem?_eq_getElem h, List.flatMap_append]
  simp
theorem prod_mem {S C : List Str} {k : Str × Str} : k ∈ prodK S C ↔ k.1 ∈ S ∧ k.2 ∈ C := by
  unfold prodK
  rw [List.mem_flatMap]
  constructor
  · rintro ⟨s, hs, h⟩
    obtain ⟨c, hc, rfl⟩ := List.mem_map.mp h
    exact ⟨hs, hc⟩
  · rintro ⟨h1, h2⟩
    exact ⟨k.1, h1, List.mem_map.mpr ⟨k.2, h2, rfl⟩⟩
theorem prod_len {S C : List Str} : (prodK S C).length = S.length * C.length := by
  induction S with
  | nil => simp [prodK]
  | cons s r ih =>
    have e : prodK (s :: r) C = (C.map fun c => (s, c)) ++ prodK r C := rfl
    rw [e, List.length_append, List.length_map, ih, List.length_cons, Nat.succ_mul]
    omega
theorem prod_nodup {S C : List Str} (hS : S.Nodup) (hC : C.Nodup) : (prodK S C).Nodup := by
  induction S with
  | nil => simp [prodK]
  | cons s r ih =>
    have e : prodK (s :: r) C = (C.map fun c => (s, c)) ++ prodK r C := rfl
    rw [e, List.nodup_append]
    obtain ⟨h1, h2⟩ := List.nodup_cons.mp hS
    refine ⟨?_, ih h2, ?_⟩
    · unfold List.Nodup at hC ⊢
      rw [List.pairwise_map]
      exact hC.imp fun ne z => ne (Prod.mk.inj z).2
    · intro a ha b hb z
      obtain ⟨c, _, rfl⟩ := List.mem_map.mp ha
      rw [← z] at hb
      exact h1 (prod_mem.mp hb).1
/-- references to the tuples of keys -/
inductive KeyRefs (H : Hp) : List V → List (Str × Str) → Prop
  | nil : KeyRefs H [] []
  | cons {t : Addr} {k : Str × Str} {vs : List V} {ks : List (Str × Str)} : H t = some (.tup ((kT k).map kV)) → KeyRefs H vs ks → KeyRefs H (.ref t :: vs) (k :: ks)
theorem KeyRefs.same {H H' : Hp} {vs : List V} {ks : List (Str × Str)} (e : Same H H') (h : KeyRefs H vs ks) : KeyRefs H' vs ks := by
  induction h with
  | nil => exact .nil
  | cons a _ ih => exact .cons (e _ _ a) ih
theorem KeyRefs.len {H : Hp} {vs : List V} {ks : List (Str × Str)} (h : KeyRefs H vs ks) : vs.length = ks.length := by
  induction h with
  | nil => rfl
  | cons _ _ ih => rw [List.length_cons, List.length_cons, ih]
theorem KeyRefs.perm {H : Hp} {vs vs' : List V} (e : vs'.Perm vs) : ∀ {ks : List (Str × Str)}, KeyRefs H vs ks → ∃ ks' : List (Str × Str), ks'.Perm ks ∧ KeyRefs H vs' ks' := by
  induction e with
  | nil => exact fun h => ⟨_, List.Perm.refl _, h⟩
  | cons x _ ih =>
    intro ks h
    cases h with
    | cons a r =>
      obtain ⟨ks', p, q⟩ := ih r
      exact ⟨_, p.cons _, .cons a q⟩
  | swap x y l =>
    intro ks h
    cases h with
    | cons a r => cases r with
      | cons b r => exact ⟨_, List.Perm.swap _ _ _, .cons b (.cons a r)⟩
  | trans _ _ ih1 ih2 =>
    intro ks h
    obtain ⟨ks1, p1, q1⟩ := ih2 h
    obtain ⟨ks2, p2, q2⟩ := ih1 q1
    exact ⟨ks2, p2.trans p1, q2⟩
theorem KeyRefs.get {H : Hp} {vs : List V} {ks : List (Str × Str)} (h : KeyRefs H vs ks) : ∀ {i : Nat} {v : V}, vs[i]? = some v → ∃ t k, v = .ref t ∧ ks[i]? = some k ∧ H t = some (.tup ((kT k).map kV)) := by
  induction h with
  | nil => intro i v e; simp at e
  | cons a _ ih =>
    intro i v e
    cases i with
    | zero =>
      simp at e
      subst e
      exact ⟨_, _, rfl, rfl, a⟩
    | succ i =>
      obtain ⟨t, k, h1, h2, h3⟩ := ih (i := i) (v := v) (by simpa using e)
      exact ⟨t, k, h1, by simpa using h2, h3⟩
theorem KeyRefs.cut {H : Hp} {vs : List V} {ks : List (Str × Str)} (h : KeyRefs H vs ks) : ∀ k : Nat, KeyRefs H (vs.drop k) (ks.drop k) ∧ KeyRefs H (vs.take k) (ks.take k) := by
  induction h with
  | nil => intro k; simp; exact .nil
  | cons a r ih =>
    intro k
    cases k with
    | zero => exact ⟨.cons a r, .nil⟩
    | succ k => exact ⟨(ih k).1, .cons a (ih k).2⟩
theorem KeyRefs.app {H : Hp} {vs ws : List V} {ks ls : List (Str × Str)} (h : KeyRefs H vs ks) (r : KeyRefs H ws ls) : KeyRefs H (vs ++ ws) (ks ++ ls) := by
  induction h with
  | nil => exact r
  | cons a _ ih => exact .cons a ih
end LG
set_option Elab.async false
set_option linter.all false
set_option maxRecDepth 100000
set_option maxHeartbeats 8000000
namespace LG
open PySem L2
def IsSz (H : Hp) (v : V) : Prop := ∃ (t : Addr) (n1 n2 : Nat), v = .ref t ∧ H t = some (.tup [.int n1, .int n2]) ∧ 1 ≤ n1 ∧ n1 ≤ 3 ∧ 2 ≤ n2 ∧ n2 ≤ 3
theorem IsSz.same {H H' : Hp} {v : V} (e : Same H H') (h : IsSz H v) : IsSz H' v := by
  obtain ⟨t, n1, n2, h1, h2, h3⟩ := h
  exact ⟨t, n1, n2, h1, e _ _ h2, h3⟩
def tSz : TE := fun _ H Q => ∀ v H', Same H H' → IsSz H' v → Q v H'
def tSzs (m : Nat) : TA := fun _ H Q => ∀ vs H', Same H H' → vs.length = m → (∀ v ∈ vs, IsSz H' v) → Q vs H'
section
variable {X : Cx} {e : Expr} {es : List Expr} {m : Nat} {pos : Pos}
theorem sz_item {i j : Nat} {c1 c2 p1 p2 x1} (h : 1 ≤ i ∧ i ≤ 3 ∧ 2 ≤ j ∧ j ≤ 3 := by decide) : PE X (.Tuple [.Constant (.int (i : Int)) c1 p1, .Constant (.int (j : Int)) c2 p2] x1 pos) tSz :=
  pe_imp (pe_tup (pa_cons pe_int (pa_cons pe_int pa_nil (by rfl)) (by rfl))) fun _ H Q q => ⟨(by show 2 ≤ sizeLine; decide), fun t nt => q _ _ (same_new nt _) ⟨t, i, j, rfl, upd_same, h⟩⟩
theorem sz_nil : PA X [] (tSzs 0) := pa_imp pa_nil fun _ H Q q => q _ _ (Same.refl H) rfl (fun _ m => nomatch m)
theorem sz_cons (h : PE X e tSz) (r : PA X es (tSzs m)) (hs : starEach (e :: es) X.env = (false, eval e X.env) :: starEach es X.env := by rfl) : PA X (e :: es) (tSzs (m + 1)) :=
  pa_imp (pa_cons h r hs) fun _ H Q q x H1 s1 g1 xs H2 s2 l2 g2 => q _ _ (s1.trans s2) (by rw [List.length_cons, l2]) fun y hy => by
    rcases List.mem_cons.mp hy with rfl | hy
    · exact g1.same s2
    · exact g2 y hy
end
end LG
set_option Elab.async false
set_option linter.all false
set_option maxRecDepth 100000
set_option maxHeartbeats 8000000
namespace LG
open PySem L2
theorem GR.butp {K : PySem.W.Frag} {H H' : Hp} {p b : _} {kvs : List (List Key × V)} {g : Goals} (e : But p H H') (hp : PotAt H p b) (h : GR K H kvs g) : GR K H' kvs g := by
  induction h with
  | nil => exact .nil
  | cons a _ ih => exact .cons (e.tup hp a) ih
theorem tup_mk {K : PySem.W.Frag} {H : Hp} {p b t : _} {zs : List V} (hp : PotAt H p b) (h : SqT K H t zs) : SqT K (mk p H) t zs := by
  obtain ⟨own, sm, n, e1, _⟩ := hp
  rcases h with (q | ⟨ob, q⟩) | q
  · exact .inl (.inl (mk_of (fun z => by rw [z, e1] at q; cases q) q))
  · exact .inl (.inr ⟨ob, mk_of (fun z => by rw [z, e1] at q; cases q) q⟩)
  · exact .inr q
theorem GR.mk {K : PySem.W.Frag} {H : Hp} {p b : _} {kvs : List (List Key × V)} {g : Goals} (hp : PotAt H p b) (h : GR K H kvs g) : GR K (mk p H) kvs g := by
  induction h with
  | nil => exact .nil
  | cons a _ ih => exact .cons (tup_mk hp a) ih
def poolC : List Str := ["a", "b", "c", "pay", "test", "row", "calls", "x9", "zzzzzzzz", "p"]
def poolA : List Str := ["x", "y", "ok", "no", "a", "answers", "z0", "row"]
def poolS : List Str := ["p", "q", "s0", "s1", "s2", "states", "a", "zz"]
theorem poolC_nd : poolC.Nodup := by decide +kernel
theorem poolA_nd : poolA.Nodup := by decide +kernel
theorem poolS_nd : poolS.Nodup := by decide +kernel
theorem poolC_w : ∀ x ∈ poolC, isNameB x = true := by
  have h : poolC.all isNameB = true := by decide +kernel
  exact List.all_eq_true.mp h
theorem poolA_w : ∀ x ∈ poolA, isNameB x = true := by
  have h : poolA.all isNameB = true := by decide +kernel
  exact List.all_eq_true.mp h
theorem poolS_w : ∀ x ∈ poolS, isNameB x = true := by
  have h : poolS.all isNameB = true := by decide +kernel
  exact List.all_eq_true.mp h
end LG
namespace K56
open PySem L2 LG
section
variable {P : Program} {w : World} {K : PySem.W.Frag} {mg : Str → Option Value} {base : Heap}
def spAny (K : PySem.W.Frag) : Sp := fun vs H Q _ => ∃ (p z : Addr) (m n1 n2 b : Nat), vs = [.ref p, .int m, .ref z] ∧ PotAt H p b ∧ b ≤ 50000 ∧ 1 ≤ m ∧ m ≤ 4 ∧ mk p H z = some (.tup [.int n1, .int n2]) ∧ 1 ≤ n1 ∧ n1 ≤ 3 ∧ 2 ≤ n2 ∧ n2 ≤ 3 ∧
  ∀ (o : Addr) (D : Dev) (H' : Hp), But p H H' → PotAt H' p (b + 50) → Drawn D → D.states.length = m → OwnAt K (mk p H') o D → Q (.ref o) H'
abbrev nA : List Str := ["_law_pot_here", "_law_many", "_law_sizes", "_law_calls", "_law_answers", "_law_states", "_law_rows", "_law_state", "_law_call"]
theorem scAny : FnScope nA ["_law_pot_here", "_law_many", "_law_sizes"] (defScope sAny) := ⟨rfl, rfl, rfl, by decide +kernel, rfl, by decide +kernel, by decide +kernel⟩
theorem ok_any {f g1 g2 : Addr} {fd gd1 gd2 : FuncData} (F : Fun K "_law_any_device" "_law_any_device" sAny f fd)
    (GS : FnOk P w K mg base CX0 2 g1 gd1 ["_law_pot_here", "_law_pool", "_law_many"] (spSome K)) (mS : mg "_law_some" = some (.ref g1)) (kS : PySem.W.keepIn K (.ref g1) = true) (bS : Binds K gd1 ["_law_pot_here", "_law_pool", "_law_many"] [])
    (GO : FnOk P w K mg base CX0 2 g2 gd2 ["_law_pot_here", "_law_some_here"] (spOf K)) (mO : mg "_law_of" = some (.ref g2)) (kO : PySem.W.keepIn K (.ref g2) = true) (bO : Binds K gd2 ["_law_pot_here", "_law_some_here"] []) :
    FnOk P w K mg base CX0 3 f fd ["_law_pot_here", "_law_many", "_law_sizes"] (spAny K) := by
  refine F.ok scAny (fun vs H Q E h => ?_) (fun cdv A0 outer st H vs Q E hr h => ?_)
  · obtain ⟨p, z, m, n1, n2, b, rfl, _⟩ := h
    rfl
  obtain ⟨p, z, m, n1, n2, b, rfl, hp, hb, m1, m4, hz, a1, a3, c2, c3, q⟩ := h
  have hu := hu_of hr
  refine ⟨_, pss_cons (ps_set (i := 3) scAny.nd rfl (Or.inl rfl) (pe_call GS hr rfl mS kS bS .nil pass0 (pa_cons (pv 0) (pa_cons (pe_lst (pa_cons pe_str (pa_cons pe_str (pa_cons pe_str (pa_cons pe_str (pa_cons pe_str (pa_cons pe_str (pa_cons pe_str (pa_cons pe_str (pa_cons pe_str (pa_cons pe_str pa_nil))))))))))) (pa_cons (pe_ix ix_tup (pv 2) pe_int (fun _ _ => rfl)) pa_nil)))))
    (pss_cons (ps_set (i := 4) scAny.nd rfl (Or.inl rfl) (pe_call GS hr rfl mS kS bS .nil pass0 (pa_cons (pv 0) (pa_cons (pe_lst (pa_cons pe_str (pa_cons pe_str (pa_cons pe_str (pa_cons pe_str (pa_cons pe_str (pa_cons pe_str (pa_cons pe_str (pa_cons pe_str pa_nil))))))))) (pa_cons (pe_ix ix_tup (pv 2) pe_int (fun _ _ => rfl)) pa_nil)))))
    (pss_cons (ps_set (i := 5) scAny.nd rfl (Or.inl rfl) (pe_call GS hr rfl mS kS bS .nil pass0 (pa_cons (pv 0) (pa_cons (pe_lst (pa_cons pe_str (pa_cons pe_str (pa_cons pe_str (pa_cons pe_str (pa_cons pe_str (pa_cons pe_str (pa_cons pe_str (pa_cons pe_str pa_nil))))))))) (pa_cons (pv 1) pa_nil)))))
    (pss_cons (ps_set (i := 6) scAny.nd rfl (Or.inl rfl) pe_dnewT)
    (pss_cons (ps_for PassesOwn.never rfl (pi_list (pv 5)) (pg_name (i := 7) scAny.nd rfl (Or.inl rfl))
      (pss_one (ps_for PassesOwn.never rfl (pi_list (pv 3)) (pg_name (i := 8) scAny.nd rfl (Or.inl rfl))
        (pss_one (ps_dput hu (pv 6) (pe_tup (pa_cons (pv 7) (pa_cons (pv 8) pa_nil))) (pe_tup (pa_cons (pe_call GO hr rfl mO kO bO .nil pass0 (pa_cons (pv 0) (pa_cons (pv 4) pa_nil))) (pa_cons (pe_call GO hr rfl mO kO bO .nil pass0 (pa_cons (pv 0) (pa_cons (pv 5) pa_nil))) pa_nil))) rfl)))))
    (pss_one (ps_ret (pe_disp (pps_cons pe_str (pv 3) (pps_cons pe_str (pv 4) (pps_cons pe_str (pv 5) (pps_cons pe_str (pv 6) pps_nil)))) (by rfl) (by rfl) (fun z => by cases z) (by show 4 ≤ 15; decide)))))))), ?_⟩
  have lne : ∀ {G : Hp} {l : Addr} {b : Nat}, PotAt G p b → G l = none → l ≠ p := fun hp' nl z => hp'.there (by rw [← z]; exact nl)
  -- the calls
  refine ⟨_, rfl, (by show 10 ≤ sizeLine; decide), fun l1 nl1 => ?_⟩
  have s1 := same_new nl1 (.lst (poolC.map V.str))
  have hz0 : H z = some (.tup [.int n1, .int n2]) := (mk_some hz).2
  have hzp : z ≠ p := (mk_some hz).1
  refine ⟨_, rfl, z, _, 0, _, rfl, rfl, .inl (.inl (s1 _ _ hz0)), rfl, p, l1, n1, b, poolC.map V.str, rfl, hp.same s1, by omega, SqL.of upd_same, lne hp nl1, by show n1 ≤ 10; omega, by show 10 ≤ 1000; decide, fun f1 ys1 H1 but1 pot1 nf1 np1 hf1 ly1 pm1 => ?_⟩
  obtain ⟨zs1, pm1⟩ := pm1
  obtain ⟨C, rfl, ndC, memC⟩ := some_txt pm1 poolC_nd
  rw [List.length_map] at ly1
  have b1 : But p H H1 := (But.of s1).trans but1
  have hz1 := b1 _ _ hz0 hzp
  have nf1 : H f1 = none := s1.free nf1
  -- the answers
  refine ⟨_, rfl, (by show 8 ≤ sizeLine; decide), fun l2 nl2 => ?_⟩
  have s2 := same_new nl2 (.lst (poolA.map V.str))
  refine ⟨_, rfl, z, _, 1, _, rfl, rfl, .inl (.inl (s2 _ _ hz1)), rfl, p, l2, n2, _, poolA.map V.str, rfl, pot1.same s2, by omega, SqL.of upd_same, lne pot1 nl2, by show n2 ≤ 8; omega, by show 8 ≤ 1000; decide, fun f2 ys2 H2 but2 pot2 nf2 np2 hf2 ly2 pm2 => ?_⟩
  obtain ⟨zs2, pm2⟩ := pm2
  obtain ⟨A, rfl, ndA, memA⟩ := some_txt pm2 poolA_nd
  rw [List.length_map] at ly2
  have b12 : But p H1 H2 := (But.of s2).trans but2
  have b2 : But p H H2 := b1.trans b12
  have hf1 := b12 _ _ hf1 np1
  have nf2 : H1 f2 = none := s2.free nf2
  -- the states
  refine ⟨_, rfl, (by show 8 ≤ sizeLine; decide), fun l3 nl3 => ?_⟩
  have s3 := same_new nl3 (.lst (poolS.map V.str))
  refine ⟨_, rfl, p, l3, m, _, poolS.map V.str, rfl, pot2.same s3, by omega, SqL.of upd_same, lne pot2 nl3, by show m ≤ 8; omega, by show 8 ≤ 1000; decide, fun f3 ys3 H3 but3 pot3 nf3 np3 hf3 ly3 pm3 => ?_⟩
  obtain ⟨zs3, pm3⟩ := pm3
  obtain ⟨S, rfl, ndS, memS⟩ := some_txt pm3 poolS_nd
  rw [List.length_map] at ly3
  have b23 : But p H2 H3 := (But.of s3).trans but3
  have b3 : But p H H3 := b2.trans b23
  have hf1 := b23 _ _ hf1 np1
  have hf2 := b23 _ _ hf2 np2
  -- the rows
  intro r nr
  have s4 := same_new nr (.dT [])
  have hr4 : (upd H3 r (.dT [])) r = some (.dT []) := upd_same
  have npr := lne pot3 nr
  have nr0 : ∀ {c o}, H c = some o → c ≠ p → c ≠ r := fun e ne z => by
    have := b3 _ _ e ne
    rw [z, nr] at this
    cases this
  show _
  generalize upd H3 r (.dT []) = H4 at s4 hr4 ⊢
  have b4 : But p H H4 := b3.trans (But.of s4)
  have hf1 := s4 _ _ hf1
  have hf2 := s4 _ _ hf2
  have hf3 := s4 _ _ hf3
  have pot4 := pot3.same s4
  have nr1 : r ≠ f1 := ne_of hr4 hf1 (by intro z; cases z)
  have nr2 : r ≠ f2 := ne_of hr4 hf2 (by intro z; cases z)
  have nr3 : r ≠ f3 := ne_of hr4 hf3 (by intro z; cases z)
  generalize hB : b + n1 + n2 + m = B at pot4
  have hB2 : B ≤ b + 10 := by omega
  let J : Hp → Goals → Prop := fun G g => But p H G ∧ PotAt G p (B + 2 * g.length) ∧ G f1 = some (.lst (C.map V.str)) ∧ G f2 = some (.lst (A.map V.str)) ∧ G f3 = some (.lst (S.map V.str)) ∧ (∃ kvs, G r = some (.dT kvs) ∧ GR K G kvs g) ∧ ∀ e ∈ g, e.2.1 ∈ A ∧ e.2.2 ∈ S
  refine ⟨_, rfl, f3, rfl, ⟨_, SqL.of hf3⟩, ?_⟩
  refine for_list (xs := S.map V.str) (fun i σ G => ∃ x7 x8 g, σ = [some (.ref p), some (.int m), some (.ref z), some (.ref f1), some (.ref f2), some (.ref f3), some (.ref r), x7, x8] ∧ J G g ∧ g.map (·.1) = prodK (S.take i) C)
    ⟨_, _, [], rfl, ⟨b4, pot4, hf1, hf2, hf3, ⟨[], hr4, .nil⟩, fun _ h => nomatch h⟩, rfl⟩ ?_ ?_ ?_
  · rintro i σ G _ ⟨_, _, g, rfl, ⟨_, _, _, _, h, _⟩, _⟩
    exact SqL.of h
  · rintro i x σ G hx ⟨x7, x8, g, rfl, jG, kG⟩
    have hi : i < S.length := by
      have := (List.getElem?_eq_some_iff.mp hx).1
      simpa using this
    rw [List.getElem?_map, List.getElem?_eq_getElem hi] at hx
    have ex : x = .str S[i] := (Option.some.inj hx).symm
    subst ex
    obtain ⟨bG, pG, h1, h2, h3, hr5, vals⟩ := jG
    refine ⟨_, rfl, f1, rfl, ⟨_, SqL.of h1⟩, ?_⟩
    refine for_list (xs := C.map V.str) (fun j σ G => ∃ x8 g, σ = [some (.ref p), some (.int m), some (.ref z), some (.ref f1), some (.ref f2), some (.ref f3), some (.ref r), some (.str S[i]), x8] ∧ J G g ∧ g.map (·.1) = prodK (S.take i) C ++ (C.take j).map fun c => (S[i], c))
      ⟨_, g, rfl, ⟨bG, pG, h1, h2, h3, hr5, vals⟩, by simpa using kG⟩ ?_ ?_ ?_
    · rintro j σ G _ ⟨_, g, rfl, ⟨_, _, h, _, _, _⟩, _⟩
      exact SqL.of h
    · rintro j y σ G hy ⟨x8, g, rfl, ⟨bG, pG, h1, h2, h3, ⟨kvs, hrG, gr⟩, vals⟩, kG⟩
      have hj : j < C.length := by
        have := (List.getElem?_eq_some_iff.mp hy).1
        simpa using this
      rw [List.getElem?_map, List.getElem?_eq_getElem hj] at hy
      have ey : y = .str C[j] := (Option.some.inj hy).symm
      subst ey
      have glen : g.length ≤ 12 := by
        have e := congrArg List.length kG
        rw [List.length_map, List.length_append, prod_len, List.length_map, List.length_take, List.length_take] at e
        have i4 : min i S.length ≤ 3 := by omega
        have c4 : C.length ≤ 3 := by omega
        have := Nat.mul_le_mul i4 c4
        omega
      have fresh : g.lookup (S[i], C[j]) = none := by
        refine lookup_none_of ?_
        rw [kG, List.mem_append]
        rintro (h | h)
        · have := (prod_mem.mp h).1
          obtain ⟨k, hk, e⟩ := List.mem_take_iff_getElem.mp this
          have := (List.getElem_inj (List.nodup_iff_pairwise_ne.mp ndS |> fun _ => ndS)).mp e
          omega
        · obtain ⟨c, hc, e⟩ := List.mem_map.mp h
          have e2 := (Prod.mk.inj e).2
          rw [e2] at hc
          obtain ⟨k, hk, e3⟩ := List.mem_take_iff_getElem.mp hc
          have := (List.getElem_inj ndC).mp e3
          omega
      refine ⟨_, rfl, _, rfl, p, f2, A.map V.str, _, rfl, pG, by omega, SqL.of h2, by rw [List.length_map]; omega, by rw [List.length_map]; omega, np2, fun va G1 hva butA potA => ?_⟩
      obtain ⟨av, hav, rfl⟩ := List.mem_map.mp hva
      refine ⟨_, rfl, _, rfl, p, f3, S.map V.str, _, rfl, potA, by omega, SqL.of (butA _ _ h3 np3), by rw [List.length_map]; omega, by rw [List.length_map]; omega, np3, fun vb G2 hvb butB potB => ?_⟩
      obtain ⟨sv, hsv, rfl⟩ := List.mem_map.mp hvb
      have b02 := butA.trans butB
      refine ⟨(by show 2 ≤ sizeLine; decide), fun tv ntv => ?_⟩
      have s5 := same_new ntv (.tup [.str av, .str sv])
      have htv : (upd G2 tv (.tup [.str av, .str sv])) tv = some (.tup [.str av, .str sv]) := upd_same
      show _
      generalize upd G2 tv (.tup [.str av, .str sv]) = G3 at s5 htv ⊢
      refine ⟨_, rfl, _, rfl, _, rfl, (by show 2 ≤ sizeLine; decide), fun tk ntk => ?_⟩
      have s6 := same_new ntk (.tup [.str S[i], .str C[j]])
      have htk : (upd G3 tk (.tup [.str S[i], .str C[j]])) tk = some (.tup ((kT (S[i], C[j])).map kV)) := upd_same
      show _
      generalize upd G3 tk (.tup [.str S[i], .str C[j]]) = G4 at s6 htk ⊢
      have s56 := s5.trans s6
      have b04 : But p G G4 := b02.trans (But.of s56)
      have hr7 := b04 _ _ hrG npr
      have lk : valV kvs (kT (S[i], C[j])) = none := by
        rcases gr.val (S[i], C[j]) with ⟨_, l2⟩ | ⟨x, t, l1, _⟩
        · exact l2
        · rw [fresh] at l1
          cases l1
      have hlen := gr.len
      refine ⟨r, _, rfl, DPut.t hr7 htk (by rw [hlen, sizeLine_eq]; omega), ?_⟩
      rw [putK_new _ lk]
      have keep : ∀ {c o}, G4 c = some o → c ≠ r → (upd G4 r (.dT (kvs ++ [(kT (S[i], C[j]), V.ref tv)]))) c = some o := fun e ne => by rw [upd_ne ne]; exact e
      refine ⟨_, g ++ [((S[i], C[j]), (av, sv))], rfl, ⟨?_, ?_, keep (b04 _ _ h1 np1) (Ne.symm nr1), keep (b04 _ _ h2 np2) (Ne.symm nr2), keep (b04 _ _ h3 np3) (Ne.symm nr3), ⟨_, upd_same, ?_⟩, ?_⟩, ?_⟩
      · intro c o e ne
        exact keep ((bG.trans b04) c o e ne) (nr0 e ne)
      · obtain ⟨own, sm, n, e1, e2, e3, e4, e5, e6⟩ := potB.same s56
        exact ⟨own, sm, n, keep e1 (Ne.symm npr), e2, e3, e4, e5, by rw [List.length_append, List.length_singleton]; omega⟩
      · refine GR.upd hr7 (.snoc (GR.butp b04 pG gr) ?_)
        exact .inl (.inl (s6 _ _ htv))
      · intro e he
        rcases List.mem_append.mp he with he | he
        · exact vals e he
        · rw [List.mem_singleton.mp he]
          exact ⟨hav, hsv⟩
      · rw [List.map_append, kG, List.take_add_one, List.getElem?_eq_getElem hj, List.map_append, List.append_assoc]
        rfl
    · rintro σ G ⟨x8, g, rfl, jG, kG⟩
      refine ⟨_, _, g, rfl, jG, ?_⟩
      rw [kG, prod_take hi, List.length_map, List.take_length]
  · rintro σ G ⟨x7, x8, g, rfl, ⟨bG, pG, h1, h2, h3, ⟨kvs, hr5, gr⟩, vals⟩, kG⟩
    have em : mergeK [] [((.inr ("calls" : Str) : Key), V.ref f1), (.inr ("answers" : Str), .ref f2), (.inr ("states" : Str), .ref f3), (.inr ("rows" : Str), .ref r)] = [((.inr ("calls" : Str) : Key), V.ref f1), (.inr ("answers" : Str), .ref f2), (.inr ("states" : Str), .ref f3), (.inr ("rows" : Str), .ref r)] := by rfl
    intro o no
    refine ⟨_, rfl, _, rfl, _, rfl, _, rfl, upd_same, [((.inr ("calls" : Str) : Key), V.ref f1), (.inr ("answers" : Str), .ref f2), (.inr ("states" : Str), .ref f3), (.inr ("rows" : Str), .ref r)], rfl, (by show 4 ≤ 15; decide), ?_⟩
    rw [em, upd_upd]
    have s7 := same_new no (.dK [((.inr ("calls" : Str) : Key), V.ref f1), (.inr ("answers" : Str), .ref f2), (.inr ("states" : Str), .ref f3), (.inr ("rows" : Str), .ref r)])
    have ho : (upd G o (.dK [((.inr ("calls" : Str) : Key), V.ref f1), (.inr ("answers" : Str), .ref f2), (.inr ("states" : Str), .ref f3), (.inr ("rows" : Str), .ref r)])) o = some (.dK [((.inr ("calls" : Str) : Key), V.ref f1), (.inr ("answers" : Str), .ref f2), (.inr ("states" : Str), .ref f3), (.inr ("rows" : Str), .ref r)]) := upd_same
    generalize upd G o (.dK [((.inr ("calls" : Str) : Key), V.ref f1), (.inr ("answers" : Str), .ref f2), (.inr ("states" : Str), .ref f3), (.inr ("rows" : Str), .ref r)]) = G9 at s7 ho ⊢
    have npo := lne pG no
    rw [List.length_map, List.take_length] at kG
    have glen : g.length ≤ 12 := by
      have e := congrArg List.length kG
      rw [List.length_map, prod_len] at e
      have := Nat.mul_le_mul (by omega : S.length ≤ 4) (by omega : C.length ≤ 3)
      omega
    refine q o ⟨C, A, S, g⟩ G9 (bG.trans (But.of s7)) ((pG.same s7).mono (by omega)) ⟨ndC, ndA, ndS, ⟨by show 1 ≤ C.length; omega, by show C.length ≤ 3; omega⟩, ⟨by show 2 ≤ A.length; omega, by show A.length ≤ 3; omega⟩, ⟨by show 1 ≤ S.length; omega, by show S.length ≤ 4; omega⟩,
      fun x hx => poolC_w x (memC x hx), fun x hx => poolA_w x (memA x hx), fun x hx => poolS_w x (memS x hx), kG, vals⟩ (by show S.length = m; omega) ⟨⟨f1, f2, f3, r, kvs, mk_of npo ho, mk_of np1 (s7 _ _ h1), mk_of np2 (s7 _ _ h2), mk_of np3 (s7 _ _ h3), mk_of npr (s7 _ _ hr5), ?_⟩⟩
    exact (gr.same s7).mk (pG.same s7)
end
end K56
set_option Elab.async false
set_option linter.all false
set_option maxRecDepth 100000
set_option maxHeartbeats 8000000
namespace LG
open PySem L2
def rowX (D : Dev) (k : Str × Str) : Str × Str := (D.goals.lookup k).getD (Str.empty, Str.empty)
def rowOf (D : Dev) (k : Str × Str) : Str := Txt.join sp1 ["row", k.1, k.2, (rowX D k).1, (rowX D k).2]
def headsOf (D : Dev) : List Str := [("calls " : Str) ++ Txt.join sp1 D.calls, ("answers " : Str) ++ Txt.join sp1 D.answers, ("states " : Str) ++ Txt.join sp1 D.states]
def linesOf (D : Dev) (ks : List (Str × Str)) : List Str := headsOf D ++ ks.map (rowOf D)
def textOf (D : Dev) (ks : List (Str × Str)) : Str := Txt.join nl1 (linesOf D ks)
theorem name_len {x : Str} (h : isNameB x = true) : x.length ≤ 8 := by
  unfold isNameB at h
  simp only [Bool.and_eq_true, decide_eq_true_eq] at h
  exact h.1.1.2
theorem sum_le {ts : List Str} {k : Nat} (h : ∀ t ∈ ts, t.length ≤ k) : (ts.map (·.length)).sum ≤ ts.length * k := by
  induction ts with
  | nil => simp
  | cons x r ih =>
    have h1 := h x List.mem_cons_self
    have h2 := ih fun t ht => h t (List.mem_cons_of_mem _ ht)
    rw [List.map_cons, List.sum_cons, List.length_cons, Nat.succ_mul]
    omega
theorem join_le1 {y : Str} {ts : List Str} {k : Nat} (h1 : y.length = 1) (h : ∀ t ∈ ts, t.length ≤ k) : (Txt.join y ts).length ≤ ts.length * (k + 1) := by
  rw [TL.join_eq]
  cases ts with
  | nil => exact Nat.zero_le _
  | cons x r =>
    have e := join_size y (ts := x :: r) (by simp)
    rw [h1] at e
    have h2 : ((x :: r).map fun t => t.length + 1).sum ≤ (x :: r).length * (k + 1) := by
      clear e
      generalize x :: r = ts at h
      induction ts with
      | nil => simp
      | cons z q ih =>
        have b1 := h z List.mem_cons_self
        have b2 := ih fun t ht => h t (List.mem_cons_of_mem _ ht)
        rw [List.map_cons, List.sum_cons, List.length_cons, Nat.succ_mul]
        omega
    omega
theorem lookup_mem {g : Goals} {k x : Str × Str} (h : g.lookup k = some x) : (k, x) ∈ g := by
  induction g with
  | nil => cases h
  | cons e r ih =>
    obtain ⟨k', x'⟩ := e
    by_cases he : k = k'
    · subst he
      have : List.lookup k ((k, x') :: r) = some x' := by simp [List.lookup]
      rw [this] at h
      cases h
      exact List.mem_cons_self
    · have nb : (k == k') = false := by simpa using he
      have : List.lookup k ((k', x') :: r) = List.lookup k r := by simp [List.lookup, nb]
      rw [this] at h
      exact List.mem_cons_of_mem _ (ih h)
theorem lookup_some {g : Goals} {k : Str × Str} (h : k ∈ g.map (·.1)) : ∃ x, g.lookup k = some x := by
  cases e : g.lookup k with
  | some x => exact ⟨x, rfl⟩
  | none =>
    exfalso
    induction g with
    | nil => simp at h
    | cons p r ih =>
      obtain ⟨k', x'⟩ := p
      by_cases he : k = k'
      · subst he
        simp [List.lookup] at e
      · have nb : (k == k') = false := by simpa using he
        have l : List.lookup k ((k', x') :: r) = List.lookup k r := by simp [List.lookup, nb]
        rw [l] at e
        refine ih ?_ e
        simp at h
        rcases h with h | h
        · exact absurd h he
        · simpa using h
theorem Drawn.row {D : Dev} (d : Drawn D) {k : Str × Str} (h : k ∈ D.goals.map (·.1)) : D.goals.lookup k = some (rowX D k) ∧ k.1 ∈ D.states ∧ k.2 ∈ D.calls ∧ (rowX D k).1 ∈ D.answers ∧ (rowX D k).2 ∈ D.states := by
  obtain ⟨x, e⟩ := lookup_some h
  have ex : rowX D k = x := by
    unfold rowX
    rw [e]
    rfl
  have m := lookup_mem e
  rw [d.keys] at h
  have pm := prod_mem.mp h
  have v := d.vals _ m
  rw [ex]
  exact ⟨e, pm.1, pm.2, v.1, v.2⟩
theorem Drawn.row_len {D : Dev} (d : Drawn D) {k : Str × Str} (h : k ∈ D.goals.map (·.1)) : (rowOf D k).length ≤ 45 ∧ ∀ t ∈ (["row", k.1, k.2, (rowX D k).1, (rowX D k).2] : List Str), t.length ≤ 8 := by
  obtain ⟨_, h1, h2, h3, h4⟩ := d.row h
  have l : ∀ t ∈ (["row", k.1, k.2, (rowX D k).1, (rowX D k).2] : List Str), t.length ≤ 8 := by
    intro t ht
    simp only [List.mem_cons, List.not_mem_nil, or_false] at ht
    rcases ht with rfl | rfl | rfl | rfl | rfl
    · decide +kernel
    · exact name_len (d.sw _ h1)
    · exact name_len (d.cw _ h2)
    · exact name_len (d.aw _ h3)
    · exact name_len (d.sw _ h4)
  exact ⟨join_le1 sp1_1 l, l⟩
theorem Drawn.lens {D : Dev} (d : Drawn D) : (∀ t ∈ D.calls, t.length ≤ 8) ∧ (∀ t ∈ D.answers, t.length ≤ 8) ∧ (∀ t ∈ D.states, t.length ≤ 8) := ⟨fun t h => name_len (d.cw t h), fun t h => name_len (d.aw t h), fun t h => name_len (d.sw t h)⟩
theorem Drawn.heads_len {D : Dev} (d : Drawn D) : ∀ t ∈ headsOf D, t.length ≤ 45 := by
  obtain ⟨h1, h2, h3⟩ := d.lens
  have j1 := join_le1 sp1_1 h1
  have j2 := join_le1 sp1_1 h2
  have j3 := join_le1 sp1_1 h3
  have e1 : ("calls " : Str).length = 6 := by decide +kernel
  have e2 : ("answers " : Str).length = 8 := by decide +kernel
  have e3 : ("states " : Str).length = 7 := by decide +kernel
  have := d.c1
  have := d.a1
  have := d.s1
  intro t ht
  unfold headsOf at ht
  simp only [List.mem_cons, List.not_mem_nil, or_false] at ht
  rcases ht with rfl | rfl | rfl
  · rw [strLen_append]
    omega
  · rw [strLen_append]
    omega
  · rw [strLen_append]
    omega
theorem Drawn.lines_len {D : Dev} (d : Drawn D) {ks : List (Str × Str)} (h : ∀ k ∈ ks, k ∈ D.goals.map (·.1)) : ∀ t ∈ linesOf D ks, t.length ≤ 45 := by
  intro t ht
  rcases List.mem_append.mp ht with ht | ht
  · exact d.heads_len t ht
  · obtain ⟨k, hk, rfl⟩ := List.mem_map.mp ht
    exact (d.row_len (h k hk)).1
end LG
set_option Elab.async false
set_option linter.all false
set_option maxRecDepth 100000
set_option maxHeartbeats 8000000
namespace LG
open PySem L2
def rJoinK (K : PySem.W.Frag) : V → List V → Hp → VK → Prop := fun x xs H Q => ∃ (a : Str) (p : Addr) (ys : List Str), x = .str a ∧ xs = [.ref p] ∧ (SqL K H p (ys.map V.str) ∨ SqT K H p (ys.map V.str)) ∧ (ys.map (·.length)).sum + ys.length * a.length ≤ 16777216 ∧ Q (.str (Txt.join a ys)) H
theorem str_bits (ks : List (Str × Str)) (f : Str × Str → Str) : (List.range ks.length).map (fun i => V.str (f (ks.getD i (Str.empty, Str.empty)))) = (ks.map f).map V.str := by
  apply List.ext_getElem
  · simp
  · intro k h1 h2
    have hk : k < ks.length := by simpa using h1
    simp [List.getD, hk]
end LG
set_option Elab.async false
set_option linter.all false
set_option maxRecDepth 100000
set_option maxHeartbeats 8000000
namespace LG
open PySem L2
theorem refs_of {K : PySem.W.Frag} {H : Hp} : ∀ {kvs : List (List Key × V)} {g : Goals} {bs : List Addr}, GR K H kvs g → IsKeys H kvs bs → KeyRefs H (bs.map V.ref) (g.map (·.1))
  | _, _, _, .nil, .nil => .nil
  | _, _, _, .cons _ r, .cons h t => .cons h (refs_of r t)
theorem KeyRefs.butp {H H' : Hp} {p b : _} {vs : List V} {ks : List (Str × Str)} (e : But p H H') (hp : PotAt H p b) (h : KeyRefs H vs ks) : KeyRefs H' vs ks := by
  obtain ⟨own, sm, n, h1, _⟩ := hp
  induction h with
  | nil => exact .nil
  | cons a _ ih => exact .cons (e _ _ a (fun z => by rw [z, h1] at a; cases a)) ih
theorem KeyRefs.mk {H : Hp} {p b : _} {vs : List V} {ks : List (Str × Str)} (hp : PotAt H p b) (h : KeyRefs H vs ks) : KeyRefs (mk p H) vs ks := by
  obtain ⟨own, sm, n, h1, _⟩ := hp
  induction h with
  | nil => exact .nil
  | cons a _ ih => exact .cons (mk_of (fun z => by rw [z, h1] at a; cases a) a) ih
end LG
set_option Elab.async false
set_option linter.all false
set_option maxRecDepth 100000
set_option maxHeartbeats 4000000
namespace LG
open PySem L2
/-! ### the text of a drawn device is read as it was written -/
theorem name_signs {x : Str} (h : isNameB x = true) : ∀ c ∈ TL.tl x, (inL c || inF c) = true := by
  unfold isNameB at h
  rw [Bool.and_eq_true] at h
  exact List.all_eq_true.mp h.2
theorem sign32 : (inL 32 || inF 32) = false := by decide +kernel
theorem sign10 : (inL 10 || inF 10) = false := by decide +kernel
theorem no_sign {x : Str} (h : isNameB x = true) {c : Nat} (hc : (inL c || inF c) = false) : c ∉ TL.tl x := fun m => by
  rw [name_signs h c m] at hc
  cases hc
theorem join_mem {y : Str} : ∀ {ts : List Str} {c : Nat}, c ∈ TL.tl (Str.join y ts) → c ∈ TL.tl y ∨ ∃ t ∈ ts, c ∈ TL.tl t
  | [], c, h => by
    have : c ∈ TL.tl Str.empty := h
    simp [TL.tl, Str.empty] at this
  | [x], c, h => .inr ⟨x, List.mem_singleton.mpr rfl, h⟩
  | x :: z :: r, c, h => by
    have e : Str.join y (x :: z :: r) = x ++ y ++ Str.join y (z :: r) := rfl
    rw [e, TL.tl_append, TL.tl_append] at h
    rcases List.mem_append.mp h with h | h
    · rcases List.mem_append.mp h with h | h
      · exact .inr ⟨x, List.mem_cons_self, h⟩
      · exact .inl h
    · rcases join_mem h with h | ⟨t, ht, h⟩
      · exact .inl h
      · exact .inr ⟨t, List.mem_cons_of_mem _ ht, h⟩
theorem words_join {ts : List Str} (hne : ts ≠ []) (h : ∀ t ∈ ts, 32 ∉ TL.tl t) : Txt.split (Txt.join sp1 ts) sp1 = ts := TL.split_join (s := 32) (S := []) (by decide +kernel) sp1_k hne h
theorem lines_join {ts : List Str} (hne : ts ≠ []) (h : ∀ t ∈ ts, 10 ∉ TL.tl t) : Txt.split (Txt.join nl1 ts) nl1 = ts := TL.split_join (s := 10) (S := []) (by decide +kernel) nl1_k hne h
theorem no10_join {ts : List Str} (h : ∀ t ∈ ts, 10 ∉ TL.tl t) : 10 ∉ TL.tl (Txt.join sp1 ts) := fun m => by
  rw [TL.join_eq] at m
  rcases join_mem m with m | ⟨t, ht, m⟩
  · have : (10 : Nat) ∉ TL.tl sp1 := by decide +kernel
    exact this m
  · exact h t ht m
theorem head_line {w : Str} {ns : List Str} (hn : ns ≠ []) : (w ++ sp1) ++ Txt.join sp1 ns = Txt.join sp1 (w :: ns) := by
  rw [TL.join_eq, TL.join_eq]
  cases ns with
  | nil => exact absurd rfl hn
  | cons x r => rfl
theorem namesIn_of {w : Str} {ns : List Str} {a b : Int} (hw : (32 : Nat) ∉ TL.tl w) (hn : ∀ x ∈ ns, isNameB x = true) (nd : ns.Nodup) (ha : a ≤ (ns.length : Int)) (hb : (ns.length : Int) ≤ b) : LG.namesIn (Txt.join sp1 (w :: ns)) w a b = ns := by
  have e : Txt.split (Txt.join sp1 (w :: ns)) sp1 = w :: ns := words_join (by simp) fun t ht => by
    rcases List.mem_cons.mp ht with rfl | ht
    · exact hw
    · exact no_sign (hn t ht) sign32
  unfold LG.namesIn
  rw [e]
  show (if w ≠ w ∨ ¬ (a ≤ (ns.length : Int) ∧ (ns.length : Int) ≤ b) then _ else if (uniq ns).length < ns.length ∨ ¬ (ns.all isNameB = true) then _ else ns) = ns
  rw [if_neg, if_neg]
  · rintro (h | h)
    · have := (uniq_len ns).2.mpr nd
      omega
    · exact h (List.all_eq_true.mpr hn)
  · rintro (h | h)
    · exact h rfl
    · exact h ⟨ha, hb⟩
end LG
set_option Elab.async false
set_option linter.all false
set_option maxRecDepth 100000
set_option maxHeartbeats 2000000
/-! for k, v in d.items(), d a locked dict with tuple keys. -/
namespace LG
open PySem PySem.Spec PyProof.Rows L2
/-- the pairs of the locked dict at d -/
def Itit (d : Addr) (o : Obj) (kvs : List (List Key × V)) : It :=
  ⟨fun i H => H d = some (.frz o (.dT kvs)) ∧ i < kvs.length, fun i H x H' => ∃ (T q : Addr) (k : List Key) (v : V), kvs[i]? = some (k, v) ∧ H q = some (.tup (k.map kV)) ∧ x = .ref T ∧ H T = none ∧ H' = upd H T (.tup [.ref q, v]), fun i H => H d = some (.frz o (.dT kvs)) ∧ kvs.length ≤ i⟩
section
variable {X : Cx} {pins : List (Addr × Obj)} {σ : L2.St} {H : Hp} {s : Shared} {d : Addr} {o : Obj}
theorem frz_both {kvs : List (List Key × V)} (I : Inv X pins σ H s) (h : H d = some (.frz o (.dT kvs))) : (d == sysModules) = false ∧ ∃ (es : Array DictEntry) (ep : Nat), o.data = .dict es ep ∧ s.heap.DictRaw d es ep ∧ es.size = kvs.length ∧
    ∀ (i : Nat) (k : List Key) (v : V), kvs[i]? = some (k, v) → ∃ (en : DictEntry) (q : Addr), es[i]? = some en ∧ en.key = .ref q ∧ H q = some (.tup (k.map kV)) ∧ RelV v en.val := by
  obtain ⟨hd, z, hs, xs, pr, o', es, ep, ho, hx, hdt, he, _⟩ := I.hok d _ h
  rw [hd] at ho
  cases ho
  refine ⟨hs, es, ep, hdt, ⟨o, hd, hx, hdt⟩, ?_, fun i k v e => ?_⟩
  · have l1 : es.size = xs.length := size_of_entries he
    have l2 : kvs.length = xs.length := Paired.length pr
    omega
  · obtain ⟨b, hb, e1, e2, e3⟩ := paired_get pr e
    have q := entry_at he i
    rw [hb] at q
    exact ⟨_, b.2.1, q, rfl, e2, e3⟩
end
theorem turn_itemsT {P : Program} {w : World} {K : PySem.W.Frag} {d : Addr} {o : Obj} {es : Array DictEntry} {ep : Nat} {kvs : List (List Key × V)} {elts : List Expr} {kk : Nat} {tpos : Pos} (it : Addr) (hod : o.data = .dict es ep) :
    Turn P w K (.Tuple elts kk tpos) (Itit d o kvs) [it] it (fun i h => ∃ ok ov, IsItemIter h it d i es.size ep ok ov) where
  mem := by simp
  obj := fun i h st b hb => by
    have e : b = it := by simpa using hb
    subst e
    obtain ⟨ok, ov, e⟩ := st
    exact ⟨_, e, fun v z => nomatch z⟩
  keep := fun i h h' st k => by
    obtain ⟨ok, ov, e⟩ := st
    exact ⟨ok, ov, k it (by simp) _ e⟩
  item := by
    intro X hP hw hK hc i pins s σ H E I hf st hg
    subst hP hw hK
    obtain ⟨hd, hi⟩ := hg
    obtain ⟨hs, es', ep', hdt, raw, hsz, ent⟩ := frz_both I hd
    obtain ⟨rfl, rfl⟩ := dict_ep hod hdt
    obtain ⟨⟨k, v⟩, hkv⟩ : ∃ p, kvs[i]? = some p := ⟨kvs[i], List.getElem?_eq_getElem hi⟩
    obtain ⟨en, q, hen, hkey, hq, hv⟩ := ent i k v hkv
    have hlt' : i < es'.size := by omega
    have een : es'[i] = en := by
      rw [Array.getElem?_eq_getElem hlt'] at hen
      exact Option.some.inj hen
    obtain ⟨ok, ov, he⟩ := st
    have hlt : it < s.heap.objs.size := Heap.lt_size he
    refine wpAny_pyNext_items_item_raw he raw hlt' fun h' ho hT hz hk => ?_
    rw [een, hkey] at ho hT
    refine ⟨_, rfl, wpAny_letOwnedTupleGo_items (s := { s with heap := h' }) ho fun h'' he' sb => ?_⟩
    have hT2 : h''.get? s.heap.objs.size = some { cls := .type "tuple", data := .seq #[.ref q, en.val] } := (sb.2 _ (Nat.ne_of_gt hlt)).trans hT
    have new : ObjOk X.prog X.w (upd H s.heap.objs.size (.tup [.ref q, v])) h'' s.heap.objs.size (.tup [.ref q, v]) :=
      ⟨by show 2 ≤ sizeLine; decide, [.ref q, en.val], .cons rfl (.cons hv .nil), ⟨_, hT2, rfl, _, rfl⟩⟩
    have I1 : Inv X pins σ (upd H s.heap.objs.size (.tup [.ref q, v])) { s with heap := h'' } :=
      I.turnedNew (t' := s.toks) (ch := [it]) (fun b ob hb e => (sb.2 b (by simpa using hb)).trans (hk b ob (by simpa using hb) e)) hf (Nat.le_refl _) new
    refine ⟨.ref s.heap.objs.size, _, I1, rfl, ⟨_, q, k, v, hkv, hq, rfl, I.hok.fresh (Nat.le_refl _), rfl⟩, ⟨_, _, he'⟩, fun b hb => ?_⟩
    have e : b = it := by simpa using hb
    rw [e, upd_ne (Nat.ne_of_lt hlt)]
    exact (hf it (by simp)).1
  done := by
    intro X hP hw hK hc i pins s σ H E I hf st hg
    subst hP hw hK
    obtain ⟨hd, hi⟩ := hg
    obtain ⟨f0, f1, f2, f3, f4, f5⟩ := hf it (by simp)
    obtain ⟨hs, es', ep', hdt, raw, hsz, ent⟩ := frz_both I hd
    obtain ⟨rfl, rfl⟩ := dict_ep hod hdt
    obtain ⟨ok, ov, he⟩ := st
    exact wpAny_pyNext_items_end_raw (I.ok.hd hc) he raw (by omega) fun h' eb => ⟨rfl, I.turned (t' := s.toks) (fun b ob hb e => eb b ob hb e) f0 f1 f3 f4 f5⟩
  self := fun A i s Q E st h => by
    obtain ⟨_, _, e⟩ := st
    exact PySem.W.kcp_self e h
def iItemsT (td : TE) : TI := fun σ H R => td σ H fun x H1 => ∃ (d : Addr) (o : Obj) (kvs : List (List Key × V)), x = .ref d ∧ H1 d = some (.frz o (.dT kvs)) ∧ R (Itit d o kvs) H1
theorem pi_itemsT {X : Cx} {e : Expr} {td : TE} {elts : List Expr} {kk : Nat} {tpos apos cpos : Pos} (he : PE X e td) (hbase : attributeBase e "items" X.env (eval e X.env) = eval e X.env := by rfl) (hline : (apos.endLine == cpos.line) = true := by rfl) :
    PI X (.Tuple elts kk tpos) (.Call (.Attribute e "items" apos) [] [] cpos) (iItemsT td) := by
  refine ⟨fun pins s σ H R I h => ?_⟩
  refine wpAny_Call_method (T := "dict") (id := "dict.items") hbase rfl hline F.plainAttrs_dict F.slot_dict_items F.type_dict_items (thn (he.run pins s σ H _ I h) fun u s1 ⟨x, H1, I1, rx, d, o, kvs, ex, hd, q⟩ => ?_)
  subst ex
  have eu : u = Value.ref d := rx
  subst eu
  obtain ⟨hs, es, ep, hdt, raw, hsz, ent⟩ := frz_both I1 hd
  have noD : ∃ ob, s1.heap.get? d = some ob ∧ ob.ExactDict := by
    obtain ⟨ob, h1, h2, _⟩ := raw
    exact ⟨ob, h1, h2⟩
  obtain ⟨ob, hob, hex⟩ := noD
  refine ⟨⟨ob, hob, hex.1⟩, fun a ea => ⟨ob, by cases ea; exact hob, hex.2.1⟩, ?_⟩
  have I2 : Inv X pins σ H1 { s1 with heap := s1.heap.push { cls := .type "dict_items", data := .fields #[.ref d] } } := I1.kept (t' := s1.toks) fun b ob q => Heap.get?_push_of_some _ q
  have raw2 : (s1.heap.push { cls := .type "dict_items", data := .fields #[.ref d] }).DictRaw d es ep := by
    obtain ⟨ob, h1, h2⟩ := raw
    exact ⟨ob, Heap.get?_push_of_some _ h1, h2⟩
  have fin : wpAny (model X.prog X.w) X.A (pyIter (.ref s1.heap.objs.size)) (PIE X pins σ (.Tuple elts kk tpos) R) X.xe { s1 with heap := s1.heap.push { cls := .type "dict_items", data := .fields #[.ref d] } } :=
    wpAny_pyIter_items_raw (d := d) ⟨_, Heap.get?_push_size _ rfl, rfl, rfl⟩ raw2 (pi_one (tk := s1.toks) I2 _ (turn_itemsT _ hdt) ⟨.none, .none, Heap.get?_push_size _ rfl⟩ q)
  show wpAny _ _ (callWith cpos (.builtin "dict.items") [.ref d] [] []) _ X.xe s1
  exact method_meetsIn F.slot_dict_items F.entry_dict_items rfl (PySem.evalArgs_none ⟨rfl, ⟨ob, hob, hex.1⟩, F.args_dict_items_1 _, _, meets_dict_items_raw d hs, ⟨es, ep, raw⟩, fin⟩)
theorem walk_itemsT {d : Addr} {o : Obj} {kvs : List (List Key × V)} : Walk (Itit d o kvs) kvs.length (fun H => H d = some (.frz o (.dT kvs))) (fun i H x H' => ∃ (T q : Addr) (k : List Key) (v : V), kvs[i]? = some (k, v) ∧ H q = some (.tup (k.map kV)) ∧ x = .ref T ∧ H T = none ∧ H' = upd H T (.tup [.ref q, v])) :=
  ⟨fun _ _ hi q => ⟨q, hi⟩, fun _ q => ⟨q, Nat.le_refl _⟩, fun _ _ _ _ _ _ y => y⟩
end LG
set_option Elab.async false
set_option linter.all false
set_option maxRecDepth 100000
set_option maxHeartbeats 2000000
namespace LG
open PySem PySem.Spec PyProof.Rows L2 LamX
section
variable {P : Program} {w : World} {K : PySem.W.Frag} {mg : Str → Option Value} {base : Heap}
/-- a def's promise by its body, its code object known -/
theorem gn_ofL {x qual : Str} {st : Stmt} {f : Addr} {oc : Value} {od : Option Addr} {kV doc pm cv ct : Value} {an : Option Addr} {osl : Array (Option Value)} {N ps : List Str} {k : Nat} {sp : Sp}
    (lk : K.lookup f = some ⟨oc, od, .func (PySem.W.fnOf x qual (defArgs st) (defBody st) (defScope st) .none kV doc pm an cv ct), osl⟩) (hcd : PySem.W.codeIn K cv qual = true) (S : FnScope N ps (defScope st))
    (len : ∀ vs H Q E, sp vs H Q E → vs.length = ps.length)
    (body : ∀ (B : Around) (callers : List Env) (z : Shared) (H : Hp) (vs : List V) (Q : VK), B.guards = some [] → Room k (B.deeper (envOfC qual (defScope st) z.heap.objs.size f cv)) → sp vs H Q E0 →
      ∃ t, PSs (cxOf CX0 P w K mg base N qual (defScope st) f cv B callers z H E0).nox (defBody st) t ∧ t { nx := fun _ H' => Q .non H', rt := Q } (start N vs) H) :
    GnOk P w K mg base (k + 1) f (PySem.W.fnOf x qual (defArgs st) (defBody st) (defScope st) .none kV doc pm an cv ct) ps sp := by
  refine ⟨len, fun B callers z H args us vs Q hg hr e0 hb r hsp => ?_⟩
  have many := len _ _ _ _ hsp
  have inK : K.In z.heap := e0.mod.kin.keeps fun b o e => (e0.bs b o e).1
  have nolim : z.heap.NoLimit := e0.mod.nolimit.keeps fun b o e => (e0.bs b o e).1
  have kinds : ∀ y ∈ ps.zip us, (defScope st).names.lookup y.1 = some .local ∨ ((defScope st).names.lookup y.1 = some .cell ∧ ((cellsFrom (z.heap.objs.size + 1) (defScope st).names []).lookup y.1).isSome = true) := by
    rintro ⟨n, v⟩ hy
    cases S.par n (List.of_mem_zip hy).1 with
    | inl q => exact .inl q
    | inr q => exact .inr ⟨q, PySem.W.cellsFrom_some _ _ _ (.inl q)⟩
  refine codeAny_call_function hr.depth (inK _ _ lk) rfl S.co S.gen rfl (PySem.W.codeRec_of inK hcd) (hb _ _ _ _ ?_)
  refine wpAny_newFunctionEnv_cells S.kind kinds fun env he z1 entered => ?_
  subst he
  refine ⟨nolim.keeps entered.toInCall.keep, codeAny_func ?_⟩
  obtain ⟨t, ht, q0⟩ := body B callers z H vs Q hg (hr.deeper _) hsp
  have J := inv_start (CX := CX0) (E := E0) S hr.hd e0 many r entered
  refine wpAny_mono (ht.nox.run [] z1 (start N vs) H _ J q0) (fun fl z' ends => ?_) fun _ _ e => e
  cases fl with
  | ret u =>
    obtain ⟨v, σ', H', J', rv, q⟩ := ends
    exact ⟨v, H', J'.os, J'.bare, J'.base, J'.hok, rv, q⟩
  | next =>
    obtain ⟨σ', H', J', q⟩ := ends
    exact ⟨V.non, H', J'.os, J'.bare, J'.base, J'.hok, rfl, q⟩
  | brk =>
    obtain ⟨_, _, _, q⟩ := ends
    exact q.elim
  | cont =>
    obtain ⟨_, _, _, q⟩ := ends
    exact q.elim
/-- nothing is raised -/
theorem passF {X : Cx} : Passes (L2.CX X.prog X.w) X (fun _ _ _ => False) := fun _ _ _ _ _ _ _ c => by
  obtain ⟨_, _, _, _, _, _, _, _, _, _, _, _, z⟩ := c
  exact z.elim
/-- the tables are masked -/
def mt (H : Hp) : Hp := fun b => match H b with
  | some (.tbl _) => none
  | o => o
theorem mt_some {H : Hp} {b : Addr} {o : HO} (h : mt H b = some o) : H b = some o ∧ ∀ ps, o ≠ .tbl ps := by
  unfold mt at h
  cases e : H b with
  | none =>
    rw [e] at h
    cases h
  | some u =>
    rw [e] at h
    cases u with
    | tbl ps => cases h
    | _ => cases h; exact ⟨rfl, fun ps z => by cases z⟩
theorem mt_of {H : Hp} {b : Addr} {o : HO} (h : H b = some o) (n : ∀ ps, o ≠ .tbl ps) : mt H b = some o := by
  unfold mt
  rw [h]
  cases o with
  | tbl ps => exact absurd rfl (n ps)
  | _ => rfl
theorem mt_ext {H H' : Hp} (e : ExtN H H') : Same (mt H) (mt H') := fun b o h => by
  obtain ⟨h1, h2⟩ := mt_some h
  exact mt_of (e b o h1 h2) h2
theorem mt_up {H H' : Hp} (e : Same H H') : Same (mt H) (mt H') := mt_ext (ExtN.of e)
theorem mt_self (H : Hp) : Same (mt H) H := fun b o h => (mt_some h).1
theorem ext_of_mt {H H' : Hp} (e : Same (mt H) (mt H')) : ExtN H H' := fun b o h n => (mt_some (e b o (mt_of h n))).1
end
end LG
set_option Elab.async false
set_option linter.all false
set_option maxRecDepth 100000
set_option maxHeartbeats 4000000
namespace LG
open PySem L2
def tyNames : List String := ["NoneType", "bool", "int", "str", "list", "tuple", "dict"]
theorem Gx.ty {K : PySem.W.Frag} {n : Nat} {H : Hp} {v : V} (h : Gx K n H v) : (∃ x, v = .str x ∧ TyX K H v (.type "str")) ∨ ∃ T ∈ tyNames, T ≠ "str" ∧ TyX K H v (.type T) ∧ ∀ x, v ≠ .str x := by
  obtain ⟨d, h, _⟩ := h
  cases h with
  | flat h =>
    obtain ⟨T, ty, e⟩ := ty_of h
    cases h with
    | str x => exact .inl ⟨x, rfl, by subst e; exact ty⟩
    | non => exact .inr ⟨T, by subst e; simp [tyNames], by subst e; simp, ty, fun x z => nomatch z⟩
    | bl b => exact .inr ⟨T, by subst e; simp [tyNames], by subst e; simp, ty, fun x z => nomatch z⟩
    | int i => exact .inr ⟨T, by subst e; simp [tyNames], by subst e; simp, ty, fun x z => nomatch z⟩
    | lst _ _ => exact .inr ⟨T, by subst e; simp [tyNames], by subst e; simp, ty, fun x z => nomatch z⟩
    | tup _ _ => exact .inr ⟨T, by subst e; simp [tyNames], by subst e; simp, ty, fun x z => nomatch z⟩
  | dct h p => exact .inr ⟨"dict", by simp [tyNames], by simp, .base (.dK h), fun x z => nomatch z⟩
theorem kit_nostr {K : PySem.W.Frag} : ∀ T ∈ tyNames, T ≠ "str" → PySem.W.kitOne K (.type T) (.type "str") = some false := by
  intro T hT ne
  simp only [tyNames, List.mem_cons, List.not_mem_nil, or_false] at hT
  rcases hT with rfl | rfl | rfl | rfl | rfl | rfl | rfl
  · exact kit_ty (by decide +kernel)
  · exact kit_ty (by decide +kernel)
  · exact kit_ty (by decide +kernel)
  · exact absurd rfl ne
  · exact kit_ty (by decide +kernel)
  · exact kit_ty (by decide +kernel)
  · exact kit_ty (by decide +kernel)
theorem Gx.strOr {K : PySem.W.Frag} {n : Nat} {H : Hp} {v : V} (h : Gx K n H v) : StrOr K H v := by
  rcases h.ty with ⟨x, e, _⟩ | ⟨T, hT, ne, ty, no⟩
  · exact .inl ⟨x, e⟩
  · exact .inr ⟨_, ty, kit_nostr T hT ne, no⟩
end LG
set_option Elab.async false
set_option linter.all false
set_option maxRecDepth 100000
set_option maxHeartbeats 8000000
namespace LG
open PySem L2 LamX
/-! ### what stands where only tables change -/
theorem SqT.mt {K : PySem.W.Frag} {H : Hp} {t : Addr} {zs : List V} (h : SqT K H t zs) : SqT K (mt H) t zs := by
  rcases h with (q | ⟨o, q⟩) | q
  · exact .inl (.inl (mt_of q fun ps z => by cases z))
  · exact .inl (.inr ⟨o, mt_of q fun ps z => by cases z⟩)
  · exact .inr q
theorem SqL.mt {K : PySem.W.Frag} {H : Hp} {t : Addr} {zs : List V} (h : SqL K H t zs) : SqL K (mt H) t zs := by
  rcases h with (q | ⟨o, q⟩) | q
  · exact .inl (.inl (mt_of q fun ps z => by cases z))
  · exact .inl (.inr ⟨o, mt_of q fun ps z => by cases z⟩)
  · exact .inr q
mutual
theorem Dp_mt {K : PySem.W.Frag} {H : Hp} : ∀ (d : PyData) (v : V), Dp K H v d → Dp K (mt H) v d
  | .none, _, h => by cases h; exact .non
  | .bool b, _, h => by cases h; exact .bl b
  | .int i, _, h => by cases h; exact .int i
  | .str x, _, h => by cases h; exact .str x
  | .list ds, _, h => by
    cases h with
    | lst hs ha => exact .lst (SqL.mt hs) (DpAll_mt ds _ ha)
  | .tuple ds, _, h => by
    cases h with
    | tup hs ha => exact .tup (SqT.mt hs) (DpAll_mt ds _ ha)
  | .dict _, _, h => by cases h
theorem DpAll_mt {K : PySem.W.Frag} {H : Hp} : ∀ (ds : List PyData) (vs : List V), DpAll K H vs ds → DpAll K (mt H) vs ds
  | [], _, h => by cases h; exact .nil
  | d :: ds, _, h => by
    cases h with
    | cons h1 h2 => exact .cons (Dp_mt d _ h1) (DpAll_mt ds _ h2)
end
theorem Gx.mt {K : PySem.W.Frag} {n : Nat} {H : Hp} {v : V} (h : Gx K n H v) : Gx K n (mt H) v := by
  obtain ⟨d, h, hs⟩ := h
  refine ⟨d, ?_, hs⟩
  cases h with
  | flat h => exact .flat (Dp_mt _ _ h)
  | dct h p => exact .dct (mt_of h fun ps z => by cases z) p
theorem GR.mt {K : PySem.W.Frag} {H : Hp} {kvs : List (List Key × V)} {g : Goals} (h : GR K H kvs g) : GR K (mt H) kvs g := by
  induction h with
  | nil => exact .nil
  | cons a _ ih => exact .cons (SqT.mt a) ih
theorem DevAt.mt {K : PySem.W.Frag} {H : Hp} {x C : Addr} {T : Str} {D : Wat} (h : DevAt K H x C T D) : DevAt K (mt H) x C T D := by
  obtain ⟨dx, c, a, s, g, h1, h2, h3, h4, h5⟩ := h
  exact ⟨dx, c, a, s, g, mt_of h1 (fun ps z => by cases z), SqT.mt h2, SqT.mt h3, SqT.mt h4, h5.elim (fun q => .inl (mt_of q fun ps z => by cases z)) (fun ⟨o, q⟩ => .inr ⟨o, mt_of q fun ps z => by cases z⟩)⟩
theorem OwnAt.mt {K : PySem.W.Frag} {H : Hp} {o : Addr} {D : Dev} (h : OwnAt K H o D) : OwnAt K (mt H) o D := by
  obtain ⟨c, a, s, r, kvs, h1, h2, h3, h4, h5, h6⟩ := h.ex
  exact ⟨⟨c, a, s, r, kvs, mt_of h1 (fun ps z => by cases z), mt_of h2 (fun ps z => by cases z), mt_of h3 (fun ps z => by cases z), mt_of h4 (fun ps z => by cases z), mt_of h5 (fun ps z => by cases z), h6.mt⟩⟩
theorem DevAt.ext {K : PySem.W.Frag} {H H' : Hp} {x C : Addr} {T : Str} {D : Wat} (e : ExtN H H') (h : DevAt K H x C T D) : DevAt K H' x C T D := (h.mt.same (mt_ext e)).same (mt_self H')
theorem OwnAt.ext {K : PySem.W.Frag} {H H' : Hp} {o : Addr} {D : Dev} (e : ExtN H H') (h : OwnAt K H o D) : OwnAt K H' o D := (h.mt.same (mt_ext e)).same (mt_self H')
theorem Gx.ext {K : PySem.W.Frag} {n : Nat} {H H' : Hp} {v : V} (e : ExtN H H') (h : Gx K n H v) : Gx K n H' v := (h.mt.same (mt_ext e)).same (mt_self H')
theorem SqLext {K : PySem.W.Frag} {H H' : Hp} {t : Addr} {zs : List V} (e : ExtN H H') (h : SqL K H t zs) : SqL K H' t zs := (mt_self H').seq ((mt_ext e).seq (SqL.mt h))
theorem exq_tbl {a : Addr} {c : Value} {d : Option Addr} : ∀ ps, exq a c d ≠ .tbl ps := fun ps z => by
  have z' : HO.ext _ = HO.tbl ps := z
  cases z'
theorem ErrQ.ext {H H' : Hp} {a C d : Addr} {fs : List (Str × V)} (e : ExtN H H') (h : ErrQ H a C d fs) : ErrQ H' a C d fs := ⟨e _ _ h.ob exq_tbl, e _ _ h.dc fun ps z => by cases z⟩
/-- while a dict with tuple keys is locked -/
theorem tup_lock {K : PySem.W.Frag} {H G : Hp} {r t : Addr} {kvs : List (List Key × V)} {zs : List V} (hr : H r = some (.dT kvs)) (e : But r H G) (h : SqT K H t zs) : SqT K G t zs := by
  rcases h with (q | ⟨o, q⟩) | q
  · exact .inl (.inl (e _ _ q (fun z => by rw [z, hr] at q; cases q)))
  · exact .inl (.inr ⟨o, e _ _ q (fun z => by rw [z, hr] at q; cases q)⟩)
  · exact .inr q
theorem gr_lock {K : PySem.W.Frag} {H G : Hp} {r : Addr} {kvs kvs' : List (List Key × V)} {g : Goals} (hr : H r = some (.dT kvs)) (e : But r H G) (h : GR K H kvs' g) : GR K G kvs' g := by
  induction h with
  | nil => exact .nil
  | cons a _ ih => exact .cons (tup_lock hr e a) ih
/-- what the written part says of a class of errors that are caught -/
structure EQl (K : PySem.W.Frag) (mg : Str → Option Value) (fI B : Addr) (x : Str) (C : Addr) : Prop where
  ec : ECl K mg fI x C
  box : PySem.W.exmOne K (.ref C) (.ref B) = some true
/-- a caught error at v of the class at C that keeps y -/
def Caught (H : Hp) (C : Addr) (v y : V) : Prop := ∃ a d, v = .ref a ∧ ErrQ H a C d (vf y)
theorem Caught.ext {H H' : Hp} {C : Addr} {v y : V} (e : ExtN H H') (h : Caught H C v y) : Caught H' C v y := by
  obtain ⟨a, d, h1, h2⟩ := h
  exact ⟨a, d, h1, h2.ext e⟩
end LG
set_option Elab.async false
set_option linter.all false
set_option maxRecDepth 100000
set_option maxHeartbeats 8000000
namespace LG
open PySem L2 LamX
theorem kit_self {K : PySem.W.Frag} {t : Value} : PySem.W.kitOne K t t = some true := if_pos (beq_self_eq_true _)
theorem upper_small {x : Str} (h : isNameB x = true) : small 0 (.str (Txt.upper x)) = true := by
  have hl := name_len h
  have hu := PyProof.Rows.len_upper x
  have hs := name_signs h
  have ok : ∀ c : Nat, (inL c || inF c) = true → (Unicode.upperOf c).all (fun d => decide (d < 16 ^ 8)) = true := by
    intro c hc
    have hm : c ∈ LET.cps.toList ++ FIG.cps.toList := by
      rw [Bool.or_eq_true] at hc
      rcases hc with hc | hc
      · exact List.mem_append_left _ (of_decide_eq_true hc)
      · exact List.mem_append_right _ (of_decide_eq_true hc)
    have all : (LET.cps.toList ++ FIG.cps.toList).all (fun c => (Unicode.upperOf c).all fun d => decide (d < 16 ^ 8)) = true := by decide +kernel
    exact List.all_eq_true.mp all c hm
  simp only [small, Bool.and_eq_true, decide_eq_true_eq]
  refine ⟨by omega, List.all_eq_true.mpr fun d hd => ?_⟩
  have hd' : d ∈ ((x.cps.mapIdx fun i c => (Unicode.upperOf c).toArray).flatten).toList := hd
  rw [Array.mem_toList_iff, Array.mem_flatten] at hd'
  obtain ⟨a, ha, hda⟩ := hd'
  obtain ⟨i, hi, rfl⟩ := Array.mem_mapIdx.mp ha
  have hc : x.cps[i] ∈ TL.tl x := by
    show x.cps[i] ∈ x.cps.toList
    simp
  have := List.all_eq_true.mp (ok _ (hs _ hc)) d (by simpa using hda)
  exact this
theorem name_small {x : Str} (h : isNameB x = true) : small 0 (.str x) = true := by
  have hl := name_len h
  have hs := name_signs h
  simp only [small, Bool.and_eq_true, decide_eq_true_eq]
  refine ⟨by omega, List.all_eq_true.mpr fun d hd => ?_⟩
  have hc := hs d hd
  have hm : d ∈ LET.cps.toList ++ FIG.cps.toList := by
    rw [Bool.or_eq_true] at hc
    rcases hc with hc | hc
    · exact List.mem_append_left _ (of_decide_eq_true hc)
    · exact List.mem_append_right _ (of_decide_eq_true hc)
  have all : (LET.cps.toList ++ FIG.cps.toList).all (fun d => decide (d < 16 ^ 8)) = true := by decide +kernel
  exact List.all_eq_true.mp all d hm
theorem name_x_small {x : Str} (h : isNameB x = true) : small 0 (.str (x ++ ("x" : Str))) = true := by
  have hl := name_len h
  have h0 := name_small h
  simp only [small, Bool.and_eq_true, decide_eq_true_eq] at h0 ⊢
  refine ⟨?_, ?_⟩
  · rw [strLen_append]
    have : ("x" : Str).length = 1 := by decide +kernel
    omega
  · have e : (x ++ ("x" : Str)).cps.toList = x.cps.toList ++ ("x" : Str).cps.toList := TL.tl_append x "x"
    rw [e, List.all_append, h0.2]
    decide +kernel
theorem Gx.str {K : PySem.W.Frag} {n : Nat} {H : Hp} {x : Str} (h : small 0 (.str x) = true) : Gx K n H (.str x) := ⟨.str x, .flat (.str x), small_le (Nat.zero_le n) h⟩
/-- all but p and the tables stay -/
def BtR (p : Addr) (H H' : Hp) : Prop := ∀ c o, H c = some o → c ≠ p → (∀ ps, o ≠ .tbl ps) → H' c = some o
theorem BtR.trans {p : Addr} {H H1 H2 : Hp} (a : BtR p H H1) (b : BtR p H1 H2) : BtR p H H2 := fun c o h n t => b c o (a c o h n t) n t
theorem BtR.of {p : Addr} {H H' : Hp} (a : But p H H') : BtR p H H' := fun c o h n _ => a c o h n
theorem BtR.ex {p : Addr} {H H' : Hp} (a : ExtN H H') : BtR p H H' := fun c o h _ t => a c o h t
theorem Tabs.but {T : List (Addr × Str)} {H H' : Hp} {p b : _} (e : But p H H') (hp : PotAt H p b) (h : Tabs T H) : Tabs T H' := by
  obtain ⟨own, sm, n, h1, _⟩ := hp
  intro q hq
  obtain ⟨ps, t1, t2, t3⟩ := h q hq
  refine ⟨ps, e _ _ t1 (fun z => by rw [z, h1] at t1; cases t1), t2, fun pos cv hc => ?_⟩
  obtain ⟨c, e1, e2⟩ := t3 pos cv hc
  exact ⟨c, e1, e _ _ e2 (fun z => by
    rw [z, h1] at e2
    have e3 : HO.lst _ = HO.ext _ := Option.some.inj e2
    cases e3)⟩
theorem PotAt.ext {H H' : Hp} {p b : _} (e : ExtN H H') (h : PotAt H p b) : PotAt H' p b := by
  obtain ⟨own, sm, n, h1, h2⟩ := h
  exact ⟨own, sm, n, e _ _ h1 (fun ps z => by cases z), h2⟩
end LG
set_option Elab.async false
set_option linter.all false
set_option maxRecDepth 100000
set_option maxHeartbeats 2000000
/-! xs[::-1], xs a list. -/
namespace LG
open PySem PySem.Spec PyProof.Rows L2
section
variable {X : Cx} {e st : Expr} {te ts : TE} {pos p2 : Pos}
def tBackL (K : PySem.W.Frag) (te ts : TE) : TE := fun σ H Q => te σ H fun x H1 => ts σ H1 fun k H2 => ∃ a xs, k = .int (-1) ∧ x = .ref a ∧ SqL K H2 a xs ∧ ∀ p, H2 p = none → Q (.ref p) (upd H2 p (.lst xs.reverse))
theorem pe_backL (he : PE X e te) (hst : PE X st ts) : PE X (.Subscript e (.Slice none none (some st) p2) pos) (tBackL X.K te ts) := by
  refine ⟨fun pins s σ H Q I h => ?_⟩
  refine Subscript_ (thn (he.run pins s σ H _ I h) fun v s1 ⟨x, H1, I1, r1, q1⟩ => ?_)
  refine wpAny_Slice ?_
  rw [evalPart_none]
  refine wpAny_pure (wpAny_pure ?_)
  rw [evalPart_some]
  refine thn (hst.run pins s1 σ H1 _ I1 q1) fun vs s2 ⟨k, H2, I2, r2, a, xs, ek, ex, hx, q⟩ => ?_
  subst ek
  subst ex
  obtain ⟨tk, rfl⟩ := r2
  have ev : v = Value.ref a := r1
  subst ev
  have I3 : Inv X pins σ H2 { s2 with heap := s2.heap.push { cls := .type "slice", data := .fields #[.none, .none, .int (-1) tk] } } := I2.kept (t' := s2.toks) fun b ob q => Heap.get?_push_of_some _ q
  obtain ⟨its, r, ht, hz⟩ := I3.list hx
  have fits : its.toArray.size ≤ sizeLine := by
    rw [List.size_toArray, ← r.length]
    exact hz
  refine tail_any (s := { s2 with heap := s2.heap.push { cls := .type "slice", data := .fields #[.none, .none, .int (-1) tk] } }) (ops := [.ref a, .ref s2.heap.objs.size]) ht.isList.typeIs list_getitem_lookup ?_ (by with_unfolding_all rfl)
  refine wpAny_getItem_list_slice ht.isList (Heap.IsSliceOf.new ..) .none .none (.int _ _) (by decide) ?_ fits
  rw [PySem.W.krv_pick]
  refine ⟨.ref _, _, I3.laid (t' := s2.toks) (o := .lst xs.reverse) (fun b ob q => Heap.get?_push_of_some _ q) (Nat.le_refl _) ?_, rfl, q _ (I3.hok.fresh (Nat.le_refl _))⟩
  exact ⟨by rw [List.length_reverse]; exact hz, _, 0, vals_back r, Heap.get?_push_size _ rfl⟩
end
end LG
set_option Elab.async false
set_option linter.all false
set_option maxRecDepth 100000
set_option maxHeartbeats 2000000
namespace LG
open PySem L2
/-- a text of at most m signs, all of them of ASCII -/
structure TOk (m : Nat) (t : Str) : Prop where
  len : t.length ≤ m
  asc : ∀ c ∈ TL.tl t, c < 128
theorem TOk.mono {m n : Nat} {t : Str} (h : TOk m t) (l : m ≤ n) : TOk n t := ⟨Nat.le_trans h.len l, h.asc⟩
theorem mem_join {y : Str} : ∀ {ts : List Str} {t : Str} {c : Nat}, t ∈ ts → c ∈ TL.tl t → c ∈ TL.tl (Str.join y ts)
  | [x], t, c, ht, hc => by
    rw [List.mem_singleton.mp ht] at hc
    exact hc
  | x :: z :: r, t, c, ht, hc => by
    have e : Str.join y (x :: z :: r) = x ++ y ++ Str.join y (z :: r) := rfl
    rw [e, TL.tl_append, TL.tl_append]
    rcases List.mem_cons.mp ht with rfl | ht
    · exact List.mem_append_left _ (List.mem_append_left _ hc)
    · exact List.mem_append_right _ (mem_join ht hc)
theorem split_ok {m : Nat} {x y : Str} (h : TOk m x) (hy : TL.tl y ≠ []) (hk : y.cps.all (· < 256) = true) (h1 : y.length = 1) : ∀ t ∈ Txt.split x y, TOk m t := fun t ht =>
  ⟨Nat.le_trans ((split_bounds x hy hk h1).1 t ht) h.len, fun c hc => h.asc c (by
    have := mem_join (y := y) ht hc
    rw [PySem.StrLaws.join_split] at this
    exact this)⟩
theorem join_asc {y : Str} {ts : List Str} (hy : ∀ c ∈ TL.tl y, c < 128) (h : ∀ t ∈ ts, ∀ c ∈ TL.tl t, c < 128) : ∀ c ∈ TL.tl (Txt.join y ts), c < 128 := by
  intro c hc
  rw [TL.join_eq] at hc
  rcases join_mem hc with m | ⟨t, ht, m⟩
  · exact hy c m
  · exact h t ht c m
theorem sep_asc : (∀ c ∈ TL.tl sp1, c < 128) ∧ (∀ c ∈ TL.tl nl1, c < 128) := by
  refine ⟨?_, ?_⟩ <;> decide +kernel
theorem name_asc {x : Str} (h : isNameB x = true) : ∀ c ∈ TL.tl x, c < 128 := by
  intro c hc
  have hs := name_signs h c hc
  rw [Bool.or_eq_true] at hs
  have all : (LET.cps.toList ++ FIG.cps.toList).all (fun d => decide (d < 128)) = true := by decide +kernel
  have hm : c ∈ LET.cps.toList ++ FIG.cps.toList := by
    rcases hs with h | h
    · exact List.mem_append_left _ (of_decide_eq_true h)
    · exact List.mem_append_right _ (of_decide_eq_true h)
  exact of_decide_eq_true (List.all_eq_true.mp all c hm)
theorem name_ok {x : Str} (h : isNameB x = true) : TOk 8 x := ⟨name_len h, name_asc h⟩
theorem asc_16 {x : Str} (h : ∀ c ∈ TL.tl x, c < 128) : ∀ c ∈ TL.tl x, c < 16 ^ 8 := fun c hc => Nat.lt_trans (h c hc) (by decide)
/-- how long the words joined are -/
def jlen (ws : List Str) : Nat := (ws.map fun t => t.length + 1).sum
theorem join_jlen {ws : List Str} : (Txt.join sp1 ws).length ≤ jlen ws := by
  rw [TL.join_eq]
  cases ws with
  | nil => exact Nat.zero_le _
  | cons x r =>
    have e := join_size sp1 (ts := x :: r) (by simp)
    rw [sp1_1] at e
    unfold jlen
    omega
theorem split_jlen (x : Str) : jlen (Txt.split x sp1) = x.length + 1 := by
  have e := join_size sp1 (words_some x)
  rw [PySem.StrLaws.join_split, sp1_1] at e
  exact e.symm
theorem jlen_cons (x : Str) (r : List Str) : jlen (x :: r) = x.length + 1 + jlen r := by
  unfold jlen
  rw [List.map_cons, List.sum_cons]
theorem jlen_app : ∀ (a b : List Str), jlen (a ++ b) = jlen a + jlen b
  | [], b => by
    show jlen b = 0 + jlen b
    omega
  | x :: r, b => by
    rw [List.cons_append, jlen_cons, jlen_cons, jlen_app r b]
    omega
theorem jlen_mem {ws : List Str} {t : Str} (h : t ∈ ws) : t.length + 1 ≤ jlen ws := by
  induction ws with
  | nil => cases h
  | cons x r ih =>
    rw [jlen_cons]
    rcases List.mem_cons.mp h with rfl | h
    · omega
    · have := ih h
      omega
theorem jlen_set : ∀ (ws : List Str) (i : Nat) (t : Str), jlen (ws.set i t) ≤ jlen ws + t.length
  | [], i, t => by
    show 0 ≤ _
    exact Nat.zero_le _
  | x :: r, 0, t => by
    rw [List.set_cons_zero, jlen_cons, jlen_cons]
    omega
  | x :: r, i + 1, t => by
    rw [List.set_cons_succ, jlen_cons, jlen_cons]
    have := jlen_set r i t
    omega
theorem jlen_erase : ∀ (ws : List Str) (i : Nat), jlen (ws.eraseIdx i) ≤ jlen ws
  | [], i => by
    rw [List.eraseIdx_nil]
    exact Nat.le_refl _
  | x :: r, 0 => by
    rw [List.eraseIdx_cons_zero, jlen_cons]
    omega
  | x :: r, i + 1 => by
    rw [List.eraseIdx_cons_succ, jlen_cons, jlen_cons]
    have := jlen_erase r i
    omega
theorem jlen_rev (ws : List Str) : jlen ws.reverse = jlen ws := by
  induction ws with
  | nil => rfl
  | cons x r ih =>
    rw [List.reverse_cons, jlen_app, ih, jlen_cons, jlen_cons]
    show jlen r + (x.length + 1 + 0) = _
    omega
theorem join_ok {m : Nat} {ws : List Str} (h : ∀ t ∈ ws, ∀ c ∈ TL.tl t, c < 128) (hl : jlen ws ≤ m) : TOk m (Txt.join sp1 ws) := ⟨Nat.le_trans join_jlen hl, join_asc sep_asc.1 h⟩
/-! ### texts in lists, pairs of texts in lists -/
def rNotInTxt (K : PySem.W.Frag) : R2 := fun x y H Q => ∃ (z : Str) (p : Addr) (ns : List Str), x = .str z ∧ y = .ref p ∧ (SqL K H p (ns.map V.str) ∨ SqT K H p (ns.map V.str)) ∧ Q (.bl (!ns.contains z)) H
theorem op_notIn_txt {X : Cx} : OpR X (compareOp .NotIn) (rNotInTxt X.K) := by
  intro pins s σ H x y v u Q I rx ry h
  obtain ⟨z, p, ns, rfl, rfl, hq, q⟩ := h
  refine op_notIn_seq pins s σ H _ _ v u Q I rx ry ⟨p, _, rfl, hq, rfl, flat_txt ns, ?_⟩
  rw [inV_str]
  exact q
def pairD (k : Str × Str) : PyData := .tuple [.str k.1, .str k.2]
theorem pair_eqv (a b : Str × Str) : PyData.eqv (pairD a) (pairD b) = decide (a = b) := by
  obtain ⟨a1, a2⟩ := a
  obtain ⟨b1, b2⟩ := b
  unfold pairD
  simp only [PyData.eqv, PyData.eqvAll, Bool.and_true]
  by_cases h1 : a1 = b1
  · by_cases h2 : a2 = b2
    · subst h1 h2
      simp
    · have : (a2 == b2) = false := by simpa using h2
      simp [h2]
  · have : (a1 == b1) = false := by simpa using h1
    simp [h1]
theorem pairs_any (ks : List (Str × Str)) (k : Str × Str) : ((ks.map pairD).any fun z => PyData.eqv z (pairD k)) = ks.contains k := by
  rw [List.any_map, List.contains_eq_any_beq]
  congr 1
  funext y
  show PyData.eqv (pairD y) (pairD k) = (k == y)
  rw [pair_eqv]
  by_cases h : y = k
  · subst h
    simp
  · have h2 : ¬ k = y := fun z => h z.symm
    rw [decide_eq_false h]
    have : (k == y) = false := by simpa using h2
    rw [this]
theorem name_strOk {x : Str} (h : ∀ c ∈ TL.tl x, c < 128) : PyData.canLay0 (.str x) = true := by
  simp only [PyData.canLay0]
  show (x.cps.all fun c => decide (c < 0x110000)) = true
  rw [Array.all_eq_true']
  intro c hc
  exact decide_eq_true (Nat.lt_trans (h c (by simpa [TL.tl] using hc)) (by decide))
theorem pair_shaped {k : Str × Str} (h1 : ∀ c ∈ TL.tl k.1, c < 128) (h2 : ∀ c ∈ TL.tl k.2, c < 128) : SeqAt.shaped (pairD k) = true := by
  unfold SeqAt.shaped pairD
  have e1 := name_strOk h1
  have e2 := name_strOk h2
  have c : PyData.canLay0 (.tuple [.str k.1, .str k.2]) = true := by
    simp only [PyData.canLay0, PyData.canLayAll0] at e1 e2 ⊢
    rw [e1, e2]
    rfl
  rw [c]
  rfl
theorem pairs_shaped {ks : List (Str × Str)} (h : ∀ k ∈ ks, (∀ c ∈ TL.tl k.1, c < 128) ∧ ∀ c ∈ TL.tl k.2, c < 128) : SeqAt.shaped (.list (ks.map pairD)) = true := by
  have c : PyData.canLayAll0 (ks.map pairD) = true ∧ PyData.depthAll (ks.map pairD) ≤ 1 := by
    induction ks with
    | nil => exact ⟨rfl, by simp [PyData.depthAll]⟩
    | cons k r ih =>
      obtain ⟨i1, i2⟩ := ih fun x hx => h x (List.mem_cons_of_mem _ hx)
      obtain ⟨a1, a2⟩ := h k List.mem_cons_self
      have s := SeqAt.canLay_of_shaped (pair_shaped a1 a2)
      refine ⟨?_, ?_⟩
      · simp only [List.map_cons, PyData.canLayAll0, s, i1, Bool.and_self]
      · simp only [List.map_cons, PyData.depthAll]
        have : (pairD k).depth ≤ 1 := by
          unfold pairD
          simp only [PyData.depth, PyData.depthAll]
          omega
        omega
  unfold SeqAt.shaped
  simp only [PyData.canLay0, PyData.depth, c.1, Bool.true_and]
  exact decide_eq_true (by have := c.2; omega)
theorem pair_dp {K : PySem.W.Frag} {H : Hp} {t : Addr} {k : Str × Str} (h : H t = some (.tup [.str k.1, .str k.2])) : Dp K H (.ref t) (pairD k) := .tup (.inl (.inl h)) (.cons (.str _) (.cons (.str _) .nil))
theorem pairs_dp {K : PySem.W.Frag} {H : Hp} {vs : List V} {ks : List (Str × Str)} (h : KeyRefs H vs ks) : DpAll K H vs (ks.map pairD) := by
  induction h with
  | nil => exact .nil
  | cons a _ ih => exact .cons (pair_dp a) ih
end LG
set_option Elab.async false
set_option linter.all false
set_option maxRecDepth 100000
set_option maxHeartbeats 8000000
/-! The law's own look at the text of a watch: None, or the number of the first wrong line. -/
namespace LG
open PySem L2
theorem cutG {p c d : Prop} (k : (p → c) → d) (h : p → c) : d := k h
/-- the facts of the reading of heads, all but the list of heads -/
structure RdH (H G : Hp) (l hd l0 t0 t1 t2 : Addr) (lines : List Str) (rs : List Addr) : Prop where
  same : Same H G
  fl : G l = some (.lst (lines.map V.str))
  fl0 : G l0 = some (.lst [.ref t0, .ref t1, .ref t2])
  ft0 : G t0 = some (.tup [.str "calls", .int 1, .int 3])
  ft1 : G t1 = some (.tup [.str "answers", .int 2, .int 3])
  ft2 : G t2 = some (.tup [.str "marks", .int 1, .int 4])
  nh : H hd = none
  hl : l ≠ hd
  hl0 : l0 ≠ hd
  ht0 : t0 ≠ hd
  ht1 : t1 ≠ hd
  ht2 : t2 ≠ hd
  frs : ∀ j r, rs[j]? = some r → r ≠ hd ∧ G r = some (.lst ((headAt lines j).map V.str))
theorem RdH.ext {H G G' : Hp} {l hd l0 t0 t1 t2 : Addr} {lines : List Str} {rs : List Addr} (h : RdH H G l hd l0 t0 t1 t2 lines rs) (e : Same G G') : RdH H G' l hd l0 t0 t1 t2 lines rs :=
  { h with same := h.same.trans e, fl := e _ _ h.fl, fl0 := e _ _ h.fl0, ft0 := e _ _ h.ft0, ft1 := e _ _ h.ft1, ft2 := e _ _ h.ft2, frs := fun j r hj => ⟨(h.frs j r hj).1, e _ _ (h.frs j r hj).2⟩ }
theorem RdH.put {H G : Hp} {l hd l0 t0 t1 t2 : Addr} {lines : List Str} {rs : List Addr} {o : HO} (h : RdH H G l hd l0 t0 t1 t2 lines rs) : RdH H (upd G hd o) l hd l0 t0 t1 t2 lines rs :=
  { h with
    same := fun b u q => by rw [upd_ne (ne_of_none q h.nh)]; exact h.same _ _ q
    fl := by rw [upd_ne h.hl]; exact h.fl
    fl0 := by rw [upd_ne h.hl0]; exact h.fl0
    ft0 := by rw [upd_ne h.ht0]; exact h.ft0
    ft1 := by rw [upd_ne h.ht1]; exact h.ft1
    ft2 := by rw [upd_ne h.ht2]; exact h.ft2
    frs := fun j r hj => ⟨(h.frs j r hj).1, by rw [upd_ne (h.frs j r hj).1]; exact (h.frs j r hj).2⟩ }
theorem RdH.item {H G : Hp} {l hd l0 t0 t1 t2 : Addr} {lines : List Str} {rs : List Addr} (h : RdH H G l hd l0 t0 t1 t2 lines rs) {i : Nat} {x : V} (hx : ([.ref t0, .ref t1, .ref t2] : List V)[i]? = some x) :
    ∃ t w f m, x = .ref t ∧ headsL[i]? = some (w, f, m) ∧ i < 3 ∧ 1 ≤ f ∧ (w = "marks" ↔ i = 2) ∧ G t = some (.tup [.str w, .int f, .int m]) := by
  match i, hx with
  | 0, hx => cases hx; exact ⟨t0, _, _, _, rfl, rfl, by decide, by decide, by decide, h.ft0⟩
  | 1, hx => cases hx; exact ⟨t1, _, _, _, rfl, rfl, by decide, by decide, by decide, h.ft1⟩
  | 2, hx => cases hx; exact ⟨t2, _, _, _, rfl, rfl, by decide, by decide, by decide, h.ft2⟩
  | n + 3, hx => cases hx
/-- the keys of the steps that were seen -/
def kvS (g : Steps) : List (List Key × V) := g.map fun e => (kT3 e.1, V.bl true)
theorem kvS_len (g : Steps) : (kvS g).length = g.length := List.length_map _
theorem kvS_val (g : Steps) (k : Str × Str × Str) : valV (kvS g) (kT3 k) = (g.lookup k).map fun _ => V.bl true := by
  induction g with
  | nil => rfl
  | cons e g ih =>
    obtain ⟨j, x⟩ := e
    by_cases c : j = k
    · subst c
      have : List.lookup j ((j, x) :: g) = some x := by simp [List.lookup]
      rw [this]
      exact valV_pos rfl
    · have ne : (k == j) = false := by simpa using fun z : k = j => c z.symm
      have l : List.lookup k ((j, x) :: g) = List.lookup k g := by simp [List.lookup, ne]
      rw [l, ← ih]
      exact valV_neg (fun z => c (kT3_inj.mp z))
theorem kvS_app (g h : Steps) : kvS (g ++ h) = kvS g ++ kvS h := List.map_append
/-- the facts of the reading of steps -/
structure RdR (H G : Hp) (l hd sn l3 c a s : Addr) (lines C A S : List Str) (g : Steps) : Prop where
  same : Same H G
  nk : H sn = none
  fl : G l = some (.lst (lines.map V.str))
  fl3 : G l3 = some (.lst ((lines.drop 3).map V.str))
  fhd : G hd = some (.lst [.ref c, .ref a, .ref s])
  fc : G c = some (.lst (C.map V.str))
  fa : G a = some (.lst (A.map V.str))
  fs : G s = some (.lst (S.map V.str))
  fsn : G sn = some (.dT (kvS g))
theorem RdR.ext {H G G' : Hp} {l hd sn l3 c a s : Addr} {lines C A S : List Str} {g : Steps} (h : RdR H G l hd sn l3 c a s lines C A S g) (e : Same G G') : RdR H G' l hd sn l3 c a s lines C A S g :=
  { h with same := h.same.trans e, fl := e _ _ h.fl, fl3 := e _ _ h.fl3, fhd := e _ _ h.fhd, fc := e _ _ h.fc, fa := e _ _ h.fa, fs := e _ _ h.fs, fsn := e _ _ h.fsn }
theorem RdR.put {H G : Hp} {l hd sn l3 c a s : Addr} {lines C A S : List Str} {g g' : Steps} (h : RdR H G l hd sn l3 c a s lines C A S g) : RdR H (upd G sn (.dT (kvS g'))) l hd sn l3 c a s lines C A S g' :=
  have ne : ∀ {z : Addr} {xs : List V}, G z = some (.lst xs) → z ≠ sn := fun {z xs} e n => by
    rw [n, h.fsn] at e
    cases e
  { h with
    same := fun b u q => by rw [upd_ne (ne_of_none q h.nk)]; exact h.same _ _ q
    fl := by rw [upd_ne (ne h.fl)]; exact h.fl
    fl3 := by rw [upd_ne (ne h.fl3)]; exact h.fl3
    fhd := by rw [upd_ne (ne h.fhd)]; exact h.fhd
    fc := by rw [upd_ne (ne h.fc)]; exact h.fc
    fa := by rw [upd_ne (ne h.fa)]; exact h.fa
    fs := by rw [upd_ne (ne h.fs)]; exact h.fs
    fsn := upd_same }
end LG
set_option Elab.async false
set_option linter.all false
set_option maxRecDepth 100000
set_option maxHeartbeats 2000000
namespace LG
open PySem L2
theorem for_enumL {K : PySem.W.Frag} {a : Addr} {xs : List V} {g : TG} {tb : TS} {D : Ends} {σ : L2.St} {H : Hp} (Pv : Nat → L2.St → Hp → Prop) (h0 : Pv 0 σ H) (hq : ∀ i σ H, Pv i σ H → SqL K H a xs)
    (hs : ∀ (i : Nat) (x : V) (T : Addr) (σ : L2.St) (H : Hp), xs[i]? = some x → Pv i σ H → H T = none → g (.ref T) σ (upd H T (.tup [.int (i : Nat), x])) fun σ2 H2 => tb { D with nx := Pv (i + 1), ct := Pv (i + 1), bk := D.nx } σ2 H2) (hd : ∀ σ H, Pv xs.length σ H → D.nx σ H) :
    ∃ W : Nat → Nat → L2.St → Hp → Prop, (∃ m, W 0 m σ H) ∧ ∀ i m σ H, W i m σ H →
      ((Ite K a).stop i H ∧ D.nx σ H) ∨ ((Ite K a).go i H ∧ ∃ N : L2.St → Hp → Prop, (∀ σ' H', N σ' H' → ∃ m', m' < m ∧ W (i + 1) m' σ' H') ∧ ∀ v H', (Ite K a).yld i H v H' → g v σ H' fun σ2 H2 => tb { D with nx := N, ct := N, bk := D.nx } σ2 H2) := by
  refine ⟨fun i m σ H => m = xs.length - i ∧ i ≤ xs.length ∧ Pv i σ H, ⟨_, rfl, Nat.zero_le _, h0⟩, ?_⟩
  rintro i m σ H ⟨rfl, hi, pv⟩
  have seq := hq i σ H pv
  by_cases more : i < xs.length
  · have there : xs[i]? = some xs[i] := List.getElem?_eq_getElem more
    refine .inr ⟨⟨xs, _, seq, there⟩, Pv (i + 1), fun σ' H' p' => ⟨xs.length - (i + 1), by omega, rfl, more, p'⟩, fun v H' y => ?_⟩
    obtain ⟨T, x', rfl, free, rfl, same⟩ := y
    have e := same xs seq
    rw [there] at e
    cases e
    exact hs i _ T σ H there pv free
  · have e : i = xs.length := by omega
    subst e
    exact .inl ⟨⟨xs, seq, Nat.le_refl _⟩, hd σ H pv⟩
theorem nodup_le : ∀ {l m : List (Str × Str)}, l.Nodup → (∀ x ∈ l, x ∈ m) → l.length ≤ m.length
  | [], _, _, _ => Nat.zero_le _
  | x :: r, m, nd, h => by
    obtain ⟨n1, n2⟩ := List.nodup_cons.mp nd
    have hx := h x List.mem_cons_self
    have ih := nodup_le (l := r) (m := m.erase x) n2 fun y hy => (List.mem_erase_of_ne (fun z : y = x => n1 (by rw [← z]; exact hy))).mpr (h y (List.mem_cons_of_mem _ hy))
    rw [List.length_erase_of_mem hx] at ih
    have : 0 < m.length := List.length_pos_of_mem hx
    rw [List.length_cons]
    omega
structure NmOk (ns : List Str) : Prop where
  nm : ∀ x ∈ ns, isNameB x = true
  nd : ns.Nodup
  len : ns.length ≤ 4
theorem names_good {l h : Str} {a b : Int} (hb : b ≤ 4) (h0 : 0 ≤ b) (ne : LG.namesIn l h a b ≠ []) : NmOk (LG.namesIn l h a b) := by
  have hl := namesIn_len l h a b h0
  have e : LG.namesIn l h a b = if (Txt.split l sp1).headD Str.empty ≠ h ∨ ¬ (a ≤ ((Txt.split l sp1).tail.length : Int) ∧ ((Txt.split l sp1).tail.length : Int) ≤ b) then [] else if (uniq (Txt.split l sp1).tail).length < (Txt.split l sp1).tail.length ∨ ¬ ((Txt.split l sp1).tail.all isNameB = true) then [] else (Txt.split l sp1).tail := rfl
  by_cases c : (Txt.split l sp1).headD Str.empty ≠ h ∨ ¬ (a ≤ ((Txt.split l sp1).tail.length : Int) ∧ ((Txt.split l sp1).tail.length : Int) ≤ b)
  · rw [if_pos c] at e
    exact absurd e ne
  · rw [if_neg c] at e
    by_cases c2 : (uniq (Txt.split l sp1).tail).length < (Txt.split l sp1).tail.length ∨ ¬ ((Txt.split l sp1).tail.all isNameB = true)
    · rw [if_pos c2] at e
      exact absurd e ne
    · rw [if_neg c2] at e
      rw [e] at hl ⊢
      have c3 : ¬ (uniq (Txt.split l sp1).tail).length < (Txt.split l sp1).tail.length := fun z => c2 (.inl z)
      have c4 : (Txt.split l sp1).tail.all isNameB = true := Classical.byContradiction fun z => c2 (.inr z)
      have u := uniq_len (Txt.split l sp1).tail
      exact ⟨fun x hx => List.all_eq_true.mp c4 x hx, u.2.mp (by have := u.1; omega), by omega⟩
theorem headAt_good {lines : List Str} {i : Nat} (ne : headAt lines i ≠ []) : NmOk (headAt lines i) := by
  revert ne
  unfold headAt
  match i with
  | 0 => cases h : lines[0]? with
    | none => exact fun z => absurd rfl z
    | some l => exact fun z => names_good (by decide) (by decide) z
  | 1 => cases h : lines[1]? with
    | none => exact fun z => absurd rfl z
    | some l => exact fun z => names_good (by decide) (by decide) z
  | 2 => cases h : lines[2]? with
    | none => exact fun z => absurd rfl z
    | some l => exact fun z => names_good (by decide) (by decide) z
  | n + 3 => exact fun z => absurd rfl z
/-- what the law's own look at a text tells: None, or the number of the wrong line -/
def wrongV (T : Str) : V := match parse T with
  | .inl n => .int n
  | .inr _ => .non
theorem wrong_head {T : Str} {i : Nat} (hi : i < 3) (ok : ∀ j, j < i → headAt (Txt.split T nl1) j ≠ []) (bad : headAt (Txt.split T nl1) i = []) : wrongV T = .int ((i + 1 : Nat) : Int) := by
  unfold wrongV
  rw [parse_bad (readHeads_bad hi ok bad)]
theorem wrong_brk {T : Str} (ok : ∀ j, j < 3 → headAt (Txt.split T nl1) j ≠ []) (b : (headAt (Txt.split T nl1) 2).contains BRK = true) : wrongV T = .int 3 := by
  unfold wrongV
  have e := parse_heads (readHeads_ok ok) (g := [])
  rw [e, if_pos b]
  rfl
theorem wrong_goals {T : Str} (ok : ∀ j, j < 3 → headAt (Txt.split T nl1) j ≠ []) (b : (headAt (Txt.split T nl1) 2).contains BRK = false) :
    wrongV T = match goalsFrom (headAt (Txt.split T nl1) 0) (headAt (Txt.split T nl1) 1) (headAt (Txt.split T nl1) 2) ((Txt.split T nl1).drop 3) 3 [] with
      | .inl n => .int (n : Nat)
      | .inr g => .non := by
  unfold wrongV
  have e := parse_heads (readHeads_ok ok) (g := [])
  rw [e, if_neg (by rw [b]; exact Bool.false_ne_true)]
  unfold readGoals
  generalize goalsFrom (headAt (Txt.split T nl1) 0) (headAt (Txt.split T nl1) 1) (headAt (Txt.split T nl1) 2) ((Txt.split T nl1).drop 3) 3 [] = r
  cases r <;> rfl
/-- the law's own look at a line of a step -/
theorem lookup_there {α β : Type} [DecidableEq α] {g : List (α × β)} {k : α} (h : k ∈ g.map (·.1)) : ∃ x, g.lookup k = some x := by
  induction g with
  | nil => simp at h
  | cons e g ih =>
    obtain ⟨j, y⟩ := e
    by_cases c : k = j
    · subst c
      exact ⟨y, by simp [List.lookup]⟩
    · have : k ∈ g.map (·.1) := by
        rcases List.mem_cons.mp h with z | z
        · exact absurd z c
        · exact z
      obtain ⟨x, hx⟩ := ih this
      exact ⟨x, by rw [← hx]; simp [List.lookup, beq_eq_false_iff_ne.mpr c]⟩
end LG
set_option Elab.async false
set_option linter.all false
set_option maxRecDepth 100000
set_option maxHeartbeats 8000000
/-! Odd values; a look at Watch(v) that is caught; what a text that is read tells of its first lines. -/
namespace K56
open PySem L2 LG
section
variable {P : Program} {w : World} {K : PySem.W.Frag} {mg : Str → Option Value} {base : Heap}
theorem scOdd : FnScope ["_law_pot_here", "_law_some_here"] ["_law_pot_here"] (defScope sOdd) := ⟨rfl, rfl, rfl, by decide +kernel, rfl, by decide +kernel, by decide +kernel⟩
theorem ok_odd {f g : Addr} {fd gd : FuncData} (F : Fun K "_law_odd" "_law_odd" sOdd f fd) (G : FnOk P w K mg base CX0 2 g gd ["_law_pot_here", "_law_some_here"] (spOf K)) (mG : mg "_law_of" = some (.ref g)) (kG : PySem.W.keepIn K (.ref g) = true) (bG : Binds K gd ["_law_pot_here", "_law_some_here"] []) :
    FnOk P w K mg base CX0 3 f fd ["_law_pot_here"] (spOdd K) := by
  refine F.ok scOdd (fun vs H Q E h => ?_) (fun cdv A outer s H vs Q E hr h => ?_)
  · obtain ⟨p, b, rfl, _⟩ := h
    rfl
  obtain ⟨p, b, rfl, hp, hb, q⟩ := h
  refine ⟨_, pss_cons (ps_set (i := 1) scOdd.nd rfl (Or.inl rfl) (pe_lst (gx_cons (n := 2) (gx_of gd_none) (gx_cons (gx_of gd_bool) (gx_cons (gx_of gd_bool) (gx_cons (gx_of gd_int) (gx_cons (gx_of gd_int) (gx_cons (gx_of gd_neg) (gx_cons (gx_of gd_int) (gx_cons (gx_of gd_int) (gx_cons (pe_imp (t' := tGx K 2) (pe_op op_pow pe_int pe_int) fun _ H Q h => ⟨_, _, rfl, rfl, ⟨by decide, by decide, by decide⟩, h _ _ (Same.refl H) ⟨.int _, .flat (.int _), by decide +kernel⟩⟩) (gx_cons (gx_of gd_str) (gx_cons (gx_of gd_str) (gx_cons (gx_of gd_str) (gx_cons (gx_of gd_str) (gx_cons (gx_of gd_str) (gx_cons (gx_of gd_str) (gx_cons (gx_of gd_str) (gx_cons (gx_of (gd_tup gd_nil)) (gx_cons (gx_of (gd_lst gd_nil)) (gx_cons gx_dict0 (gx_cons (gx_of (gd_tup (gd_cons gd_int gd_nil))) gx_nil))))))))))))))))))))))
    (pss_one (ps_ret (pe_call G hr rfl mG kG bG .nil pass0 (pa_cons (pv 0) (pa_cons (pe_op op_cat (pv 1) (pe_lst (gx_cons (n := 2) (gx_of (gd_tup (gd_cons (gd_tup gd_nil) gd_nil))) (gx_cons (gx_of (gd_lst (gd_cons gd_int gd_nil))) (gx_cons (gx_of (gd_tup (gd_cons gd_int (gd_cons gd_int gd_nil)))) (gx_cons (gx_of (gd_tup (gd_cons gd_str gd_nil))) (gx_cons (gx_of (gd_tup (gd_cons (gd_tup (gd_cons gd_str (gd_cons gd_str gd_nil))) gd_nil))) (gx_cons (gx_of (gd_tup (gd_cons gd_none gd_nil))) (gx_cons (gx_of (gd_tup (gd_cons gd_str (gd_cons (gd_tup gd_nil) gd_nil)))) (gx_cons gx_dict1 (gx_cons (gx_of gd_str) gx_nil))))))))))) pa_nil))))), ?_⟩
  intro xs H1 s1 l1 g1
  refine ⟨by rw [l1]; decide, fun l nl => ?_⟩
  have sl := same_new nl (.lst xs)
  have hl : (upd H1 l (.lst xs)) l = some (.lst xs) := upd_same
  show _
  generalize hH2 : upd H1 l (.lst xs) = H2 at sl hl
  refine ⟨_, rfl, _, rfl, ?_⟩
  intro ys H3 s3 l3 g3
  refine ⟨by rw [l3]; decide, fun l2 nl2 => ?_⟩
  have s4 := same_new nl2 (.lst ys)
  refine ⟨l, l2, _, _, rfl, rfl, s4 _ _ (s3 _ _ hl), upd_same, by rw [l1, l3]; decide, fun l5 nl5 => ?_⟩
  have s5 := same_new nl5 (.lst (xs ++ ys))
  have sAll : Same H (upd (upd H3 l2 (.lst ys)) l5 (.lst (xs ++ ys))) := (((s1.trans sl).trans s3).trans s4).trans s5
  refine ⟨p, l5, xs ++ ys, b, rfl, hp.same sAll, hb, SqL.of upd_same, by rw [List.length_append, l1, l3]; decide, by rw [List.length_append, l1, l3]; decide, ?_, fun x H' hx but pot => ?_⟩
  · intro z
    have := ((s1.trans sl).trans s3).trans s4
    have hpp := hp.same this
    exact hpp.there (by rw [← z]; exact nl5)
  · refine q x H' ((But.of sAll).trans but) pot ?_
    have up : Same (mn H (upd (upd H3 l2 (.lst ys)) l5 (.lst (xs ++ ys)))) (mn H H') := mn_but but hp.there
    rcases List.mem_append.mp hx with hx | hx
    · exact (g1 x hx).same ((mn_up (((sl.trans s3).trans s4).trans s5)).trans up)
    · exact (g3 x hx).same (((mn_down (s1.trans sl)).trans (mn_up (s4.trans s5))).trans up)
end
end K56
namespace LG
open PySem PySem.Spec PyProof.Rows L2
section
variable {X : Cx}
/-- repr(x), x data whose text fits -/
def rReprB (K : PySem.W.Frag) : List V → Hp → VK → Prop := fun xs H Q => ∃ (v : V) (d : PyData), xs = [v] ∧ Dx K H v d ∧ d.showable = true ∧ d.depth ≤ 41 ∧ d.shown.length ≤ sizeLine ∧ Q (.str d.shown) H
theorem call_reprB (hg : X.A.guards = some []) (hu : X.A.units + 64 < cLine) : CallR X (.builtin "repr") (rReprB X.K) := by
  intro pins s σ H xs us Q I r h
  obtain ⟨v, d, rfl, hd, show_, deep, fits, q⟩ := h
  obtain ⟨u, rfl, ru⟩ := vals1 r
  obtain ⟨as, rd, sm⟩ := Dx_reads I hd ru
  cases rd with
  | none => exact PySem.P.repr_of_none ⟨.str _, H, I.tok _, ⟨_, rfl⟩, q⟩
  | bool b => 
    refine PySem.P.repr_of_bool ⟨.str _, H, I.tok _, ⟨_, rfl⟩, ?_⟩
    cases b <;> exact q
  | int i t => exact PySem.P.repr_of_int (of_decide_eq_true (by simpa only [PyData.showable] using show_)) ⟨.str _, H, I.tok _, ⟨_, rfl⟩, q⟩
  | str x t => exact PySem.P.repr_of_str ⟨.str _, H, I.tok _, ⟨_, rfl⟩, q⟩ fits
  | list a1 a2 a3 a4 => exact repr_of_reads' (.list a1 a2 a3 a4) show_ sm hg (by omega) (fun _ _ e => e) (fun h' w tk k => ⟨.str _, H, I.kept (t' := tk) k, ⟨w, rfl⟩, q⟩) fits
  | tuple a1 a2 a3 a4 => exact repr_of_reads' (.tuple a1 a2 a3 a4) show_ sm hg (by omega) (fun _ _ e => e) (fun h' w tk k => ⟨.str _, H, I.kept (t' := tk) k, ⟨w, rfl⟩, q⟩) fits
  | dict a1 a2 a3 a4 a5 => exact repr_of_reads' (.dict a1 a2 a3 a4 a5) show_ sm hg (by omega) (fun _ _ e => e) (fun h' w tk k => ⟨.str _, H, I.kept (t' := tk) k, ⟨w, rfl⟩, q⟩) fits
end
end LG
namespace LG
open PySem L2 LamX
theorem made {H1 H' : Hp} {x dx C : Addr} (nx : H1 x = none) (nd : H1 dx = none) (e : But x (upd (upd H1 dx (.own x)) x (.ins C dx [])) H') : Same H1 H' := fun b u q =>
  e b u (by rw [upd_ne (ne_of_none q nx), upd_ne (ne_of_none q nd)]; exact q) (ne_of_none q nx)
theorem text_fits {T : Str} (hT : T.length ≤ 100000) (hc : ∀ c ∈ TL.tl T, c < 128) : (PyData.str T).showable = true ∧ (PyData.str T).depth ≤ 41 ∧ (PyData.str T).shown.length ≤ sizeLine := by
  refine ⟨by simp only [PyData.showable], by simp only [PyData.depth]; omega, ?_⟩
  have h5 := PySem.StrLaws.reprText_len T (asc_16 hc)
  simp only [PyData.shown]
  rw [sizeLine_eq]
  omega
theorem int_fits {i : Int} (h : i.natAbs < 10 ^ 12) : (PyData.int i).showable = true ∧ (PyData.int i).depth ≤ 41 ∧ (PyData.int i).shown.length ≤ sizeLine := by
  refine ⟨by simp only [PyData.showable]; exact decide_eq_true (log2_small h), by simp only [PyData.depth]; omega, ?_⟩
  simp only [PyData.shown]
  have := int_small h
  rw [sizeLine_eq]
  omega
def namesD (ns : List Str) : PyData := .tuple (ns.map PyData.str)
theorem names_small {ns : List Str} (h : ∀ x ∈ ns, isNameB x = true) (hl : ns.length ≤ 20) : small 1 (namesD ns) = true := by
  have e : smalls 0 (ns.map PyData.str) = true := by
    clear hl
    induction ns with
    | nil => simp only [List.map_nil, smalls]
    | cons x r ih =>
      simp only [List.map_cons, smalls, name_small (h x List.mem_cons_self), ih fun y hy => h y (List.mem_cons_of_mem _ hy), Bool.and_self]
  unfold namesD
  simp only [small, e, List.length_map, decide_eq_true (show ns.length ≤ 25 by omega), Bool.and_self]
theorem strs_dp {K : PySem.W.Frag} {H : Hp} : ∀ (ns : List Str), DpAll K H (ns.map V.str) (ns.map PyData.str)
  | [] => .nil
  | x :: r => .cons (.str x) (strs_dp r)
theorem tup_ty {K : PySem.W.Frag} {H : Hp} {a : Addr} {xs : List V} (h : SqT K H a xs) : TyX K H (.ref a) (.type "tuple") := by
  rcases h with (h | ⟨o, h⟩) | ⟨o, its, n, h, c, _⟩
  · exact .base (.tup h)
  · exact .fTuple h
  · exact .kTuple h c
theorem goals_pos {C A S : List Str} : ∀ {ls : List Str} {n m : Nat} {g : Steps}, goalsFrom C A S ls n g = .inl m → 0 < m ∧ m ≤ n + ls.length
  | [], n, m, g, h => by cases h
  | l :: r, n, m, g, h => by
    have h : (match goalStep C A S g l with | none => .inl (n + 1) | some g' => goalsFrom C A S r (n + 1) g') = (.inl m : Sum Nat Steps) := h
    cases e : goalStep C A S g l with
    | none =>
      rw [e] at h
      cases h
      rw [List.length_cons]
      omega
    | some g' =>
      rw [e] at h
      have := goals_pos h
      rw [List.length_cons]
      omega
theorem heads_or (lines : List Str) : (∃ i, i < 3 ∧ (∀ j, j < i → headAt lines j ≠ []) ∧ headAt lines i = []) ∨ ∀ j, j < 3 → headAt lines j ≠ [] := by
  by_cases b0 : headAt lines 0 = []
  · exact .inl ⟨0, by decide, fun j hj => absurd hj (by omega), b0⟩
  by_cases b1 : headAt lines 1 = []
  · refine .inl ⟨1, by decide, fun j hj => ?_, b1⟩
    have : j = 0 := by omega
    rw [this]
    exact b0
  by_cases b2 : headAt lines 2 = []
  · refine .inl ⟨2, by decide, fun j hj => ?_, b2⟩
    rcases (show j = 0 ∨ j = 1 by omega) with rfl | rfl
    · exact b0
    · exact b1
  · refine .inr fun j hj => ?_
    rcases (show j = 0 ∨ j = 1 ∨ j = 2 by omega) with rfl | rfl | rfl
    · exact b0
    · exact b1
    · exact b2
theorem parse_pos {T : Str} {n : Nat} (h : parse T = .inl n) : 0 < n ∧ n ≤ (Txt.split T nl1).length + 4 := by
  rcases heads_or (Txt.split T nl1) with ⟨i, hi, ok, bad⟩ | ok
  · rw [parse_bad (readHeads_bad hi ok bad)] at h
    cases h
    omega
  · rw [parse_heads (readHeads_ok ok) (g := [])] at h
    by_cases b : (headAt (Txt.split T nl1) 2).contains BRK = true
    · rw [if_pos b] at h
      cases h
      omega
    · rw [if_neg b] at h
      unfold readGoals at h
      revert h
      generalize hr : goalsFrom (headAt (Txt.split T nl1) 0) (headAt (Txt.split T nl1) 1) (headAt (Txt.split T nl1) 2) ((Txt.split T nl1).drop 3) 3 [] = r
      cases r with
      | inl m =>
        intro e
        cases e
        have := goals_pos hr
        rw [List.length_drop] at this
        omega
      | inr g =>
        intro e
        cases e
theorem namesIn_tail {l h : Str} {a b : Int} (ne : LG.namesIn l h a b ≠ []) : LG.namesIn l h a b = (Txt.split l sp1).tail := by
  have e : LG.namesIn l h a b = if (Txt.split l sp1).headD Str.empty ≠ h ∨ ¬ (a ≤ ((Txt.split l sp1).tail.length : Int) ∧ ((Txt.split l sp1).tail.length : Int) ≤ b) then [] else if (uniq (Txt.split l sp1).tail).length < (Txt.split l sp1).tail.length ∨ ¬ ((Txt.split l sp1).tail.all isNameB = true) then [] else (Txt.split l sp1).tail := rfl
  by_cases c : (Txt.split l sp1).headD Str.empty ≠ h ∨ ¬ (a ≤ ((Txt.split l sp1).tail.length : Int) ∧ ((Txt.split l sp1).tail.length : Int) ≤ b)
  · rw [if_pos c] at e
    exact absurd e ne
  · rw [if_neg c] at e
    by_cases c2 : (uniq (Txt.split l sp1).tail).length < (Txt.split l sp1).tail.length ∨ ¬ ((Txt.split l sp1).tail.all isNameB = true)
    · rw [if_pos c2] at e
      exact absurd e ne
    · rw [if_neg c2] at e
      exact e
theorem headAt_line {lines : List Str} {i : Nat} (hi : i < 3) (ne : headAt lines i ≠ []) : ∃ l, lines[i]? = some l ∧ headAt lines i = (Txt.split l sp1).tail := by
  revert ne
  unfold headAt
  cases h : lines[i]? with
  | none =>
    intro ne
    exact absurd (by cases headsL[i]? <;> rfl) ne
  | some l =>
    match i, hi with
    | 0, _ => exact fun z => ⟨l, rfl, namesIn_tail z⟩
    | 1, _ => exact fun z => ⟨l, rfl, namesIn_tail z⟩
    | 2, _ => exact fun z => ⟨l, rfl, namesIn_tail z⟩
/-- what a text that is read tells of its first lines -/
theorem parse_inr {X : Str} {W : Wat} (h : parse X = .inr W) : ∃ l0 l1 l2 r, Txt.split X nl1 = l0 :: l1 :: l2 :: r ∧ (Txt.split l0 sp1).tail = W.calls ∧ (Txt.split l1 sp1).tail = W.answers ∧ (Txt.split l2 sp1).tail = W.marks ∧
    NmOk W.calls ∧ NmOk W.answers ∧ NmOk W.marks := by
  rcases heads_or (Txt.split X nl1) with ⟨i, hi, ok, bad⟩ | ok
  · rw [parse_bad (readHeads_bad hi ok bad)] at h
    cases h
  · rw [parse_heads (readHeads_ok ok) (g := [])] at h
    obtain ⟨l0, e0, t0⟩ := headAt_line (by decide) (ok 0 (by decide))
    obtain ⟨l1, e1, t1⟩ := headAt_line (by decide) (ok 1 (by decide))
    obtain ⟨l2, e2, t2⟩ := headAt_line (by decide) (ok 2 (by decide))
    have g0 := headAt_good (ok 0 (by decide))
    have g1 := headAt_good (ok 1 (by decide))
    have g2 := headAt_good (ok 2 (by decide))
    by_cases b : (headAt (Txt.split X nl1) 2).contains BRK = true
    · rw [if_pos b] at h
      cases h
    rw [if_neg b] at h
    have fin : ∀ {w : Wat}, w.calls = headAt (Txt.split X nl1) 0 → w.answers = headAt (Txt.split X nl1) 1 → w.marks = headAt (Txt.split X nl1) 2 → ∃ l0 l1 l2 r, Txt.split X nl1 = l0 :: l1 :: l2 :: r ∧ (Txt.split l0 sp1).tail = w.calls ∧ (Txt.split l1 sp1).tail = w.answers ∧ (Txt.split l2 sp1).tail = w.marks ∧
        NmOk w.calls ∧ NmOk w.answers ∧ NmOk w.marks := fun {w} h1 h2 h3 => by
      rw [h1, h2, h3]
      refine ⟨l0, l1, l2, (Txt.split X nl1).drop 3, ?_, t0.symm, t1.symm, t2.symm, g0, g1, g2⟩
      clear t0 t1 t2 g0 g1 g2 h b ok h1 h2 h3
      generalize Txt.split X nl1 = ls at e0 e1 e2 ⊢
      match ls, e0, e1, e2 with
      | x0 :: x1 :: x2 :: r, e0, e1, e2 =>
        cases e0
        cases e1
        cases e2
        rfl
    cases hR : readGoals (Txt.split X nl1) (headAt (Txt.split X nl1) 0) (headAt (Txt.split X nl1) 1) (headAt (Txt.split X nl1) 2) with
    | inl n =>
      rw [hR] at h
      cases h
    | inr g =>
      rw [hR] at h
      cases h
      exact fin rfl rfl rfl
/-- one look at Watch(v) by told -/
theorem told_watch {K : PySem.W.Frag} {mg : Str → Option Value} {fI B C CB : Addr} {T : List (Addr × Str)} {H : Hp} {v : V} {Q : VK} {tl : XK → Hp → VK → Prop} (eB : EQl K mg fI B "BadWatch" CB) (hT : Tabs T H)
    (run : ∀ (G : Hp) (E : XK) (R : VK), ExtN H G → (∀ n : Nat, parseV v = .inl n → ∀ d G', Same G G' → G d = none → G' d = some (.xd (vf (.int n))) → E (.ref CB) (some d) G') →
      (∀ X D x G', v = .str X → parse X = .inr D → Same G G' → DevAt K G' x C X D → R (.ref x) G') → tl E G R)
    (qb : ∀ (n : Nat) (cv : V) (p : Addr) (G : Hp), parseV v = .inl n → ExtN H G → Tabs T G → Caught G CB cv (.int n) → G p = some (.tup [cv, .non]) → Q (.ref p) G)
    (qo : ∀ (X : Str) (D : Wat) (x p : Addr) (G : Hp), v = .str X → parse X = .inr D → ExtN H G → Tabs T G → DevAt K G x C X D → G p = some (.tup [.non, .ref x]) → Q (.ref p) G) :
    Tabs T H ∧ ∀ H1, ExtN H H1 → Tabs T H1 → TTk K B tl H1 Q := by
  refine ⟨hT, fun H1 e1 T1 H2 E R s2 he hr => ?_⟩
  have e2 : ExtN H H2 := e1.trans (ExtN.of s2)
  have T2 : Tabs T H2 := T1.ext s2
  refine run H2 E R e2 (fun n hn d G' sG nd hd => ?_) fun X D x G' hv hp sG dv => ?_
  · refine he _ _ _ eB.box fun a na p np => ?_
    have s4 := same_new na (exq a (.ref CB) (some d))
    have s5 := same_new np (.tup [.ref a, V.non])
    have s35 := (sG.trans s4).trans s5
    exact qb n (.ref a) p _ hn (e2.trans (ExtN.of s35)) (T2.ext s35) ⟨a, d, rfl, s5 _ _ upd_same, (s4.trans s5) _ _ hd⟩ upd_same
  · refine hr _ _ fun p np => ?_
    have s5 := same_new np (.tup [V.non, .ref x])
    exact qo X D x p _ hv hp (e2.trans (ExtN.of (sG.trans s5))) (T2.ext (sG.trans s5)) (dv.same s5) upd_same
end LG
set_option Elab.async false
set_option linter.all false
set_option maxRecDepth 100000
set_option maxHeartbeats 2000000
/-! A drawn watch, as data. -/
namespace LG
open PySem L2
def poolM : List Str := ["m", "n", "idle", "on", "s0", "zz"]
theorem poolM_nd : poolM.Nodup := by decide +kernel
theorem poolM_w : ∀ x ∈ poolM, isNameB x = true := by
  have h : poolM.all isNameB = true := by decide +kernel
  exact List.all_eq_true.mp h
theorem poolM_nb : BRK ∉ poolM := by decide +kernel
/-- what the steps of a watch are like -/
def ValS (C A M : List Str) (g : Steps) : Prop := ∀ e ∈ g, e.1.1 ∈ M ∧ e.1.2.1 ∈ C ∧ e.1.2.2 ∈ A ∧ e.2 ∈ M ++ [BRK]
def putS (g : Steps) (k : Str × Str × Str) (x : Str) : Steps := if k ∈ g.map (·.1) then g.map fun e => if e.1 = k then (k, x) else e else g ++ [(k, x)]
theorem kvW_put (g : Steps) (k : Str × Str × Str) (x : Str) : putK (kvW g) (kT3 k) (.str x) = kvW (putS g k x) := by
  unfold putS
  by_cases h : k ∈ g.map (·.1)
  · rw [if_pos h]
    have any : ((kvW g).any fun kv => decide (kv.1 = kT3 k)) = true := by
      rw [List.any_eq_true]
      obtain ⟨e, he, e1⟩ := List.mem_map.mp h
      exact ⟨(kT3 e.1, .str e.2), List.mem_map.mpr ⟨e, he, rfl⟩, decide_eq_true (by rw [← e1])⟩
    unfold putK
    rw [if_pos any]
    unfold kvW
    rw [List.map_map, List.map_map]
    refine List.map_congr_left fun e _ => ?_
    show (if kT3 e.1 = kT3 k then (kT3 e.1, V.str x) else (kT3 e.1, V.str e.2)) = (kT3 (if e.1 = k then (k, x) else e).1, V.str (if e.1 = k then (k, x) else e).2)
    by_cases c : e.1 = k
    · rw [if_pos (kT3_inj.mpr c), if_pos c, c]
    · rw [if_neg (fun z => c (kT3_inj.mp z)), if_neg c]
  · rw [if_neg h, kvW_app]
    refine putK_new _ ?_
    rw [kvW_val]
    have : g.lookup k = none := by
      clear x
      induction g with
      | nil => rfl
      | cons e r ih =>
        obtain ⟨j, y⟩ := e
        have ne : ¬ k = j := fun z => h (by rw [z]; exact List.mem_cons_self)
        have nb : (k == j) = false := by simpa using ne
        have l : List.lookup k ((j, y) :: r) = List.lookup k r := by simp [List.lookup, nb]
        rw [l]
        exact ih fun z => h (List.mem_cons_of_mem _ z)
    rw [this]
    rfl
theorem putS_mem {g : Steps} {k : Str × Str × Str} {x : Str} : ∀ e ∈ putS g k x, e ∈ g ∨ e = (k, x) := by
  intro e he
  unfold putS at he
  by_cases h : k ∈ g.map (·.1)
  · rw [if_pos h] at he
    obtain ⟨f, hf, rfl⟩ := List.mem_map.mp he
    by_cases c : f.1 = k
    · rw [if_pos c]
      exact .inr rfl
    · rw [if_neg c]
      exact .inl hf
  · rw [if_neg h] at he
    rcases List.mem_append.mp he with he | he
    · exact .inl he
    · exact .inr (List.mem_singleton.mp he)
theorem putS_keys {g : Steps} {k : Str × Str × Str} {x : Str} (h : k ∈ g.map (·.1)) : (putS g k x).map (·.1) = g.map (·.1) := by
  unfold putS
  rw [if_pos h, List.map_map]
  refine List.map_congr_left fun e _ => ?_
  show (if e.1 = k then (k, x) else e).1 = e.1
  by_cases c : e.1 = k
  · rw [if_pos c, c]
  · rw [if_neg c]
theorem putS_nd {g : Steps} {k : Str × Str × Str} {x : Str} (h : (g.map (·.1)).Nodup) : ((putS g k x).map (·.1)).Nodup := by
  by_cases c : k ∈ g.map (·.1)
  · rw [putS_keys c]
    exact h
  · unfold putS
    rw [if_neg c, List.map_append, List.nodup_append]
    refine ⟨h, by simp, fun a ha b hb z => ?_⟩
    have hb : b = k := List.mem_singleton.mp hb
    rw [z, hb] at ha
    exact c ha
theorem putS_len {g : Steps} {k : Str × Str × Str} {x : Str} : (putS g k x).length ≤ g.length + 1 := by
  unfold putS
  by_cases c : k ∈ g.map (·.1)
  · rw [if_pos c, List.length_map]
    omega
  · rw [if_neg c, List.length_append]
    exact Nat.le_refl _
theorem putS_len2 {g : Steps} {k : Str × Str × Str} {x : Str} (h : k ∈ g.map (·.1)) : (putS g k x).length = g.length := by
  unfold putS
  rw [if_pos h, List.length_map]
theorem ValS.put {C A M : List Str} {g : Steps} {k : Str × Str × Str} {x : Str} (h : ValS C A M g) (v : k.1 ∈ M ∧ k.2.1 ∈ C ∧ k.2.2 ∈ A ∧ x ∈ M ++ [BRK]) : ValS C A M (putS g k x) := fun e he => by
  rcases putS_mem e he with he | rfl
  · exact h e he
  · exact v
/-- an own watch, drawn -/
structure DrawnW (W : Wat) : Prop where
  cn : W.calls.Nodup
  an : W.answers.Nodup
  mn : W.marks.Nodup
  c1 : 1 ≤ W.calls.length ∧ W.calls.length ≤ 3
  a1 : 2 ≤ W.answers.length ∧ W.answers.length ≤ 3
  m1 : 1 ≤ W.marks.length ∧ W.marks.length ≤ 4
  cw : ∀ x ∈ W.calls, isNameB x = true
  aw : ∀ x ∈ W.answers, isNameB x = true
  mw : ∀ x ∈ W.marks, isNameB x = true
  nb : BRK ∉ W.marks
  kn : (W.steps.map (·.1)).Nodup
  vals : ValS W.calls W.answers W.marks W.steps
  sl : W.steps.length ≤ 36
abbrev kvO (c a m r : Addr) : List (Key × V) := [(.inr ("calls" : Str), .ref c), (.inr ("answers" : Str), .ref a), (.inr ("marks" : Str), .ref m), (.inr ("steps" : Str), .ref r)]
def WatOwn (H : Hp) (o : Addr) (W : Wat) : Prop := ∃ c a m r, H o = some (.dK (kvO c a m r)) ∧ H c = some (.lst (W.calls.map V.str)) ∧ H a = some (.lst (W.answers.map V.str)) ∧ H m = some (.lst (W.marks.map V.str)) ∧ H r = some (.dT (kvW W.steps))
theorem WatOwn.same {H H' : Hp} {o : Addr} {W : Wat} (e : Same H H') (h : WatOwn H o W) : WatOwn H' o W := by
  obtain ⟨c, a, m, r, h1, h2, h3, h4, h5⟩ := h
  exact ⟨c, a, m, r, e _ _ h1, e _ _ h2, e _ _ h3, e _ _ h4, e _ _ h5⟩
/-- while the steps of a watch are drawn -/
structure WJ (p rr ms : Addr) (H G : Hp) (b : Nat) (C A M : List Str) (g : Steps) (n : Nat) : Prop where
  but : But p H G
  pot : PotAt G p (b + 2 * n)
  fm : G ms = some (.lst (M.map V.str))
  fr : G rr = some (.dT (kvW g))
  ok : ValS C A M g
  nd : (g.map (·.1)).Nodup
  len : g.length ≤ n
theorem WJ.mono {p rr ms : Addr} {H G : Hp} {b : Nat} {C A M : List Str} {g : Steps} {n m : Nat} (h : WJ p rr ms H G b C A M g n) (l : n ≤ m) : WJ p rr ms H G b C A M g m :=
  { h with pot := h.pot.mono (by omega), len := Nat.le_trans h.len l }
theorem WJ.go {p rr ms : Addr} {H G G' : Hp} {b : Nat} {C A M : List Str} {g : Steps} {n m : Nat} (h : WJ p rr ms H G b C A M g n) (nr : rr ≠ p) (nm : ms ≠ p) (e : But p G G') (pt : PotAt G' p (b + 2 * m)) (l : n ≤ m) : WJ p rr ms H G' b C A M g m :=
  ⟨h.but.trans e, pt, e _ _ h.fm nm, e _ _ h.fr nr, h.ok, h.nd, Nat.le_trans h.len l⟩
theorem WJ.put {p rr ms : Addr} {H G G' : Hp} {b : Nat} {C A M : List Str} {g : Steps} {n : Nat} {k : Str × Str × Str} {x : Str} (h : WJ p rr ms H G b C A M g n) (nr : rr ≠ p) (nm : ms ≠ p) (nrm : rr ≠ ms) (nH : H rr = none) (e : But p G G') (pt : PotAt G' p (b + 2 * (n + 1)))
    (v : k.1 ∈ M ∧ k.2.1 ∈ C ∧ k.2.2 ∈ A ∧ x ∈ M ++ [BRK]) : WJ p rr ms H (upd G' rr (.dT (putK (kvW g) (kT3 k) (.str x)))) b C A M (putS g k x) (n + 1) := by
  refine ⟨(h.but.trans e).put nH, ?_, by rw [upd_ne nrm.symm]; exact e _ _ h.fm nm, by rw [upd_same, kvW_put], h.ok.put v, putS_nd h.nd, ?_⟩
  · obtain ⟨own, sm, j, h1, h2⟩ := pt
    exact ⟨own, sm, j, by rw [upd_ne nr.symm]; exact h1, h2⟩
  · have := putS_len (g := g) (k := k) (x := x)
    have := h.len
    omega
theorem WJ.put2 {p rr ms : Addr} {H G G' : Hp} {b : Nat} {C A M : List Str} {g : Steps} {n : Nat} {k : Str × Str × Str} {x : Str} (h : WJ p rr ms H G b C A M g n) (nr : rr ≠ p) (nm : ms ≠ p) (nrm : rr ≠ ms) (nH : H rr = none) (e : Same G G')
    (hk : k ∈ g.map (·.1)) (v : k.1 ∈ M ∧ k.2.1 ∈ C ∧ k.2.2 ∈ A ∧ x ∈ M ++ [BRK]) : WJ p rr ms H (upd G' rr (.dT (putK (kvW g) (kT3 k) (.str x)))) b C A M (putS g k x) n := by
  refine ⟨(h.but.trans (But.of e)).put nH, ?_, by rw [upd_ne nrm.symm]; exact e _ _ h.fm, by rw [upd_same, kvW_put], h.ok.put v, putS_nd h.nd, ?_⟩
  · obtain ⟨own, sm, j, h1, h2⟩ := h.pot.same e
    exact ⟨own, sm, j, by rw [upd_ne nr.symm]; exact h1, h2⟩
  · rw [putS_len2 hk]
    exact h.len
theorem idx_str {ns : List Str} (nd : ns.Nodup) {x : Str} (h : x ∈ ns) : ∃ j, j < ns.length ∧ ns[j]? = some x ∧ ∀ (m : Nat) (z : V), m < j → (ns.map V.str)[m]? = some z → eqV z (.str x) = false := by
  obtain ⟨j, hj⟩ := List.getElem?_of_mem h
  refine ⟨j, (List.getElem?_eq_some_iff.mp hj).1, hj, fun m z hm hz => ?_⟩
  rw [List.getElem?_map] at hz
  cases e : ns[m]? with
  | none => rw [e] at hz; cases hz
  | some y =>
    rw [e] at hz
    cases hz
    show (y == x) = false
    obtain ⟨a1, a2⟩ := List.getElem?_eq_some_iff.mp e
    obtain ⟨b1, b2⟩ := List.getElem?_eq_some_iff.mp hj
    have ne : y ≠ x := fun z => by
      rw [← a2, ← b2] at z
      have := (List.getElem_inj nd).mp z
      omega
    simpa using ne
theorem cutF {p c : Option V → Hp → Steps → Prop} {d : Prop} (k : (∀ x G g, p x G g → c x G g) → d) (h : ∀ x G g, p x G g → c x G g) : d := k h
theorem last_of {M : List Str} (h : 0 < M.length) : ∃ M0 l, M = M0 ++ [l] := by
  have ne : M ≠ [] := List.length_pos_iff.mp h
  exact ⟨M.dropLast, M.getLast ne, (List.dropLast_concat_getLast ne).symm⟩
theorem unlock_same {K : PySem.W.Frag} {r : Addr} {G E : Hp} {u : HO} {o : Obj} (hr : G r = some u) (e : Same (upd G r (.frz o u)) E) : Same G (upd E r u) := fun b v h => by
  by_cases z : b = r
  · rw [z, hr] at h
    rw [z, upd_same, h]
  · rw [upd_ne z]
    exact e _ _ (by rw [upd_ne z]; exact h)
end LG
set_option Elab.async false
set_option linter.all false
set_option maxRecDepth 100000
set_option maxHeartbeats 1600000
/-! A watch is drawn. -/
namespace K56
open PySem L2 LG
section
variable {P : Program} {w : World} {K : PySem.W.Frag} {mg : Str → Option Value} {base : Heap}
def spWatch (K : PySem.W.Frag) : Sp := fun vs H Q _ => ∃ (p o : Addr) (b : Nat) (D : Dev), vs = [.ref p, .ref o] ∧ PotAt H p b ∧ b ≤ 50000 ∧ OwnAt K (mk p H) o D ∧ Drawn D ∧
  ∀ (o2 : Addr) (W : Wat) (H' : Hp), But p H H' → PotAt H' p (b + 100) → DrawnW W → (W.calls = D.calls ∧ W.answers = D.answers) → WatOwn (mk p H') o2 W → Q (.ref o2) H'
abbrev nWt : List Str := ["_law_pot_here", "_law_device", "_law_marks", "_law_steps", "_law_wild", "_law_at", "_law_mark", "_law_call", "_law_answer", "_law_mine", "_law_goal", "_law_goals", "_law_key"]
theorem scWt : FnScope nWt ["_law_pot_here", "_law_device"] (defScope sWatch) := ⟨rfl, rfl, rfl, by decide +kernel, rfl, by decide +kernel, by decide +kernel⟩
theorem ok_watch {f g1 g2 g3 : Addr} {fd gd1 gd2 gd3 : FuncData} (F : Fun K "_law_watch" "_law_watch" sWatch f fd) (T : Bltn mg)
    (GT : FnOk P w K mg base CX0 1 g1 gd1 ["_law_pot_here", "_law_upto"] spTake) (mT : mg "_law_take" = some (.ref g1)) (kT_ : PySem.W.keepIn K (.ref g1) = true) (bT : Binds K gd1 ["_law_pot_here", "_law_upto"] [])
    (GO : FnOk P w K mg base CX0 2 g2 gd2 ["_law_pot_here", "_law_some_here"] (spOf K)) (mO : mg "_law_of" = some (.ref g2)) (kO : PySem.W.keepIn K (.ref g2) = true) (bO : Binds K gd2 ["_law_pot_here", "_law_some_here"] [])
    (GS : FnOk P w K mg base CX0 2 g3 gd3 ["_law_pot_here", "_law_pool", "_law_many"] (spSome K)) (mS : mg "_law_some" = some (.ref g3)) (kS : PySem.W.keepIn K (.ref g3) = true) (bS : Binds K gd3 ["_law_pot_here", "_law_pool", "_law_many"] []) :
    FnOk P w K mg base CX0 3 f fd ["_law_pot_here", "_law_device"] (spWatch K) := by
  refine F.ok scWt (fun vs H Q E h => ?_) (fun cdv A0 outer st H vs Q E hr h => ?_)
  · obtain ⟨p, o, b, D, rfl, _⟩ := h
    rfl
  obtain ⟨p, o, b, D, rfl, hp, hb, hO, dr, q⟩ := h
  obtain ⟨c, a, s, r, kvs, h1, h2, h3, h4, h5, h6⟩ := hO.ex
  obtain ⟨npo, h1⟩ := mk_some h1
  obtain ⟨npc, h2⟩ := mk_some h2
  obtain ⟨npa, h3⟩ := mk_some h3
  obtain ⟨nps, h4⟩ := mk_some h4
  obtain ⟨npr, h5⟩ := mk_some h5
  have h6 : GR K H kvs D.goals := h6.same (mk_self p H)
  obtain ⟨c1, c3⟩ := dr.c1
  obtain ⟨a2, a3⟩ := dr.a1
  obtain ⟨s1, s4⟩ := dr.s1
  have dK := fun (x : Str) (G : Hp) (e : G o = some (.dK [(.inr ("calls" : Str), .ref c), (.inr ("answers" : Str), .ref a), (.inr ("states" : Str), .ref s), (.inr ("rows" : Str), .ref r)])) => DGet.k (k := Sum.inr x) e
  have hu := hu_of hr
  have r2 : Room 2 _ := hr.mono (by decide)
  have r1 : Room 1 _ := hr.mono (by decide)
  refine' ⟨_, pss_cons ?marks (pss_cons ?two (pss_cons
      (ps_for PassesOwn.never rfl (pi_enum rfl T.enumerate (pa_cons (pv 2) pa_nil)) (pg_tup rfl (pgs_cons (pg_name (i := 5) scWt.nd rfl (Or.inl rfl)) (pgs_cons (pg_name (i := 6) scWt.nd rfl (Or.inl rfl)) pgs_nil)))
        (pss_one (ps_for PassesOwn.never rfl (pi_list (pe_dget hu (pv 1) pe_str (fun _ _ => rfl))) (pg_name (i := 7) scWt.nd rfl (Or.inl rfl))
          (pss_one (ps_for PassesOwn.never rfl (pi_list (pe_dget hu (pv 1) pe_str (fun _ _ => rfl))) (pg_name (i := 8) scWt.nd rfl (Or.inl rfl))
            (pss_one (ps_if ?test (pss_one (ps_if ?flip (pss_one ?put1) pss_nil)) (pss_cons ?mg (pss_cons ?gl (pss_cons ?gl2 (pss_one ?put2))))))))))) 
    (pss_cons (ps_if ?third (pss_one (ps_for PassesOwn.never rfl (pi_list ?keys) (pg_name (i := 12) scWt.nd rfl (Or.inl rfl)) (pss_one ?put3))) pss_nil)
    (pss_one (ps_ret (pe_disp (pps_cons pe_str (pe_dget hu (pv 1) pe_str (fun _ _ => rfl)) (pps_cons pe_str (pe_dget hu (pv 1) pe_str (fun _ _ => rfl)) (pps_cons pe_str (pv 2) (pps_cons pe_str (pv 3) pps_nil)))) (by rfl) (by rfl) (fun z => by cases z) (by show 4 ≤ 15; decide))))))), ?main⟩
  case marks =>
    exact ps_set (i := 2) scWt.nd rfl (Or.inr rfl) (pe_call GS r2 rfl mS kS bS .nil pass0 (pa_cons (pv 0) (pa_cons (pe_lst (pa_cons pe_str (pa_cons pe_str (pa_cons pe_str (pa_cons pe_str (pa_cons pe_str (pa_cons pe_str pa_nil)))))))
      (pa_cons (pe_callB (call_max2 rfl) rfl T.max (by decide +kernel) (pa_cons (pe_callB call_len_seq rfl T.len PySem.boot_len (pa_cons (pe_dget hu (pv 1) pe_str (fun _ _ => rfl)) pa_nil)) (pa_cons (pe_op op_add pe_int (pe_call GT r1 rfl mT kT_ bT .nil pass0 (pa_cons (pv 0) (pa_cons pe_int pa_nil)))) pa_nil))) pa_nil))))
  case two =>
    exact ps_par (i := 3) (j := 4) rfl scWt.nd rfl rfl (by decide) rfl rfl (pa_cons pe_dnewT (pa_cons (pe_call GT r1 rfl mT kT_ bT .nil pass0 (pa_cons (pv 0) (pa_cons pe_int pa_nil))) pa_nil)) (by rfl)
  case test =>
    exact PW.pt (pw_or (pt_cmpR op_eq (pv 4) pe_int (nomark _)) (pw_or1 (pt_cmpR op_ge (pv 5) (pe_callB call_len_seq rfl T.len PySem.boot_len (pa_cons (pe_dget hu (pv 1) pe_str (fun _ _ => rfl)) pa_nil)) (nomark _))))
  case flip => exact pt_cmpR op_eq (pe_call GT r1 rfl mT kT_ bT .nil pass0 (pa_cons (pv 0) (pa_cons pe_int pa_nil))) pe_int (nomark _)
  case put1 =>
    exact ps_dput hu (pv 3) (pe_tup (pa_cons (pv 6) (pa_cons (pv 7) (pa_cons (pv 8) pa_nil)))) (pe_call GO r2 rfl mO kO bO .nil pass0 (pa_cons (pv 0) (pa_cons (pe_op op_cat (pe_op op_cat (pv 2) (pv 2)) (pe_lst (pa_cons pe_str pa_nil))) pa_nil))) rfl
  case mg =>
    exact ps_asg (pe_dget hu (pe_dget hu (pv 1) pe_str (fun _ _ => rfl)) (pe_tup (pa_cons (pe_ix ix_list (pe_dget hu (pv 1) pe_str (fun _ _ => rfl)) (pv 5) (fun _ _ => rfl)) (pa_cons (pv 7) pa_nil))) (fun _ _ => rfl)) (pg_tup rfl (pgs_cons (pg_name (i := 9) scWt.nd rfl (Or.inl rfl)) (pgs_cons (pg_name (i := 10) scWt.nd rfl (Or.inl rfl)) pgs_nil)))
  case gl =>
    exact ps_set (i := 11) scWt.nd rfl (Or.inl rfl) (pe_op op_cat (pe_op op_rep (pe_lst (pa_cons (pe_ix ix_list (pv 2) (pe_bm PySem.F.plainAttrs_list PySem.F.slot_list_index PySem.F.type_list_index mt_index (pe_dget hu (pv 1) pe_str (fun _ _ => rfl)) (pa_cons (pv 10) pa_nil)) (fun _ _ => rfl)) pa_nil)) pe_int) (pe_lst (pa_cons (pv 6) pa_nil)))
  case gl2 =>
    exact ps_set (i := 11) scWt.nd rfl (Or.inl rfl) (pe_ifExp (pt_cmpR op_eq (pv 9) (pv 8) (nomark _)) (pv 11) (pe_lst (pa_cons pe_str (pa_cons pe_str (pa_cons (pv 6) pa_nil)))))
  case put2 =>
    exact ps_dput hu (pv 3) (pe_tup (pa_cons (pv 6) (pa_cons (pv 7) (pa_cons (pv 8) pa_nil)))) (pe_call GO r2 rfl mO kO bO .nil pass0 (pa_cons (pv 0) (pa_cons (pv 11) pa_nil))) rfl
  case third => exact pt_cmpR op_eq (pe_call GT r1 rfl mT kT_ bT .nil pass0 (pa_cons (pv 0) (pa_cons pe_int pa_nil))) pe_int (nomark _)
  case keys =>
    exact pe_lock (pe_lc (te := tVar 12) (tt := tTest (tOp rEq (tOp (rIxT K) (tVar 12) (tC (.int 0))) (tOp (rIxL K) (tVar 2) (tUn (rU fun i => .int (-i)) (tC (.int 1)))))) (own := [("_law_key", 12)]) (g := gName 12) rfl scWt.nd (pi_keys (pv 3)) (blkOk_by (own := [("_law_key", 12)]) (N := nWt) (sc := defScope sWatch) (by decide +kernel))
      (fun _ _ _ _ _ => pg_name (i := 12) scWt.nd rfl (Or.inl rfl)) (fun _ _ _ _ _ => by exact pts_one (pt_cmpR op_eq (pe_ix ix_tup (pv 12) pe_int (fun _ _ => rfl)) (pe_ix ix_list (pv 2) (pe_un un_neg pe_int) (fun _ _ => rfl)) (nomark _))) (fun _ _ _ _ _ => pv 12))
  case put3 => exact ps_dput hu (pv 3) (pv 12) (pe_ix ix_list (pv 2) (pe_un un_neg pe_int) (fun _ _ => rfl)) rfl
  case main =>
    have lne : ∀ {G : Hp} {l : Addr} {b : Nat}, PotAt G p b → G l = none → l ≠ p := fun hp' nl z => hp'.there (by rw [← z]; exact nl)
    -- the marks
    refine ⟨_, rfl, (by show 6 ≤ sizeLine; decide), fun l1 nl1 => ?_⟩
    have u1 := same_new nl1 (.lst (poolM.map V.str))
    have hl1 : (upd H l1 (.lst (poolM.map V.str))) l1 = some (.lst (poolM.map V.str)) := upd_same
    have eu : upd H l1 (.lst [.str "m", .str "n", .str "idle", .str "on", .str "s0", .str "zz"]) = upd H l1 (.lst (poolM.map V.str)) := rfl
    rw [eu]
    have nl1p := lne hp nl1
    show _
    generalize upd H l1 (.lst (poolM.map V.str)) = H1 at u1 hl1 ⊢
    clear eu
    refine ⟨_, rfl, o, _, rfl, dK "states" H1 (u1 _ _ h1), s, _, rfl, .inl (SqL.of (u1 _ _ h4)), _, rfl, p, 4, b, rfl, hp.same u1, by omega, by decide, by decide, fun k H2 k0 k4 but2 pot2 => ⟨_, _, rfl, rfl, _, _, rfl, ?_⟩⟩
    obtain ⟨k', rfl⟩ := Int.eq_ofNat_of_zero_le k0
    obtain ⟨m, em, m1, m4⟩ : ∃ m : Nat, (if (1 : Int) + ((k' : Nat) : Int) > ((D.states.map V.str).length : Int) then (1 : Int) + ((k' : Nat) : Int) else ((D.states.map V.str).length : Int)) = ((m : Nat) : Int) ∧ D.states.length ≤ m ∧ m ≤ 4 := by
      rw [List.length_map]
      by_cases c : (1 : Int) + ((k' : Nat) : Int) > (D.states.length : Int)
      · rw [if_pos c]
        exact ⟨1 + k', by omega, by omega, by omega⟩
      · rw [if_neg c]
        exact ⟨D.states.length, rfl, Nat.le_refl _, s4⟩
    rw [em]
    have hl2 := but2 _ _ hl1 nl1p
    have b2 : But p H H2 := (But.of u1).trans but2
    refine ⟨p, l1, m, b + 1, poolM.map V.str, rfl, pot2, by omega, SqL.of hl2, nl1p, by show m ≤ 6; omega, by show 6 ≤ 1000; decide, fun ms ys H3 but3 pot3 nms npms hms lys pm => ?_⟩
    obtain ⟨zs, pm⟩ := pm
    obtain ⟨M, rfl, ndM, memM⟩ := some_txt pm poolM_nd
    rw [List.length_map] at lys
    have b3 : But p H H3 := b2.trans but3
    have nms0 : H ms = none := by
      cases e : H ms with
      | none => rfl
      | some u =>
        have := b2 _ _ e npms
        rw [nms] at this
        cases this
    clear hl2 hl1 but2 but3 pot2 b2 u1 em k0 k4 nl1 nl1p pm nms
    -- the steps
    intro rr nrr
    have u4 := same_new nrr (.dT [])
    have hrr : (upd H3 rr (.dT [])) rr = some (.dT (kvW [])) := upd_same
    have nrp := lne pot3 nrr
    have nrms : rr ≠ ms := (ne_of_none hms nrr).symm
    have nrr0 : H rr = none := by
      cases e : H rr with
      | none => rfl
      | some u =>
        have := b3 _ _ e nrp
        rw [nrr] at this
        cases this
    have b4 : But p H (upd H3 rr (.dT [])) := b3.trans (But.of u4)
    have hms4 := u4 _ _ hms
    have pot4 := pot3.same u4
    show _
    generalize upd H3 rr (.dT []) = H4 at hrr b4 hms4 pot4 ⊢
    clear u4 pot3 b3 nrr hms
    refine ⟨_, rfl, p, 3, b + 1 + m, rfl, pot4, by omega, by decide, by decide, fun kw H5 _ _ but5 pot5 => ⟨_, _, rfl, ?_⟩⟩
    have W5 : WJ p rr ms H H5 (b + 1 + m + 1) D.calls D.answers M [] (9 * 0) := ⟨b4.trans but5, pot5.mono (by omega), but5 _ _ hms4 npms, but5 _ _ hrr nrp, (fun _ h => nomatch h), List.nodup_nil, Nat.zero_le _⟩
    clear b4 but5 hms4 hrr pot4 pot5
    generalize hB : b + 1 + m + 1 = B at W5
    have ml4 : M.length ≤ 4 := by omega
    have rd : ∀ {G : Hp}, But p H G → G o = some (.dK [(.inr ("calls" : Str), .ref c), (.inr ("answers" : Str), .ref a), (.inr ("states" : Str), .ref s), (.inr ("rows" : Str), .ref r)]) ∧ G c = some (.lst (D.calls.map V.str)) ∧ G a = some (.lst (D.answers.map V.str)) ∧ G s = some (.lst (D.states.map V.str)) ∧ G r = some (.dT kvs) ∧ GR K G kvs D.goals := fun e =>
      ⟨e _ _ h1 npo, e _ _ h2 npc, e _ _ h3 npa, e _ _ h4 nps, e _ _ h5 npr, h6.butp e hp⟩
    refine ⟨_, rfl, ms, _, rfl, SqL.of W5.fm, ?_⟩
    refine for_enumL (xs := M.map V.str) (fun i σ G => ∃ x5 x6 x7 x8 x9 x10 x11 x12 g, σ = [some (.ref p), some (.ref o), some (.ref ms), some (.ref rr), some (.int kw), x5, x6, x7, x8, x9, x10, x11, x12] ∧ WJ p rr ms H G B D.calls D.answers M g (9 * i))
      ⟨_, _, _, _, _, _, _, _, [], rfl, W5⟩ (fun i σ G ⟨_, _, _, _, _, _, _, _, _, _, w⟩ => SqL.of w.fm) ?_ ?_
    · rintro i x T1 σ G hx ⟨x5, x6, x7, x8, x9, x10, x11, x12, g, rfl, WG⟩ nT
      have hi : i < M.length := by
        have := (List.getElem?_eq_some_iff.mp hx).1
        simpa using this
      rw [List.getElem?_map, List.getElem?_eq_getElem hi] at hx
      have ex : x = .str M[i] := (Option.some.inj hx).symm
      subst ex
      have mm : M[i] ∈ M := List.getElem_mem hi
      generalize M[i] = mi at mm nT ⊢
      have sT := same_new nT (.tup [.int (i : Nat), .str mi])
      have hT : (upd G T1 (.tup [.int (i : Nat), .str mi])) T1 = some (.tup [.int (i : Nat), .str mi]) := upd_same
      show _
      generalize upd G T1 (.tup [.int (i : Nat), .str mi]) = G1 at sT hT ⊢
      have W1 := WG.go nrp npms (But.of sT) (WG.pot.same sT) (Nat.le_refl _)
      refine ⟨T1, _, rfl, .inl (.inl hT), rfl, _, _, rfl, _, _, rfl, rfl, ?_⟩
      obtain ⟨ro, rc, ra, rs, rrw, rg⟩ := rd W1.but
      refine ⟨_, rfl, o, _, rfl, dK "calls" G1 ro, c, rfl, ⟨_, SqL.of rc⟩, ?_⟩
      clear ro rc ra rs rrw rg hT sT nT WG
      refine for_list (xs := D.calls.map V.str) (fun j σ G => ∃ x7 x8 x9 x10 x11 x12 g, σ = [some (.ref p), some (.ref o), some (.ref ms), some (.ref rr), some (.int kw), some (.int (i : Nat)), some (.str mi), x7, x8, x9, x10, x11, x12] ∧ WJ p rr ms H G B D.calls D.answers M g (9 * i + 3 * j))
        ⟨_, _, _, _, _, _, g, rfl, W1⟩ (fun j σ G _ ⟨_, _, _, _, _, _, _, _, w⟩ => SqL.of (rd w.but).2.1) ?_ ?_
      · rintro j y σ G hy ⟨x7, x8, x9, x10, x11, x12, g, rfl, WG⟩
        have hj : j < D.calls.length := by
          have := (List.getElem?_eq_some_iff.mp hy).1
          simpa using this
        rw [List.getElem?_map, List.getElem?_eq_getElem hj] at hy
        have ey : y = .str D.calls[j] := (Option.some.inj hy).symm
        subst ey
        have mc : D.calls[j] ∈ D.calls := List.getElem_mem hj
        generalize D.calls[j] = cj at mc ⊢
        obtain ⟨ro, rc, ra, rs, rrw, rg⟩ := rd WG.but
        refine ⟨_, rfl, o, _, rfl, dK "answers" G ro, a, rfl, ⟨_, SqL.of ra⟩, ?_⟩
        clear ro rc ra rs rrw rg
        refine for_list (xs := D.answers.map V.str) (fun l σ G => ∃ x8 x9 x10 x11 x12 g, σ = [some (.ref p), some (.ref o), some (.ref ms), some (.ref rr), some (.int kw), some (.int (i : Nat)), some (.str mi), some (.str cj), x8, x9, x10, x11, x12] ∧ WJ p rr ms H G B D.calls D.answers M g (9 * i + 3 * j + l))
          ⟨_, _, _, _, _, g, rfl, WG⟩ (fun l σ G _ ⟨_, _, _, _, _, _, _, w⟩ => SqL.of (rd w.but).2.2.1) ?_ ?_
        · rintro l z σ G hz ⟨x8, x9, x10, x11, x12, g, rfl, WG⟩
          have hl : l < D.answers.length := by
            have := (List.getElem?_eq_some_iff.mp hz).1
            simpa using this
          rw [List.getElem?_map, List.getElem?_eq_getElem hl] at hz
          have ez : z = .str D.answers[l] := (Option.some.inj hz).symm
          subst ez
          have ma : D.answers[l] ∈ D.answers := List.getElem_mem hl
          generalize D.answers[l] = al at ma ⊢
          have n36 : 9 * i + 3 * j + l ≤ 36 := by omega
          have en : 9 * i + 3 * j + (l + 1) = 9 * i + 3 * j + l + 1 := rfl
          rw [en]
          generalize 9 * i + 3 * j + l = n at WG n36 ⊢
          obtain ⟨ro, rc, ra, rs, rrw, rg⟩ := rd WG.but
          have key : ∀ {x : Str}, x ∈ M ++ [BRK] → (mi, cj, al).1 ∈ M ∧ (mi, cj, al).2.1 ∈ D.calls ∧ (mi, cj, al).2.2 ∈ D.answers ∧ x ∈ M ++ [BRK] := fun h => ⟨mm, mc, ma, h⟩
          refine ⟨_, rfl, rfl, _, rfl, ?_⟩
          refine' cutG (p := True) (fun go => ?k) (fun _ => ?hh)
          case k =>
            refine ite2 (fun _ => iteT (go trivial)) (fun c4 => ?_)
            refine ⟨_, rfl, _, rfl, o, _, rfl, dK "states" G ro, s, _, rfl, .inl (SqL.of rs), _, _, rfl, rfl, _, rfl, ite2 (fun _ => go trivial) (fun c5 => ?_)⟩
            rw [List.length_map] at c5
            have hi5 : i < D.states.length := Nat.lt_of_not_le fun z => c5 (decide_eq_true (by omega))
            have his : D.states[i] ∈ D.states := List.getElem_mem hi5
            have hix : D.states[i]? = some D.states[i] := List.getElem?_eq_getElem hi5
            generalize D.states[i] = si at his hix
            refine ⟨_, rfl, o, _, rfl, dK "rows" G ro, _, rfl, o, _, rfl, dK "states" G ro, _, rfl, s, _, _, .str si, rfl, rfl, SqL.of rs, atI_nat (by rw [List.getElem?_map, hix]; rfl), _, rfl, (by show 2 ≤ sizeLine; decide), fun tk ntk => ?_⟩
            have v1 := same_new ntk (.tup [V.str si, .str cj])
            have htk : (upd G tk (.tup [V.str si, .str cj])) tk = some (.tup ((kT (si, cj)).map kV)) := upd_same
            show _
            generalize upd G tk (.tup [V.str si, .str cj]) = G1 at v1 htk ⊢
            have hk : (si, cj) ∈ D.goals.map (·.1) := by
              rw [dr.keys]
              exact prod_mem.mpr ⟨his, mc⟩
            obtain ⟨x, lx⟩ := lookup_some hk
            have vx := dr.vals _ (lookup_mem lx)
            rcases (rg.same v1).val (si, cj) with ⟨l1, _⟩ | ⟨x2, t2, l1, l2, l3⟩
            · rw [l1] at lx
              cases lx
            rw [lx] at l1
            cases l1
            have dg : DGet G1 r (.ref tk) (valV kvs (kT (si, cj))) := DGet.t (v1 _ _ rrw) htk
            rw [l2] at dg
            refine ⟨r, _, rfl, dg, t2, _, rfl, l3, rfl, _, _, rfl, _, _, rfl, rfl, ?_⟩
            have W1 := WG.go nrp npms (But.of v1) (WG.pot.same v1) (Nat.le_refl _)
            obtain ⟨ro1, _, _, rs1, _, _⟩ := rd W1.but
            obtain ⟨jg, hj1, hj2, hj3⟩ := idx_str dr.sn vx.2
            have hjm : jg < M.length := by omega
            have hgm : M[jg] ∈ M := List.getElem_mem hjm
            have hgx : M[jg]? = some M[jg] := List.getElem?_eq_getElem hjm
            generalize M[jg] = gm at hgm hgx
            clear ro rc ra rs rrw rg v1 htk ntk dg l2 l3 WG
            refine ⟨_, rfl, _, rfl, o, _, rfl, dK "states" G1 ro1, .inl ⟨rfl, _, SqL.of rs1⟩, _, rfl, s, _, _, jg, .str x.2, rfl, rfl, SqL.of rs1, rfl, L2.flat_strs _, by rw [List.getElem?_map, hj2]; rfl, (by show (x.2 == x.2) = true; simp), hj3, ms, _, _, .str gm, rfl, rfl, SqL.of W1.fm, atI_nat (by rw [List.getElem?_map, hgx]; rfl), (by show 1 ≤ sizeLine; decide), fun q1 nq1 => ?_⟩
            have v1 := same_new nq1 (.lst [V.str gm])
            have hq1 : (upd G1 q1 (.lst [V.str gm])) q1 = some (.lst [V.str gm]) := upd_same
            show _
            generalize upd G1 q1 (.lst [V.str gm]) = G2 at v1 hq1 ⊢
            refine ⟨q1, 12, _, rfl, rfl, hq1, by decide, by decide, (by show 12 ≤ sizeLine; decide), fun q2 nq2 => ?_⟩
            have v2 := same_new nq2 (.lst ((List.replicate 12 gm).map V.str))
            have hq2 : (upd G2 q2 (.lst ((List.replicate 12 gm).map V.str))) q2 = some (.lst ((List.replicate 12 gm).map V.str)) := upd_same
            have eu : upd G2 q2 (.lst (List.replicate (12 : Int).toNat [V.str gm]).flatten) = upd G2 q2 (.lst ((List.replicate 12 gm).map V.str)) := rfl
            rw [eu]
            show _
            generalize upd G2 q2 (.lst ((List.replicate 12 gm).map V.str)) = G3 at v2 hq2 ⊢
            clear eu
            refine ⟨_, rfl, (by show 1 ≤ sizeLine; decide), fun q3 nq3 => ?_⟩
            have v3 := same_new nq3 (.lst [V.str mi])
            have hq3 : (upd G3 q3 (.lst [V.str mi])) q3 = some (.lst [V.str mi]) := upd_same
            show _
            generalize upd G3 q3 (.lst [V.str mi]) = G4 at v3 hq3 ⊢
            refine ⟨q2, q3, _, _, rfl, rfl, v3 _ _ hq2, hq3, (by show 13 ≤ sizeLine; decide), fun q4 nq4 => ?_⟩
            have v4 := same_new nq4 (.lst ((List.replicate 12 gm ++ [mi]).map V.str))
            have hq4 : (upd G4 q4 (.lst ((List.replicate 12 gm ++ [mi]).map V.str))) q4 = some (.lst ((List.replicate 12 gm ++ [mi]).map V.str)) := upd_same
            have eu : upd G4 q4 (.lst ((List.replicate 12 gm).map V.str ++ [V.str mi])) = upd G4 q4 (.lst ((List.replicate 12 gm ++ [mi]).map V.str)) := rfl
            rw [eu]
            show _
            generalize upd G4 q4 (.lst ((List.replicate 12 gm ++ [mi]).map V.str)) = G5 at v4 hq4 ⊢
            clear eu
            have v14 := ((v1.trans v2).trans v3).trans v4
            have W5 := W1.go nrp npms (But.of v14) (W1.pot.same v14) (Nat.le_refl _)
            have mem4 : ∀ y ∈ List.replicate 12 gm ++ [mi], y ∈ M ++ [BRK] := fun y hy => by
              rcases List.mem_append.mp hy with hy | hy
              · rw [List.eq_of_mem_replicate hy]
                exact List.mem_append_left _ hgm
              · rw [List.mem_singleton.mp hy]
                exact List.mem_append_left _ mm
            have len4 : (List.replicate 12 gm ++ [mi]).length = 13 := rfl
            have nq4p : q4 ≠ p := fun z => (W1.pot.same ((v1.trans v2).trans v3)).there (by rw [← z]; exact nq4)
            generalize List.replicate 12 gm ++ [mi] = L4 at hq4 mem4 len4
            clear v1 v2 v3 v4 v14 hq1 hq2 hq3 nq1 nq2 nq3 nq4 W1 ro1 rs1
            refine ⟨_, rfl, _, rfl, rfl, _, rfl, ite2 (fun _ => ?a) (fun _ => ?b)⟩
            case' a =>
              refine ⟨_, rfl, ?_⟩
              have Wz := W5
              have hz := hq4
              have memz := mem4
              have lz : 0 < L4.length ∧ L4.length ≤ 1000 := by omega
              have nzp := nq4p
            case' b =>
              refine ⟨_, rfl, (by show 3 ≤ sizeLine; decide), fun q5 nq5 => ?_⟩
              have v5 := same_new nq5 (.lst (([BRK, BRK, mi] : List Str).map V.str))
              have hz : (upd G5 q5 (.lst (([BRK, BRK, mi] : List Str).map V.str))) q5 = some (.lst (([BRK, BRK, mi] : List Str).map V.str)) := upd_same
              have eu : upd G5 q5 (.lst [.str "broken", .str "broken", V.str mi]) = upd G5 q5 (.lst (([BRK, BRK, mi] : List Str).map V.str)) := rfl
              rw [eu]
              have nzp : q5 ≠ p := fun z => W5.pot.there (by rw [← z]; exact nq5)
              show _
              generalize upd G5 q5 (.lst (([BRK, BRK, mi] : List Str).map V.str)) = G6 at v5 hz ⊢
              have Wz := W5.go nrp npms (But.of v5) (W5.pot.same v5) (Nat.le_refl _)
              have memz : ∀ y ∈ ([BRK, BRK, mi] : List Str), y ∈ M ++ [BRK] := fun y hy => by
                simp only [List.mem_cons, List.not_mem_nil, or_false] at hy
                rcases hy with rfl | rfl | rfl
                · exact List.mem_append_right _ List.mem_cons_self
                · exact List.mem_append_right _ List.mem_cons_self
                · exact List.mem_append_left _ mm
              have lz : 0 < ([BRK, BRK, mi] : List Str).length ∧ ([BRK, BRK, mi] : List Str).length ≤ 1000 := ⟨by show 0 < 3; decide, by show 3 ≤ 1000; decide⟩
              generalize ([BRK, BRK, mi] : List Str) = L5 at hz memz lz
              clear eu v5
            all_goals
              refine ⟨_, rfl, _, rfl, p, _, _, _, rfl, Wz.pot, by omega, SqL.of hz, by rw [List.length_map]; exact lz.1, by rw [List.length_map]; exact lz.2, nzp, fun xv G7 hxv but7 pot7 => ?_⟩
              obtain ⟨xs, hxs, rfl⟩ := List.mem_map.mp hxv
              refine ⟨_, rfl, _, rfl, _, rfl, _, rfl, (by show 3 ≤ sizeLine; decide), fun tk2 ntk2 => ?_⟩
              have v8 := same_new ntk2 (.tup [.str mi, .str cj, .str al])
              have htk2 : (upd G7 tk2 (.tup [.str mi, .str cj, .str al])) tk2 = some (.tup ((kT3 (mi, cj, al)).map kV)) := upd_same
              show _
              generalize upd G7 tk2 (.tup [.str mi, .str cj, .str al]) = G8 at v8 htk2 ⊢
              have b8 := but7.trans (But.of v8)
              refine ⟨rr, _, rfl, DPut.t (b8 _ _ Wz.fr nrp) htk2 (by rw [kvW_len, sizeLine_eq]; have := Wz.len; omega), ?_⟩
              exact ⟨_, _, _, _, _, _, rfl, Wz.put nrp npms nrms nrr0 b8 ((pot7.same v8).mono (by omega)) (key (memz _ hxs))⟩
          case hh =>
            refine ⟨_, rfl, p, 2, _, rfl, WG.pot, by omega, by decide, by decide, fun k2 G1 _ _ but1 pot1 => ⟨rfl, _, rfl, ?_⟩⟩
            have W1 := WG.go nrp npms but1 (m := n + 1) (pot1.mono (by omega)) (by omega)
            refine ite2 (fun _ => ?_) (fun _ => ⟨_, _, _, _, _, g, rfl, W1⟩)
            refine ⟨_, rfl, _, rfl, _, rfl, ms, ms, _, _, rfl, rfl, W1.fm, W1.fm, by rw [List.length_map, sizeLine_eq]; omega, fun q1 nq1 => ?_⟩
            have v1 := same_new nq1 (.lst (M.map V.str ++ M.map V.str))
            have hq1 : (upd G1 q1 (.lst (M.map V.str ++ M.map V.str))) q1 = some (.lst (M.map V.str ++ M.map V.str)) := upd_same
            show _
            generalize upd G1 q1 (.lst (M.map V.str ++ M.map V.str)) = G2 at v1 hq1 ⊢
            refine ⟨(by show 1 ≤ sizeLine; decide), fun q2 nq2 => ?_⟩
            have v2 := same_new nq2 (.lst [V.str BRK])
            have hq2 : (upd G2 q2 (.lst [V.str BRK])) q2 = some (.lst [V.str BRK]) := upd_same
            have eu : upd G2 q2 (.lst [V.str "broken"]) = upd G2 q2 (.lst [V.str BRK]) := rfl
            rw [eu]
            show _
            generalize upd G2 q2 (.lst [V.str BRK]) = G3 at v2 hq2 ⊢
            clear eu
            refine ⟨q1, q2, _, _, rfl, rfl, v2 _ _ hq1, hq2, by rw [List.length_append, List.length_map, sizeLine_eq]; show _ + 1 ≤ _; omega, fun q3 nq3 => ?_⟩
            have eL : M.map V.str ++ M.map V.str ++ [V.str BRK] = (M ++ M ++ [BRK]).map V.str := by rw [List.map_append, List.map_append]; rfl
            rw [eL]
            have v3 := same_new nq3 (.lst ((M ++ M ++ [BRK]).map V.str))
            have hq3 : (upd G3 q3 (.lst ((M ++ M ++ [BRK]).map V.str))) q3 = some (.lst ((M ++ M ++ [BRK]).map V.str)) := upd_same
            have nzp : q3 ≠ p := fun z => (pot1.same (v1.trans v2)).there (by rw [← z]; exact nq3)
            show _
            generalize upd G3 q3 (.lst ((M ++ M ++ [BRK]).map V.str)) = G4 at v3 hq3 ⊢
            have v13 := (v1.trans v2).trans v3
            refine ⟨p, q3, _, _, rfl, pot1.same v13, by omega, SqL.of hq3, by rw [List.length_map, List.length_append]; show _ < _ + 1; omega, by rw [List.length_map, List.length_append, List.length_append]; show _ + 1 ≤ _; omega, nzp, fun xv G7 hxv but7 pot7 => ?_⟩
            obtain ⟨xs, hxs, rfl⟩ := List.mem_map.mp hxv
            have hxs : xs ∈ M ++ [BRK] := by
              rcases List.mem_append.mp hxs with hxs | hxs
              · rcases List.mem_append.mp hxs with hxs | hxs
                · exact List.mem_append_left _ hxs
                · exact List.mem_append_left _ hxs
              · exact List.mem_append_right _ hxs
            refine ⟨_, rfl, _, rfl, _, rfl, _, rfl, (by show 3 ≤ sizeLine; decide), fun tk2 ntk2 => ?_⟩
            have v8 := same_new ntk2 (.tup [.str mi, .str cj, .str al])
            have htk2 : (upd G7 tk2 (.tup [.str mi, .str cj, .str al])) tk2 = some (.tup ((kT3 (mi, cj, al)).map kV)) := upd_same
            show _
            generalize upd G7 tk2 (.tup [.str mi, .str cj, .str al]) = G8 at v8 htk2 ⊢
            have b8 := (But.of v13).trans (but7.trans (But.of v8))
            refine ⟨rr, _, rfl, DPut.t (b8 _ _ W1.fr nrp) htk2 (by rw [kvW_len, sizeLine_eq]; have := W1.len; omega), ?_⟩
            have b08 := but1.trans b8
            exact ⟨_, _, _, _, _, _, rfl, WG.put nrp npms nrms nrr0 b08 ((pot7.same v8).mono (by omega)) (key hxs)⟩
        · rintro σ G ⟨x8, x9, x10, x11, x12, g, rfl, WG⟩
          exact ⟨_, _, _, _, _, _, g, rfl, WG.mono (by rw [List.length_map]; omega)⟩
      · rintro σ G ⟨x7, x8, x9, x10, x11, x12, g, rfl, WG⟩
        exact ⟨_, _, _, _, _, _, _, _, g, rfl, WG.mono (by rw [List.length_map]; omega)⟩
    · rintro σ G ⟨x5, x6, x7, x8, x9, x10, x11, x12, g, rfl, WG⟩
      rw [List.length_map] at WG
      have g36 := WG.len
      refine ⟨_, rfl, p, 3, _, rfl, WG.pot, by omega, by decide, by decide, fun k2 G1 _ _ but1 pot1 => ⟨rfl, _, rfl, ?_⟩⟩
      have W1 := WG.go nrp npms but1 (m := 9 * M.length + 1) (pot1.mono (by omega)) (by omega)
      generalize hN : 9 * M.length + 1 = N at W1
      have n37 : N ≤ 37 := by omega
      have sl36 : g.length ≤ 36 := by omega
      refine' cutF (p := fun _ G g => WJ p rr ms H G B D.calls D.answers M g N ∧ g.length ≤ 36) (fun go => ?k) (fun x12 G g ⟨W, sl⟩ => ?hh)
      case k =>
        refine ite2 (fun _ => ?yes) (fun _ => ?no)
        case yes =>
          obtain ⟨M0, ml, eM⟩ := last_of (M := M) (by omega)
          have atl : atI (M.map V.str) (-1) = some (.str ml) := by
            rw [eM, List.map_append]
            exact atI_last _ _
          have mlm : ml ∈ M := by rw [eM]; exact List.mem_append_right _ List.mem_cons_self
          refine ⟨rr, _, W1.fr, trivial, fun od => ?_⟩
          have hfz : (upd G1 rr (.frz od (.dT (kvW g)))) rr = some (.frz od (.dT (kvW g))) := upd_same
          have hms1 : (upd G1 rr (.frz od (.dT (kvW g)))) ms = some (.lst (M.map V.str)) := by rw [upd_ne nrms.symm]; exact W1.fm
          have back := fun (E : Hp) (e : Same (upd G1 rr (.frz od (.dT (kvW g)))) E) => unlock_same (K := K) W1.fr e
          show _
          generalize upd G1 rr (.frz od (.dT (kvW g))) = GL at hfz hms1 back ⊢
          refine ⟨_, rfl, rr, od, rfl, .inr ⟨kvW g, hfz, fun Dd nD => ?_⟩⟩
          have kl := kvW_len g
          refine lc_it walk_keysT (D := Dd) (g := gName 12) (tt := tTest (tOp rEq (tOp (rIxT K) (tVar 12) (tC (.int 0))) (tOp (rIxL K) (tVar 2) (tUn (rU fun i => .int (-i)) (tC (.int 1)))))) (te := tVar 12) (vs := [12]) (fun j E => Same GL E ∧ ∃ qs : List Addr, E Dd = some (.lst (qs.map V.ref)) ∧ qs.length ≤ j ∧ ∀ q ∈ qs, q ≠ Dd ∧ ∃ k ∈ g.map (·.1), E q = some (.tup ((kT3 k).map kV)))
            ⟨same_new nD _, [], upd_same, Nat.zero_le _, fun q h => nomatch h⟩ (fun j E _ h => h.1 _ _ hfz) ?_ ?_
          · rintro j y E E' hj ⟨sE, qs, hD, lq, hqs⟩ ⟨rfl, kk, vv, q, hkv, rfl, hq⟩
            obtain ⟨k, hk, ek⟩ : ∃ k ∈ g.map (·.1), kk = kT3 k := by
              unfold kvW at hkv
              rw [List.getElem?_map] at hkv
              cases e : g[j]? with
              | none => rw [e] at hkv; cases hkv
              | some z =>
                rw [e] at hkv
                cases hkv
                exact ⟨z.1, List.mem_map.mpr ⟨z, List.mem_of_getElem? e, rfl⟩, rfl⟩
            subst ek
            have nqD : q ≠ Dd := fun z => by rw [z, hD] at hq; cases hq
            rw [kl] at hj
            refine ⟨rfl, _, rfl, q, _, 0, _, rfl, rfl, .inl (.inl hq), rfl, _, rfl, 1, rfl, ms, _, _, _, rfl, rfl, SqL.of (sE _ _ hms1), atl, rfl, _, rfl, ?_⟩
            refine ite2 (fun _ => ?_) (fun _ => ⟨sE, qs, hD, by omega, hqs⟩)
            refine ⟨_, rfl, _, hD, by rw [List.length_map, sizeLine_eq]; omega, fun c0 o0 hc => ?_, qs ++ [q], ?_, by rw [List.length_append]; show _ + 1 ≤ _; omega, fun z hz => ?_⟩
            · rw [upd_ne (ne_of_none hc nD)]
              exact sE _ _ hc
            · rw [upd_same, List.map_append]
              rfl
            · rcases List.mem_append.mp hz with hz | hz
              · obtain ⟨n1, k1, m1, f1⟩ := hqs z hz
                exact ⟨n1, k1, m1, by rw [upd_ne n1]; exact f1⟩
              · rw [List.mem_singleton.mp hz]
                exact ⟨nqD, k, hk, by rw [upd_ne nqD]; exact hq⟩
          · rintro E ⟨sE, qs, hD, lq, hqs⟩
            refine ⟨sE _ _ hfz, ?_⟩
            have sGE := back E sE
            have nDr : Dd ≠ rr := fun z => by rw [z, hfz] at nD; cases nD
            have hD2 : (upd E rr (.dT (kvW g))) Dd = some (.lst (qs.map V.ref)) := by rw [upd_ne nDr]; exact hD
            have hq2 : ∀ q ∈ qs, ∃ k ∈ g.map (·.1), (upd E rr (.dT (kvW g))) q = some (.tup ((kT3 k).map kV)) := fun q hq => by
              obtain ⟨_, k, hk, f⟩ := hqs q hq
              exact ⟨k, hk, by rw [upd_ne (fun z => by rw [z, sE _ _ hfz] at f; cases f)]; exact f⟩
            show _
            generalize upd E rr (.dT (kvW g)) = E2 at sGE hD2 hq2 ⊢
            clear hqs hD lq sE back hfz hms1 nD
            have W2 := W1.go nrp npms (But.of sGE) (W1.pot.same sGE) (Nat.le_refl _)
            refine ⟨Dd, rfl, ⟨_, SqL.of hD2⟩, ?_⟩
            refine for_list (xs := qs.map V.ref) (fun j σ F => ∃ x12 g2, σ = [some (.ref p), some (.ref o), some (.ref ms), some (.ref rr), some (.int kw), x5, x6, x7, x8, x9, x10, x11, x12] ∧ WJ p rr ms H F B D.calls D.answers M g2 N ∧ g2.map (·.1) = g.map (·.1) ∧ F Dd = some (.lst (qs.map V.ref)) ∧ ∀ q ∈ qs, ∃ k ∈ g.map (·.1), F q = some (.tup ((kT3 k).map kV)))
              ⟨_, g, rfl, W2, rfl, hD2, hq2⟩ (fun j σ F _ ⟨_, _, _, _, _, h, _⟩ => SqL.of h) ?_ ?_
            · rintro j y σ F hy ⟨x12, g2, rfl, WF, eg, hDF, hqF⟩
              have hj : j < qs.length := by
                have := (List.getElem?_eq_some_iff.mp hy).1
                simpa using this
              rw [List.getElem?_map, List.getElem?_eq_getElem hj] at hy
              have ey : y = .ref qs[j] := (Option.some.inj hy).symm
              subst ey
              obtain ⟨k, hk, hqk⟩ := hqF _ (List.getElem_mem hj)
              generalize qs[j] = q at hqk ⊢
              obtain ⟨z, hz, ez⟩ := List.mem_map.mp (by rw [eg]; exact hk : k ∈ g2.map (·.1))
              have vz := WF.ok z hz
              rw [ez] at vz
              refine ⟨_, rfl, 1, rfl, ms, _, _, _, rfl, rfl, SqL.of WF.fm, atl, _, rfl, _, rfl, rr, _, rfl, DPut.t WF.fr hqk (by rw [kvW_len, sizeLine_eq]; have := WF.len; omega), ?_⟩
              refine ⟨_, putS g2 k ml, rfl, WF.put2 nrp npms nrms nrr0 (Same.refl _) (by rw [eg]; exact hk) ⟨vz.1, vz.2.1, vz.2.2.1, List.mem_append_left _ mlm⟩, ?_, ?_, fun q' hq' => ?_⟩
              · rw [putS_keys (by rw [eg]; exact hk), eg]
              · rw [upd_ne nDr]
                exact hDF
              · obtain ⟨k', hk', f⟩ := hqF q' hq'
                exact ⟨k', hk', by rw [upd_ne (fun z => by rw [z, WF.fr] at f; cases f)]; exact f⟩
            · rintro σ F ⟨x12, g2, rfl, WF, eg, hDF, hqF⟩
              have lg := congrArg List.length eg
              rw [List.length_map, List.length_map] at lg
              exact go x12 F g2 ⟨WF, by omega⟩
        case no => exact go x12 G1 g ⟨W1, sl36⟩
      case hh =>
        obtain ⟨ro, rc, ra, rs, rrw, rg⟩ := rd W.but
        have em : mergeK [] (kvO c a ms rr) = kvO c a ms rr := by rfl
        intro o2 no2
        have u0 := same_new no2 (.dK [])
        refine ⟨_, rfl, o, _, rfl, dK "calls" _ (u0 _ _ ro), _, rfl, o, _, rfl, dK "answers" _ (u0 _ _ ro), _, rfl, _, rfl, upd_same, kvO c a ms rr, rfl, (by show 4 ≤ 15; decide), ?_⟩
        rw [em, upd_upd]
        have u1 := same_new no2 (.dK (kvO c a ms rr))
        have ho : (upd G o2 (.dK (kvO c a ms rr))) o2 = some (.dK (kvO c a ms rr)) := upd_same
        have npo2 := lne W.pot no2
        show _
        generalize upd G o2 (.dK (kvO c a ms rr)) = G9 at u1 ho ⊢
        refine q o2 ⟨D.calls, D.answers, M, g⟩ G9 (W.but.trans (But.of u1)) ((W.pot.same u1).mono (by omega)) ⟨dr.cn, dr.an, ndM, dr.c1, dr.a1, ⟨by show 1 ≤ M.length; omega, by show M.length ≤ 4; omega⟩, dr.cw, dr.aw, fun x hx => poolM_w x (memM x hx), fun h => poolM_nb (memM _ h), W.nd, W.ok, sl⟩ ⟨rfl, rfl⟩
          ⟨c, a, ms, rr, mk_of npo2 ho, mk_of npc (u1 _ _ rc), mk_of npa (u1 _ _ ra), mk_of npms (u1 _ _ W.fm), mk_of nrp (u1 _ _ W.fr)⟩
end
end K56
set_option Elab.async false
set_option linter.all false
set_option maxRecDepth 100000
set_option maxHeartbeats 1600000
/-! The text of a watch. -/
namespace LG
open PySem L2
def stepOf (e : (Str × Str × Str) × Str) : Str := Txt.join sp1 ["step", e.1.1, e.1.2.1, e.1.2.2, e.2]
def headsW (W : Wat) : List Str := [("calls " : Str) ++ Txt.join sp1 W.calls, ("answers " : Str) ++ Txt.join sp1 W.answers, ("marks " : Str) ++ Txt.join sp1 W.marks]
def linesW (W : Wat) : List Str := headsW W ++ W.steps.map stepOf
def textW (W : Wat) : Str := Txt.join nl1 (linesW W)
theorem brk_name : isNameB BRK = true := by decide +kernel
theorem step_name : isNameB "step" = true := by decide +kernel
theorem DrawnW.names {W : Wat} (d : DrawnW W) {e : (Str × Str × Str) × Str} (h : e ∈ W.steps) : ∀ t ∈ ([("step" : Str), e.1.1, e.1.2.1, e.1.2.2, e.2] : List Str), isNameB t = true := by
  obtain ⟨h1, h2, h3, h4⟩ := d.vals e h
  intro t ht
  simp only [List.mem_cons, List.not_mem_nil, or_false] at ht
  rcases ht with rfl | rfl | rfl | rfl | rfl
  · exact step_name
  · exact d.mw _ h1
  · exact d.cw _ h2
  · exact d.aw _ h3
  · rcases List.mem_append.mp h4 with h4 | h4
    · exact d.mw _ h4
    · rw [List.mem_singleton.mp h4]
      exact brk_name
theorem names_join {ts : List Str} (h : ∀ t ∈ ts, isNameB t = true) (hl : ts.length ≤ 5) : TOk 45 (Txt.join sp1 ts) := by
  refine ⟨?_, join_asc sep_asc.1 fun t ht => name_asc (h t ht)⟩
  have := join_le1 sp1_1 (k := 8) (ts := ts) fun t ht => name_len (h t ht)
  omega
theorem headsW_eq {W : Wat} (d : DrawnW W) : headsW W = [Txt.join sp1 ("calls" :: W.calls), Txt.join sp1 ("answers" :: W.answers), Txt.join sp1 ("marks" :: W.marks)] := by
  have ne : ∀ {l : List Str} {n : Nat}, 1 ≤ n → n ≤ l.length → l ≠ [] := by
    intro l n h1 h2 e
    rw [e] at h2
    simp at h2
    omega
  have e1 : ("calls " : Str) = "calls" ++ sp1 := by decide +kernel
  have e2 : ("answers " : Str) = "answers" ++ sp1 := by decide +kernel
  have e3 : ("marks " : Str) = "marks" ++ sp1 := by decide +kernel
  unfold headsW
  rw [e1, e2, e3, head_line (ne (Nat.le_refl 1) d.c1.1), head_line (ne (by decide) d.a1.1), head_line (ne (Nat.le_refl 1) d.m1.1)]
theorem DrawnW.lines {W : Wat} (d : DrawnW W) : ∀ t ∈ linesW W, TOk 45 t := by
  have c1 := d.c1
  have a1 := d.a1
  have m1 := d.m1
  have cons : ∀ {w : Str} {ns : List Str}, isNameB w = true → (∀ x ∈ ns, isNameB x = true) → ns.length ≤ 4 → TOk 45 (Txt.join sp1 (w :: ns)) := by
    intro w ns hw hn hl
    refine names_join (fun t ht => ?_) (by rw [List.length_cons]; omega)
    rcases List.mem_cons.mp ht with rfl | ht
    · exact hw
    · exact hn t ht
  intro t ht
  unfold linesW at ht
  rw [headsW_eq d] at ht
  rcases List.mem_append.mp ht with ht | ht
  · simp only [List.mem_cons, List.not_mem_nil, or_false] at ht
    rcases ht with rfl | rfl | rfl
    · exact cons (by decide +kernel) d.cw (by omega)
    · exact cons (by decide +kernel) d.aw (by omega)
    · exact cons (by decide +kernel) d.mw (by omega)
  · obtain ⟨e, he, rfl⟩ := List.mem_map.mp ht
    exact names_join (d.names he) (by show 5 ≤ 5; decide)
theorem linesW_len (W : Wat) : (linesW W).length = 3 + W.steps.length := by
  unfold linesW
  rw [List.length_append, List.length_map]
  rfl
theorem DrawnW.text {W : Wat} (d : DrawnW W) : TOk 3000 (textW W) := by
  refine ⟨?_, join_asc sep_asc.2 fun t ht => (d.lines t ht).asc⟩
  have h1 := join_le1 nl1_1 (k := 45) (ts := linesW W) fun t ht => (d.lines t ht).len
  have := d.sl
  rw [linesW_len] at h1
  have h2 := Nat.mul_le_mul_right (45 + 1) (show 3 + W.steps.length ≤ 39 by omega)
  exact Nat.le_trans h1 (by omega)
theorem DrawnW.no10 {W : Wat} (d : DrawnW W) : ∀ t ∈ linesW W, 10 ∉ TL.tl t := by
  have cons : ∀ {w : Str} {ns : List Str}, (10 : Nat) ∉ TL.tl w → (∀ x ∈ ns, isNameB x = true) → 10 ∉ TL.tl (Txt.join sp1 (w :: ns)) := by
    intro w ns hw hn
    refine no10_join fun t ht => ?_
    rcases List.mem_cons.mp ht with rfl | ht
    · exact hw
    · exact no_sign (hn t ht) sign10
  intro t ht
  unfold linesW at ht
  rw [headsW_eq d] at ht
  rcases List.mem_append.mp ht with ht | ht
  · simp only [List.mem_cons, List.not_mem_nil, or_false] at ht
    rcases ht with rfl | rfl | rfl
    · exact cons (by decide +kernel) d.cw
    · exact cons (by decide +kernel) d.aw
    · exact cons (by decide +kernel) d.mw
  · obtain ⟨e, he, rfl⟩ := List.mem_map.mp ht
    exact no10_join fun t ht => no_sign (d.names he t ht) sign10
theorem DrawnW.split {W : Wat} (d : DrawnW W) : Txt.split (textW W) nl1 = linesW W := lines_join (by unfold linesW headsW; simp) d.no10
theorem look_none {g : Steps} {k : Str × Str × Str} (h : k ∉ g.map (·.1)) : g.lookup k = none := by
  induction g with
  | nil => rfl
  | cons e r ih =>
    obtain ⟨j, y⟩ := e
    have ne : ¬ k = j := fun z => h (by rw [z]; exact List.mem_cons_self)
    have nb : (k == j) = false := by simpa using ne
    have l : List.lookup k ((j, y) :: r) = List.lookup k r := by simp [List.lookup, nb]
    rw [l]
    exact ih fun z => h (List.mem_cons_of_mem _ z)
theorem DrawnW.goals_from {W : Wat} (d : DrawnW W) : ∀ {ks : Steps} {n : Nat} {g : Steps}, (∀ e ∈ ks, e ∈ W.steps) → (ks.map (·.1)).Nodup → (∀ e ∈ ks, e.1 ∉ g.map (·.1)) →
    goalsFrom W.calls W.answers W.marks (ks.map stepOf) n g = .inr (g ++ ks)
  | [], n, g, _, _, _ => by simp [goalsFrom]
  | e :: r, n, g, h, nd, out => by
    obtain ⟨n1, n2⟩ := List.nodup_cons.mp nd
    have he := h e List.mem_cons_self
    obtain ⟨h1, h2, h3, h4⟩ := d.vals e he
    have es : Txt.split (stepOf e) sp1 = [("step" : Str), e.1.1, e.1.2.1, e.1.2.2, e.2] := words_join (by simp) fun t ht => no_sign (d.names he t ht) sign32
    have hl : isLine ["step", e.1.1, e.1.2.1, e.1.2.2, e.2] W.calls W.answers W.marks = true := by
      have c4 : (W.marks ++ [BRK]).contains e.2 = true := List.contains_iff_mem.mpr h4
      have e0 : isLine ["step", e.1.1, e.1.2.1, e.1.2.2, e.2] W.calls W.answers W.marks = (decide (("step" : Str) = "step") && (W.marks.contains e.1.1 && (W.calls.contains e.1.2.1 && (W.answers.contains e.1.2.2 && (W.marks ++ [BRK]).contains e.2)))) := rfl
      rw [e0, c4, List.contains_iff_mem.mpr h1, List.contains_iff_mem.mpr h2, List.contains_iff_mem.mpr h3, decide_eq_true rfl]
      rfl
    have st : goalStep W.calls W.answers W.marks g (stepOf e) = some (g ++ [e]) := step_ok (g := g) (s := e.1.1) (c := e.1.2.1) (a := e.1.2.2) es hl (look_none (out e List.mem_cons_self))
    show (match goalStep W.calls W.answers W.marks g (stepOf e) with | none => _ | some g' => _) = _
    rw [st]
    have ih := goals_from d (ks := r) (n := n + 1) (g := g ++ [e]) (fun x hx => h x (List.mem_cons_of_mem _ hx)) n2 (fun x hx => by
      rw [List.map_append, List.mem_append]
      rintro (m | m)
      · exact out x (List.mem_cons_of_mem _ hx) m
      · have ex : x.1 = e.1 := by simpa using m
        exact n1 (show e.1 ∈ r.map (·.1) from by rw [← ex]; exact List.mem_map.mpr ⟨x, hx, rfl⟩))
    show goalsFrom W.calls W.answers W.marks (r.map stepOf) (n + 1) (g ++ [e]) = _
    rw [ih, List.append_assoc]
    rfl
theorem DrawnW.read {W : Wat} (d : DrawnW W) : parse (textW W) = .inr W := by
  have es := d.split
  have eL : linesW W = Txt.join sp1 ("calls" :: W.calls) :: Txt.join sp1 ("answers" :: W.answers) :: Txt.join sp1 ("marks" :: W.marks) :: W.steps.map stepOf := by
    unfold linesW
    rw [headsW_eq d]
    rfl
  have c1 := d.c1
  have a1 := d.a1
  have m1 := d.m1
  have i0 : headAt (linesW W) 0 = W.calls := by
    rw [eL]
    exact namesIn_of (by decide +kernel) d.cw d.cn (by omega) (by omega)
  have i1 : headAt (linesW W) 1 = W.answers := by
    rw [eL]
    exact namesIn_of (by decide +kernel) d.aw d.an (by omega) (by omega)
  have i2 : headAt (linesW W) 2 = W.marks := by
    rw [eL]
    exact namesIn_of (by decide +kernel) d.mw d.mn (by omega) (by omega)
  have ne : ∀ {l : List Str}, 1 ≤ l.length → l ≠ [] := by
    intro l h1 e
    rw [e] at h1
    simp at h1
  have eh : readHeads (linesW W) = ([W.calls, W.answers, W.marks], 0) := by
    unfold readHeads
    rw [i0, i1, i2, if_neg (ne c1.1), if_neg (ne (by omega)), if_neg (ne m1.1)]
  have eg : readGoals (linesW W) W.calls W.answers W.marks = .inr W.steps := by
    unfold readGoals
    have ed : (linesW W).drop 3 = W.steps.map stepOf := by
      rw [eL]
      rfl
    rw [ed, d.goals_from (fun _ h => h) d.kn (fun k _ => by simp), List.nil_append]
  rw [parse_heads (by rw [es]; exact eh) (g := []), es, eg, if_neg (by
    intro z
    exact d.nb (List.contains_iff_mem.mp z))]
end LG
namespace K56
open PySem L2 LG
section
variable {P : Program} {w : World} {K : PySem.W.Frag} {mg : Str → Option Value} {base : Heap}
def spWText (K : PySem.W.Frag) : Sp := fun vs H Q _ => ∃ (o : Addr) (W : Wat), vs = [.ref o] ∧ WatOwn H o W ∧ DrawnW W ∧ ∀ H', Same H H' → Q (.str (textW W)) H'
abbrev nWx : List Str := ["_law_watch_here", "_law_rows", "_law_key", "_law_goal"]
abbrev g23 (K : PySem.W.Frag) : TG := gTup K 2 (gCons (gName 2) (gCons (gName 3) gNil))
theorem scWx : FnScope nWx ["_law_watch_here"] (defScope sWText) := ⟨rfl, rfl, rfl, by decide +kernel, rfl, by decide +kernel, by decide +kernel⟩
theorem ok_wtext {f : Addr} {fd : FuncData} (F : Fun K "_law_watch_text" "_law_watch_text" sWText f fd) (T : Bltn mg) : FnOk P w K mg base CX0 1 f fd ["_law_watch_here"] (spWText K) := by
  refine F.ok scWx (fun vs H Q E h => ?_) (fun cdv A0 outer st H vs Q E hr h => ?_)
  · obtain ⟨o, W, rfl, _⟩ := h
    rfl
  obtain ⟨o, W, rfl, hO, dr, q⟩ := h
  have hu := hu_of hr
  refine' ⟨_, pss_cons (ps_set (i := 1) scWx.nd rfl (Or.inl rfl) (pe_lst (pa_cons (pe_op op_add_str pe_str (pe_join pe_str (pe_dget hu (pv 0) pe_str (fun _ _ => rfl)))) (pa_cons (pe_op op_add_str pe_str (pe_join pe_str (pe_dget hu (pv 0) pe_str (fun _ _ => rfl)))) pa_nil))))
    (pss_cons (ps_expr (pe_bm PySem.F.plainAttrs_list PySem.F.slot_list_append PySem.F.type_list_append mt_append (pv 1) (pa_cons (pe_op op_add_str pe_str (pe_join pe_str (pe_dget hu (pv 0) pe_str (fun _ _ => rfl)))) pa_nil)))
    (pss_one (ps_ret (pe_join pe_str (pe_op op_cat (pv 1) (pe_lock ?lc)))))), ?main⟩
  case lc =>
    exact pe_lc (te := tM1 (rJoinK K) (tC (.str " ")) (tOp rCat (tOp rCat (tLst (tCons (tC (.str "step")) tNil)) (tCB (fun xs H Q => ∃ p ys, xs = [.ref p] ∧ (SqL K H p ys ∨ SqT K H p ys) ∧ ∀ l, H l = none → Q (.ref l) (upd H l (.lst ys))) (tCons (tVar 2) tNil))) (tLst (tCons (tVar 3) tNil)))) (own := [("_law_key", 2), ("_law_goal", 3)]) (g := g23 K) (tt := tYes) rfl scWx.nd (pi_itemsT (pe_dget hu (pv 0) pe_str (fun _ _ => rfl))) (blkOk_by (own := [("_law_key", 2), ("_law_goal", 3)]) (N := nWx) (sc := defScope sWText) (by decide +kernel))
        (fun _ _ _ _ _ => by exact pg_tup rfl (pgs_cons (pg_name (i := 2) scWx.nd rfl (Or.inl rfl)) (pgs_cons (pg_name (i := 3) scWx.nd rfl (Or.inl rfl)) pgs_nil))) (fun _ _ _ _ _ => pts_nil)
        (fun _ _ _ _ _ => by exact pe_join pe_str (pe_op op_cat (pe_op op_cat (pe_lst (pa_cons pe_str pa_nil)) (pe_callTy call_list_of rfl T.list (by decide +kernel) (pa_cons (pv 2) pa_nil))) (pe_lst (pa_cons (pv 3) pa_nil))))
  case main =>
    obtain ⟨c, a, s, r, h1, h2, h3, h4, h5⟩ := hO
    have lc : ∀ t ∈ W.calls, t.length ≤ 8 := fun t h => name_len (dr.cw t h)
    have la : ∀ t ∈ W.answers, t.length ≤ 8 := fun t h => name_len (dr.aw t h)
    have ls : ∀ t ∈ W.marks, t.length ≤ 8 := fun t h => name_len (dr.mw t h)
    have c1 := dr.c1
    have a1 := dr.a1
    have s1 := dr.m1
    have jc := join_le1 sp1_1 lc
    have ja := join_le1 sp1_1 la
    have js := join_le1 sp1_1 ls
    have sc := sum_le lc
    have sa := sum_le la
    have ss := sum_le ls
    have dK := fun (x : Str) (G : Hp) (e : G o = some (.dK (kvO c a s r))) => DGet.k (k := Sum.inr x) e
    have sz := sizeLine_eq
    have n1 : sp1.length = 1 := sp1_1
    refine ⟨⟨_, rfl⟩, _, rfl, o, _, rfl, dK "calls" H h1, sp1, c, W.calls, rfl, rfl, .inl (SqL.of h2), by rw [n1]; omega, _, _, rfl, rfl, ?_, ⟨_, rfl⟩, _, rfl, o, _, rfl, dK "answers" H h1, sp1, a, W.answers, rfl, rfl, .inl (SqL.of h3), by rw [n1]; omega, _, _, rfl, rfl, ?_, (by show 2 ≤ sizeLine; decide), fun rw_ nr => ?_⟩
    · have e1 : ("calls " : Str).length = 6 := by decide +kernel
      rw [e1, sz]
      omega
    · have e1 : ("answers " : Str).length = 8 := by decide +kernel
      rw [e1, sz]
      omega
    have t1 := same_new nr (.lst [.str (("calls " : Str) ++ Txt.join sp1 W.calls), .str (("answers " : Str) ++ Txt.join sp1 W.answers)])
    have hr1 : (upd H rw_ (.lst [.str (("calls " : Str) ++ Txt.join sp1 W.calls), .str (("answers " : Str) ++ Txt.join sp1 W.answers)])) rw_ = some (.lst [.str (("calls " : Str) ++ Txt.join sp1 W.calls), .str (("answers " : Str) ++ Txt.join sp1 W.answers)]) := upd_same
    show _
    generalize upd H rw_ (.lst [.str (("calls " : Str) ++ Txt.join sp1 W.calls), .str (("answers " : Str) ++ Txt.join sp1 W.answers)]) = H1 at t1 hr1 ⊢
    refine ⟨_, rfl, .inl ⟨rfl, _, SqL.of hr1⟩, ⟨_, rfl⟩, _, rfl, o, _, rfl, dK "marks" H1 (t1 _ _ h1), sp1, s, W.marks, rfl, rfl, .inl (SqL.of (t1 _ _ h4)), by rw [n1]; omega, _, _, rfl, rfl, ?_, rw_, _, _, rfl, rfl, hr1, (by show 2 < sizeLine; decide), ?_⟩
    · have e1 : ("marks " : Str).length = 6 := by decide +kernel
      rw [e1, sz]
      omega
    have hr2 : (upd H1 rw_ (.lst ([.str (("calls " : Str) ++ Txt.join sp1 W.calls), .str (("answers " : Str) ++ Txt.join sp1 W.answers)] ++ [.str (("marks " : Str) ++ Txt.join sp1 W.marks)]))) rw_ = some (.lst ((headsW W).map V.str)) := upd_same
    have t2 : Same H (upd H1 rw_ (.lst ([.str (("calls " : Str) ++ Txt.join sp1 W.calls), .str (("answers " : Str) ++ Txt.join sp1 W.answers)] ++ [.str (("marks " : Str) ++ Txt.join sp1 W.marks)]))) := fun b u e => by
      rw [upd_ne (ne_of_none e nr)]
      exact t1 _ _ e
    generalize upd H1 rw_ (.lst ([.str (("calls " : Str) ++ Txt.join sp1 W.calls), .str (("answers " : Str) ++ Txt.join sp1 W.answers)] ++ [.str (("marks " : Str) ++ Txt.join sp1 W.marks)])) = H2 at hr2 t2 ⊢
    have hr5 := t2 _ _ h5
    refine ⟨⟨_, rfl⟩, _, rfl, r, _, hr5, trivial, fun od => ?_⟩
    have o_r : o ≠ r := fun z => by rw [z, h5] at h1; cases h1
    have hfz : (upd H2 r (.frz od (.dT (kvW W.steps)))) r = some (.frz od (.dT (kvW W.steps))) := upd_same
    have hoL : (upd H2 r (.frz od (.dT (kvW W.steps)))) o = some (.dK (kvO c a s r)) := by rw [upd_ne o_r]; exact t2 _ _ h1
    have back := fun (E : Hp) (e : Same (upd H2 r (.frz od (.dT (kvW W.steps)))) E) => unlock_same (K := K) hr5 e
    show _
    generalize upd H2 r (.frz od (.dT (kvW W.steps))) = HL at hfz hoL back ⊢
    refine ⟨_, rfl, o, _, rfl, dK "steps" HL hoL, r, od, kvW W.steps, rfl, hfz, fun D nD => ?_⟩
    have kl := kvW_len W.steps
    have sl := dr.sl
    refine lc_it walk_itemsT (D := D) (g := g23 K) (tt := tYes) (te := tM1 (rJoinK K) (tC (.str " ")) (tOp rCat (tOp rCat (tLst (tCons (tC (.str "step")) tNil)) (tCB (fun xs H Q => ∃ p ys, xs = [.ref p] ∧ (SqL K H p ys ∨ SqT K H p ys) ∧ ∀ l, H l = none → Q (.ref l) (upd H l (.lst ys))) (tCons (tVar 2) tNil))) (tLst (tCons (tVar 3) tNil)))) (vs := [2, 3])
      (fun j E => Same HL E ∧ E D = some (.lst ((W.steps.take j).map fun e => V.str (stepOf e)))) ⟨same_new nD _, upd_same⟩ (fun j E _ h => h.1 _ _ hfz) ?_ ?_
    · rintro j y E E' hj ⟨sE, hD⟩ ⟨T1, q1, k, v, hkv, hq1, rfl, nT, rfl⟩
      rw [kl] at hj
      have hjs : W.steps[j]? = some W.steps[j] := List.getElem?_eq_getElem hj
      have em : W.steps[j] ∈ W.steps := List.getElem_mem hj
      have et : W.steps.take (j + 1) = W.steps.take j ++ [W.steps[j]] := by rw [List.take_add_one, hjs]; rfl
      have ekv : k = kT3 W.steps[j].1 ∧ v = .str W.steps[j].2 := by
        unfold kvW at hkv
        rw [List.getElem?_map, hjs] at hkv
        cases hkv
        exact ⟨rfl, rfl⟩
      obtain ⟨rfl, rfl⟩ := ekv
      rw [et]
      generalize W.steps[j] = e at em hq1 nT ⊢
      have v0 := same_new nT (.tup [V.ref q1, .str e.2])
      have hT : (upd E T1 (.tup [V.ref q1, .str e.2])) T1 = some (.tup [V.ref q1, .str e.2]) := upd_same
      show _
      generalize upd E T1 (.tup [V.ref q1, .str e.2]) = E1 at v0 hT ⊢
      refine ⟨T1, _, rfl, .inl (.inl hT), rfl, _, _, rfl, _, _, rfl, rfl, rfl, ?_⟩
      refine ⟨⟨_, rfl⟩, (by show 1 ≤ sizeLine; decide), fun a1 na1 => ?_⟩
      have v1 := same_new na1 (.lst [V.str "step"])
      have ha1 : (upd E1 a1 (.lst [V.str "step"])) a1 = some (.lst [V.str "step"]) := upd_same
      show _
      generalize upd E1 a1 (.lst [V.str "step"]) = E2 at v1 ha1 ⊢
      have hq2 := v1 _ _ (v0 _ _ hq1)
      refine ⟨_, rfl, q1, _, rfl, .inr (.inl (.inl hq2)), fun a2 na2 => ?_⟩
      have ek : (kT3 e.1).map kV = [V.str e.1.1, .str e.1.2.1, .str e.1.2.2] := rfl
      rw [ek]
      have v2 := same_new na2 (.lst [V.str e.1.1, .str e.1.2.1, .str e.1.2.2])
      have ha2 : (upd E2 a2 (.lst [V.str e.1.1, .str e.1.2.1, .str e.1.2.2])) a2 = some (.lst [V.str e.1.1, .str e.1.2.1, .str e.1.2.2]) := upd_same
      show _
      generalize upd E2 a2 (.lst [V.str e.1.1, .str e.1.2.1, .str e.1.2.2]) = E3 at v2 ha2 ⊢
      refine ⟨a1, a2, _, _, rfl, rfl, v2 _ _ ha1, ha2, (by show 4 ≤ sizeLine; decide), fun a3 na3 => ?_⟩
      have v3 := same_new na3 (.lst ([V.str "step"] ++ [V.str e.1.1, .str e.1.2.1, .str e.1.2.2]))
      have ha3 : (upd E3 a3 (.lst ([V.str "step"] ++ [V.str e.1.1, .str e.1.2.1, .str e.1.2.2]))) a3 = some (.lst [V.str "step", V.str e.1.1, .str e.1.2.1, .str e.1.2.2]) := upd_same
      show _
      generalize upd E3 a3 (.lst ([V.str "step"] ++ [V.str e.1.1, .str e.1.2.1, .str e.1.2.2])) = E4 at v3 ha3 ⊢
      refine ⟨_, rfl, (by show 1 ≤ sizeLine; decide), fun a4 na4 => ?_⟩
      have v4 := same_new na4 (.lst [V.str e.2])
      have ha4 : (upd E4 a4 (.lst [V.str e.2])) a4 = some (.lst [V.str e.2]) := upd_same
      show _
      generalize upd E4 a4 (.lst [V.str e.2]) = E5 at v4 ha4 ⊢
      refine ⟨a3, a4, _, _, rfl, rfl, v4 _ _ ha3, ha4, (by show 5 ≤ sizeLine; decide), fun a5 na5 => ?_⟩
      have v5 := same_new na5 (.lst ([V.str "step", V.str e.1.1, .str e.1.2.1, .str e.1.2.2] ++ [V.str e.2]))
      have ha5 : (upd E5 a5 (.lst ([V.str "step", V.str e.1.1, .str e.1.2.1, .str e.1.2.2] ++ [V.str e.2]))) a5 = some (.lst ((["step", e.1.1, e.1.2.1, e.1.2.2, e.2] : List Str).map V.str)) := upd_same
      show _
      generalize upd E5 a5 (.lst ([V.str "step", V.str e.1.1, .str e.1.2.1, .str e.1.2.2] ++ [V.str e.2])) = E6 at v5 ha5 ⊢
      have v06 := ((((v0.trans v1).trans v2).trans v3).trans v4).trans v5
      have l8 := sum_le (k := 8) fun t ht => name_len (dr.names em t ht)
      refine ⟨sp1, a5, _, rfl, rfl, .inl (SqL.of ha5), ?_, ?_⟩
      · rw [n1]
        simp only [List.length_cons, List.length_nil] at l8 ⊢
        omega
      refine ⟨_, v06 _ _ hD, by rw [List.length_map, List.length_take, sz]; omega, fun c0 o0 hc => ?_, ?_⟩
      · rw [upd_ne (ne_of_none hc nD)]
        exact v06 _ _ (sE _ _ hc)
      · rw [upd_same, List.map_append]
        rfl
    · rintro E ⟨sE, hD⟩
      rw [kl, List.take_length] at hD
      refine ⟨sE _ _ hfz, ?_⟩
      have sHE := back E sE
      have nDr : D ≠ r := fun z => by rw [z, hfz] at nD; cases nD
      have hD2 : (upd E r (.dT (kvW W.steps))) D = some (.lst ((W.steps.map stepOf).map V.str)) := by
        rw [upd_ne nDr, List.map_map]
        exact hD
      show _
      generalize upd E r (.dT (kvW W.steps)) = E2 at sHE hD2 ⊢
      have hr3 := sHE _ _ hr2
      have len3 : ((headsW W).map V.str).length = 3 := rfl
      refine ⟨rw_, D, _, _, rfl, rfl, hr3, hD2, by rw [len3, List.length_map, List.length_map, sz]; omega, fun p3 np3 => ?_⟩
      have v3 := same_new np3 (.lst ((headsW W).map V.str ++ (W.steps.map stepOf).map V.str))
      have hp3 : (upd E2 p3 (.lst ((headsW W).map V.str ++ (W.steps.map stepOf).map V.str))) p3 = some (.lst ((linesW W).map V.str)) := by
        rw [upd_same, ← List.map_append]
        rfl
      have ll := sum_le (k := 45) fun t ht => (dr.lines t ht).len
      rw [linesW_len] at ll
      refine ⟨nl1, p3, linesW W, rfl, rfl, .inl (SqL.of hp3), ?_, q _ ((t2.trans sHE).trans v3)⟩
      rw [linesW_len, nl1_1]
      omega
end
end K56
set_option Elab.async false
set_option linter.all false
set_option maxRecDepth 100000
set_option maxHeartbeats 8000000
/-! Logs as data (from k48's). -/
namespace LG
open PySem L2 LamX
theorem bits (xs : List V) (f : V → Bool) : (List.range xs.length).map (fun i => V.bl (f (xs.getD i .non))) = (xs.map f).map V.bl := by
  apply List.ext_getElem
  · simp
  · intro k h1 h2
    have hk : k < xs.length := by simpa using h1
    simp [List.getD, hk]
theorem kit_notup {K : PySem.W.Frag} : ∀ T ∈ tyNames, T ≠ "tuple" → PySem.W.kitOne K (.type T) (.type "tuple") = some false := by
  intro T hT ne
  simp only [tyNames, List.mem_cons, List.not_mem_nil, or_false] at hT
  rcases hT with rfl | rfl | rfl | rfl | rfl | rfl | rfl
  all_goals first
    | exact kit_ty (by decide +kernel)
    | exact absurd rfl ne
theorem Dx.ext {K : PySem.W.Frag} {H H' : Hp} {v : V} {d : PyData} (e : ExtN H H') (h : Dx K H v d) : Dx K H' v d := by
  cases h with
  | flat h => exact .flat (Dp_same (mt_self H') _ _ (Dp_same (mt_ext e) _ _ (Dp_mt _ _ h)))
  | dct h p => exact .dct (e _ _ h fun ps z => by cases z) p
theorem Dx.notup {K : PySem.W.Frag} {H : Hp} {v : V} {d : PyData} (h : Dx K H v d) (no : ∀ xs, d ≠ .tuple xs) : ∃ ty, TyX K H v ty ∧ PySem.W.kitOne K ty (.type "tuple") = some false := by
  cases h with
  | flat h =>
    obtain ⟨T, ty, e⟩ := ty_of h
    cases h with
    | tup _ _ => exact absurd rfl (no _)
    | non => exact ⟨_, ty, kit_notup _ (by subst e; simp [tyNames]) (by subst e; simp)⟩
    | bl b => exact ⟨_, ty, kit_notup _ (by subst e; simp [tyNames]) (by subst e; simp)⟩
    | int i => exact ⟨_, ty, kit_notup _ (by subst e; simp [tyNames]) (by subst e; simp)⟩
    | str x => exact ⟨_, ty, kit_notup _ (by subst e; simp [tyNames]) (by subst e; simp)⟩
    | lst _ _ => exact ⟨_, ty, kit_notup _ (by subst e; simp [tyNames]) (by subst e; simp)⟩
  | dct h p => exact ⟨_, .base (.dK h), kit_notup "dict" (by simp [tyNames]) (by simp)⟩
theorem Dx.strOr {K : PySem.W.Frag} {H : Hp} {v : V} {d : PyData} (h : Dx K H v d) : StrOr K H v := by
  cases h with
  | flat h =>
    obtain ⟨T, ty, e⟩ := ty_of h
    cases h with
    | str x => exact .inl ⟨x, rfl⟩
    | non => exact .inr ⟨_, ty, kit_nostr _ (by subst e; simp [tyNames]) (by subst e; simp), fun x z => nomatch z⟩
    | bl b => exact .inr ⟨_, ty, kit_nostr _ (by subst e; simp [tyNames]) (by subst e; simp), fun x z => nomatch z⟩
    | int i => exact .inr ⟨_, ty, kit_nostr _ (by subst e; simp [tyNames]) (by subst e; simp), fun x z => nomatch z⟩
    | lst _ _ => exact .inr ⟨_, ty, kit_nostr _ (by subst e; simp [tyNames]) (by subst e; simp), fun x z => nomatch z⟩
    | tup _ _ => exact .inr ⟨_, ty, kit_nostr _ (by subst e; simp [tyNames]) (by subst e; simp), fun x z => nomatch z⟩
  | dct h p => exact .inr ⟨_, .base (.dK h), kit_nostr "dict" (by simp [tyNames]) (by simp), fun x z => nomatch z⟩
def amongD (C : List Str) : PyData → Bool
  | .str x => C.contains x
  | _ => false
theorem among_dp {K : PySem.W.Frag} {H : Hp} {v : V} {d : PyData} {C : List Str} (h : Dp K H v d) : amongB v C = amongD C d := by
  cases h <;> rfl
def isPairD (C A : List Str) : PyData → Bool
  | .tuple [x, y] => amongD C x && amongD A y
  | _ => false
def isLogD (C A : List Str) : PyData → Bool
  | .tuple ds => decide (ds.length ≤ 24) && ds.all (isPairD C A)
  | _ => false
theorem DpAll.get {K : PySem.W.Frag} {H : Hp} : ∀ {xs : List V} {ds : List PyData} {i : Nat} {x : V}, DpAll K H xs ds → xs[i]? = some x → ∃ d, ds[i]? = some d ∧ Dp K H x d
  | _, _, i, x, .nil, h => by simp at h
  | _, _, 0, x, .cons a r, h => by
    simp at h
    subst h
    exact ⟨_, rfl, a⟩
  | _, _, i + 1, x, .cons a r, h => DpAll.get (i := i) r (by simpa using h)
theorem isPair_no {C A : List Str} {d : PyData} (h : ∀ x y, d ≠ .tuple [x, y]) : isPairD C A d = false := by
  cases d with
  | tuple ds =>
    match ds, h with
    | [], _ => rfl
    | [x], _ => rfl
    | [x, y], h => exact absurd rfl (h x y)
    | x :: y :: z :: r, _ => rfl
  | _ => rfl
theorem amongD_str {C : List Str} {d : PyData} (h : amongD C d = true) : ∃ x, d = .str x ∧ x ∈ C := by
  cases d with
  | str x => exact ⟨x, rfl, List.contains_iff_mem.mp h⟩
  | _ => cases h
theorem pair_of {C A : List Str} {d : PyData} (h : isPairD C A d = true) : ∃ k : Str × Str, d = pairD k ∧ k.1 ∈ C ∧ k.2 ∈ A := by
  cases d with
  | tuple ds =>
    match ds, h with
    | [x, y], h =>
      have h : (amongD C x && amongD A y) = true := h
      rw [Bool.and_eq_true] at h
      obtain ⟨a, rfl, ma⟩ := amongD_str h.1
      obtain ⟨b, rfl, mb⟩ := amongD_str h.2
      exact ⟨(a, b), rfl, ma, mb⟩
    | [], h => cases h
    | [x], h => cases h
    | x :: y :: z :: r, h => cases h
  | _ => cases h
theorem pairs_of {C A : List Str} : ∀ {ds : List PyData}, ds.all (isPairD C A) = true → ∃ st : List (Str × Str), ds = st.map pairD ∧ ∀ s ∈ st, s.1 ∈ C ∧ s.2 ∈ A
  | [], _ => ⟨[], rfl, fun _ h => nomatch h⟩
  | d :: r, h => by
    rw [List.all_cons, Bool.and_eq_true] at h
    obtain ⟨k, rfl, mk⟩ := pair_of h.1
    obtain ⟨st, rfl, ms⟩ := pairs_of h.2
    refine ⟨k :: st, rfl, fun s hs => ?_⟩
    rcases List.mem_cons.mp hs with rfl | hs
    · exact mk
    · exact ms s hs
theorem steps_of {C A : List Str} {d : PyData} (h : isLogD C A d = true) : ∃ st : List (Str × Str), d = .tuple (st.map pairD) ∧ st.length ≤ 24 ∧ ∀ s ∈ st, s.1 ∈ C ∧ s.2 ∈ A := by
  cases d with
  | tuple ds =>
    have h : (decide (ds.length ≤ 24) && ds.all (isPairD C A)) = true := h
    rw [Bool.and_eq_true] at h
    obtain ⟨st, rfl, ms⟩ := pairs_of h.2
    exact ⟨st, rfl, by have := of_decide_eq_true h.1; rwa [List.length_map] at this, ms⟩
  | _ => cases h
theorem isLog_of {C A : List Str} {st : List (Str × Str)} (hl : st.length ≤ 24) (h : ∀ s ∈ st, s.1 ∈ C ∧ s.2 ∈ A) : isLogD C A (.tuple (st.map pairD)) = true := by
  show (decide ((st.map pairD).length ≤ 24) && (st.map pairD).all (isPairD C A)) = true
  rw [List.length_map, decide_eq_true hl, Bool.true_and]
  refine List.all_eq_true.mpr fun d hd => ?_
  obtain ⟨k, hk, rfl⟩ := List.mem_map.mp hd
  show (amongD C (.str k.1) && amongD A (.str k.2)) = true
  rw [Bool.and_eq_true]
  exact ⟨List.contains_iff_mem.mpr (h k hk).1, List.contains_iff_mem.mpr (h k hk).2⟩
/-- a log in the heap -/
def LogAt (K : PySem.W.Frag) (H : Hp) (t : Addr) (st : List (Str × Str)) : Prop := ∃ xs, SqT K H t xs ∧ DpAll K H xs (st.map pairD)
theorem dpAll_same {K : PySem.W.Frag} {H H' : Hp} (e : Same H H') : ∀ {ds : List PyData} {xs : List V}, DpAll K H xs ds → DpAll K H' xs ds
  | [], _, .nil => .nil
  | _ :: _, _, .cons a r => .cons (Dp_same e _ _ a) (dpAll_same e r)
theorem LogAt.same {K : PySem.W.Frag} {H H' : Hp} {t : Addr} {st : List (Str × Str)} (e : Same H H') (h : LogAt K H t st) : LogAt K H' t st := by
  obtain ⟨xs, h1, h2⟩ := h
  exact ⟨xs, same_tup e h1, dpAll_same e h2⟩
theorem pair_dp_inv {K : PySem.W.Frag} {H : Hp} {v : V} {k : Str × Str} (h : Dp K H v (pairD k)) : ∃ q, v = .ref q ∧ SqT K H q [.str k.1, .str k.2] := by
  obtain ⟨a, b⟩ := k
  cases h with
  | tup ht ha =>
    cases ha with
    | cons x r =>
      cases r with
      | cons y r =>
        cases r
        cases x
        cases y
        exact ⟨_, rfl, ht⟩
theorem log_item {K : PySem.W.Frag} {H : Hp} {xs : List V} {st : List (Str × Str)} {i : Nat} {x : V} (h : DpAll K H xs (st.map pairD)) (hx : xs[i]? = some x) : ∃ k q, st[i]? = some k ∧ x = .ref q ∧ SqT K H q [.str k.1, .str k.2] := by
  obtain ⟨d, hd, dp⟩ := DpAll.get h hx
  rw [List.getElem?_map] at hd
  cases e : st[i]? with
  | none =>
    rw [e] at hd
    cases hd
  | some k =>
    rw [e] at hd
    obtain rfl : pairD k = d := Option.some.inj hd
    obtain ⟨q, rfl, hq⟩ := pair_dp_inv dp
    exact ⟨k, q, rfl, rfl, hq⟩
theorem log_dp {K : PySem.W.Frag} {H : Hp} {v : V} {st : List (Str × Str)} (h : Dx K H v (.tuple (st.map pairD))) : ∃ t, v = .ref t ∧ LogAt K H t st := by
  cases h with
  | flat h =>
    cases h with
    | tup ht ha => exact ⟨_, rfl, _, ht, ha⟩
theorem dpAll_len {K : PySem.W.Frag} {H : Hp} : ∀ {ds : List PyData} {xs : List V}, DpAll K H xs ds → xs.length = ds.length
  | _, _, .nil => rfl
  | _, _, .cons _ r => by rw [List.length_cons, List.length_cons, dpAll_len r]
end LG
set_option Elab.async false
set_option linter.all false
set_option maxRecDepth 100000
set_option maxHeartbeats 8000000
/-! The program's side of logs: what is one, how far a device answers so, what is told. -/
namespace K56
open PySem L2 LG
section
variable {P : Program} {w : World} {K : PySem.W.Frag} {mg : Str → Option Value} {base : Heap} {fI : Addr}
/-! ### a step -/
def spIsPair (K : PySem.W.Frag) : Sp := fun vs H Q _ => ∃ (v : V) (d : PyData) (tc ta : Addr) (C A : List Str), vs = [v, .ref tc, .ref ta] ∧ Dp K H v d ∧ SqT K H tc (C.map V.str) ∧ SqT K H ta (A.map V.str) ∧ Q (.bl (isPairD C A d)) H
abbrev nIp : List Str := ["value", "calls", "answers"]
theorem scIp : FnScope nIp ["value", "calls", "answers"] (defScope sIsPair) := ⟨rfl, rfl, rfl, by decide +kernel, rfl, by decide +kernel, by decide +kernel⟩
theorem ok_ispair {f g : Addr} {fd gd : FuncData} (F : Fun K "is_pair" "is_pair" sIsPair f fd) (T : Bltn mg) (G : FnOk P w K mg base CX0 1 g gd ["value", "names"] (spAmong K)) (mG : mg "is_among" = some (.ref g)) (kG : PySem.W.keepIn K (.ref g) = true) (bG : Binds K gd ["value", "names"] []) :
    FnOk P w K mg base CX0 2 f fd ["value", "calls", "answers"] (spIsPair K) := by
  refine F.ok scIp (fun vs H Q E h => ?_) (fun cdv A outer s H vs Q E hr h => ?_)
  · obtain ⟨v, d, tc, ta, C, A, rfl, _⟩ := h
    rfl
  obtain ⟨v, d, tc, ta, C, A, rfl, hd, hc, ha, q⟩ := h
  refine ⟨_, pss_cons (ps_if (PW.pt (pw_or (pt_not (pt_val (pe_callB call_isi rfl T.isinstance (by decide +kernel) (pa_cons (pv 0) (pa_cons (pe_bltn (v := .ty "tuple") (u := .type "tuple") rfl T.tuple (by decide +kernel) rfl) pa_nil))))) (pw_or1 (pt_cmpR op_ne (pe_callB call_len_seq rfl T.len PySem.boot_len (pa_cons (pv 0) pa_nil)) pe_int (nomark _)))))
      (pss_one (ps_ret pe_bl)) pss_nil)
    (pss_one (ps_ret (pe_and (pe_call G hr rfl mG kG bG .nil pass0 (pa_cons (pe_ix ix_tup (pv 0) pe_int (fun _ _ => rfl)) (pa_cons (pv 1) pa_nil))) (pe_one (pe_call G hr rfl mG kG bG .nil pass0 (pa_cons (pe_ix ix_tup (pv 0) pe_int (fun _ _ => rfl)) (pa_cons (pv 2) pa_nil))))))), ?_⟩
  by_cases isT : ∃ ds, d = .tuple ds
  · obtain ⟨ds, rfl⟩ := isT
    cases hd with
    | @tup t xs _ ht hall =>
      refine ⟨_, rfl, .ref t, .ty "tuple", .type "tuple", .type "tuple", true, rfl, .ty _, tup_ty ht, if_pos (beq_self_eq_true _), _, rfl, iteF ?_⟩
      have ll := dpAll_len hall
      refine ⟨_, rfl, t, _, rfl, .inr ht, rfl, _, rfl, ?_⟩
      by_cases l2 : xs.length = 2
      · refine iteN (by simp [l2]) ?_
        match xs, ds, l2, ll, hall, ht with
        | [x, y], [dx, dy], _, _, .cons h1 (.cons h2 .nil), ht =>
          have q : Q (.bl (amongD C dx && amongD A dy)) H := q
          rw [← among_dp (C := C) h1, ← among_dp (C := A) h2] at q
          refine ⟨_, rfl, t, _, 0, _, rfl, rfl, ht, atI_nat (j := 0) rfl, _, rfl, x, tc, C, rfl, (Dx.flat h1).strOr, .inr hc, _, rfl, ?_⟩
          cases e : amongB x C with
          | false =>
            rw [e, Bool.false_and] at q
            exact iteF q
          | true =>
            rw [e, Bool.true_and] at q
            exact iteT ⟨_, rfl, t, _, 1, _, rfl, rfl, ht, atI_nat (j := 1) rfl, _, rfl, y, ta, A, rfl, (Dx.flat h2).strOr, .inr ha, q⟩
      · refine iteC (by simp; omega) ?_
        rw [isPair_no (fun x y e => by cases e; exact l2 (by rw [ll]; rfl))] at q
        exact q
  · obtain ⟨ty, hty, kk⟩ := (Dx.flat hd).notup (fun xs z => isT ⟨xs, z⟩)
    rw [isPair_no (fun x y e => isT ⟨_, e⟩)] at q
    exact ⟨_, rfl, v, .ty "tuple", ty, .type "tuple", false, rfl, .ty _, hty, kk, _, rfl, iteT q⟩
/-! ### a log -/
def spIsRow (K : PySem.W.Frag) : Sp := fun vs H Q _ => ∃ (v : V) (d : PyData) (tc ta : Addr) (C A : List Str), vs = [v, .ref tc, .ref ta, .int 0, .int 24] ∧ Dx K H v d ∧ SqT K H tc (C.map V.str) ∧ SqT K H ta (A.map V.str) ∧ ∀ G, Same H G → Q (.bl (isLogD C A d)) G
abbrev nIr : List Str := ["value", "calls", "answers", "fewest", "most", "pair"]
theorem scIr : FnScope nIr ["value", "calls", "answers", "fewest", "most"] (defScope sIsRow) := ⟨rfl, rfl, rfl, by decide +kernel, rfl, by decide +kernel, by decide +kernel⟩
theorem ok_isrow {f g : Addr} {fd gd : FuncData} (F : Fun K "is_row" "is_row" sIsRow f fd) (T : Bltn mg) (G : FnOk P w K mg base CX0 2 g gd ["value", "calls", "answers"] (spIsPair K)) (mG : mg "is_pair" = some (.ref g)) (kG : PySem.W.keepIn K (.ref g) = true) (bG : Binds K gd ["value", "calls", "answers"] []) :
    FnOk P w K mg base CX0 3 f fd ["value", "calls", "answers", "fewest", "most"] (spIsRow K) := by
  refine F.ok scIr (fun vs H Q E h => ?_) (fun cdv A outer s H vs Q E hr h => ?_)
  · obtain ⟨v, d, tc, ta, C, A, rfl, _⟩ := h
    rfl
  obtain ⟨v, d, tc, ta, C, A, rfl, hd, hc, ha, q⟩ := h
  refine ⟨_, pss_cons (ps_if (PW.pt (pw_or (pt_not (pt_val (pe_callB call_isi rfl T.isinstance (by decide +kernel) (pa_cons (pv 0) (pa_cons (pe_bltn (v := .ty "tuple") (u := .type "tuple") rfl T.tuple (by decide +kernel) rfl) pa_nil))))) (pw_or1 (pt_not (pt_chain op_le op_le (pv 3) (pe_callB call_len_seq rfl T.len PySem.boot_len (pa_cons (pv 0) pa_nil)) (pv 4))))))
      (pss_one (ps_ret pe_bl)) pss_nil)
    (pss_one (ps_ret (pe_callB (cr_all rfl) rfl T.all (by decide +kernel) (pa_cons (pe_lc (own := [("pair", 5)]) (g := gName 5) (tt := tYes) rfl scIr.nd (pi_tup (pv 0)) (blkOk_by (own := [("pair", 5)]) (N := nIr) (sc := defScope sIsRow) (by decide +kernel))
      (fun _ _ _ _ _ => pg_name (i := 5) scIr.nd rfl (Or.inl rfl)) (fun _ _ _ _ _ => pts_nil)
      (fun _ _ _ _ _ => pe_call G hr rfl mG kG bG .nil pass0 (pa_cons (pv 5) (pa_cons (pv 1) (pa_cons (pv 2) pa_nil))))) pa_nil)))), ?_⟩
  by_cases isT : ∃ ds, d = .tuple ds
  · obtain ⟨ds, rfl⟩ := isT
    cases hd with
    | flat hd =>
      cases hd with
      | @tup t xs _ ht hall =>
        refine ⟨_, rfl, .ref t, .ty "tuple", .type "tuple", .type "tuple", true, rfl, .ty _, tup_ty ht, if_pos (beq_self_eq_true _), _, rfl, iteF ?_⟩
        have ll := dpAll_len hall
        refine ⟨_, rfl, _, rfl, t, _, rfl, .inr ht, _, _, rfl, rfl, _, rfl, iteC (decide_eq_true (by omega)) ?_⟩
        refine ⟨_, rfl, _, _, rfl, rfl, _, rfl, ?_⟩
        have eL : isLogD C A (.tuple ds) = (decide (ds.length ≤ 24) && ds.all (isPairD C A)) := rfl
        rw [eL] at q
        by_cases c2 : (xs.length : Int) ≤ 24
        · rw [decide_eq_true c2]
          refine iteF ⟨_, rfl, t, rfl, ⟨_, ht⟩, fun D nD => ?_⟩
          refine lc_all walk_tup nD (fun i => V.bl (isPairD C A (ds.getD i .none))) (by rw [sizeLine_eq]; omega) (fun G sG => same_tup sG ht) ?_ ?_
          · rintro i x G4 G5 Kt hi4 sG ⟨rfl, hx⟩ hK
            obtain ⟨dx, hdx, dpx⟩ := DpAll.get hall hx
            refine ⟨rfl, _, rfl, _, rfl, _, rfl, x, dx, tc, ta, C, A, rfl, Dp_same sG _ _ dpx, same_tup sG hc, same_tup sG ha, ?_⟩
            have := hK _ (Same.refl _)
            rw [List.getD_eq_getElem?_getD, hdx] at this
            exact this
          · intro G sG hD
            have e1 : (List.range xs.length).map (fun i => V.bl (isPairD C A (ds.getD i .none))) = (ds.map (isPairD C A)).map V.bl := by
              rw [ll]
              apply List.ext_getElem
              · simp
              · intro k h1 h2
                have hk : k < ds.length := by simpa using h1
                simp [List.getD, hk]
            rw [e1] at hD
            refine ⟨D, _, rfl, SqL.of hD, ?_⟩
            have := q G sG
            rw [decide_eq_true (by omega), Bool.true_and] at this
            have e : (ds.map (isPairD C A)).all id = ds.all (isPairD C A) := by
              rw [List.all_map]
              rfl
            rw [e]
            exact this
        · rw [decide_eq_false c2]
          have := q H (Same.refl H)
          rw [decide_eq_false (by omega), Bool.false_and] at this
          exact iteT this
  · obtain ⟨ty, hty, kk⟩ := hd.notup (fun xs z => isT ⟨xs, z⟩)
    have e0 : isLogD C A d = false := by
      cases d with
      | tuple ds => exact absurd ⟨ds, rfl⟩ isT
      | _ => rfl
    have := q H (Same.refl H)
    rw [e0] at this
    exact ⟨_, rfl, v, .ty "tuple", ty, .type "tuple", false, rfl, .ty _, hty, kk, _, rfl, iteT this⟩
end
end K56
set_option Elab.async false
set_option linter.all false
set_option maxRecDepth 100000
set_option maxHeartbeats 1600000
/-! A watch goes on: a step, a log. -/
namespace LG
open PySem L2
def stepW (W : Wat) (m c a : Str) : Str := (W.steps.lookup (m, c, a)).getD m
def loggedW (W : Wat) : Str → List (Str × Str) → Str
  | m, [] => m
  | m, k :: r => loggedW W (stepW W m k.1 k.2) r
theorem loggedW_app (W : Wat) : ∀ (s r : List (Str × Str)) (m : Str), loggedW W m (s ++ r) = loggedW W (loggedW W m s) r
  | [], _, _ => rfl
  | k :: s, r, m => loggedW_app W s r (stepW W m k.1 k.2)
theorem goals_get {H : Hp} {g t : Addr} {st : Steps} {m c a : Str} (h : GoalsAt H g st) (ht : H t = some (.tup [.str m, .str c, .str a])) : DGet H g (.ref t) ((st.lookup (m, c, a)).map V.str) :=
  .inr ⟨kvW st, kT3 (m, c, a), t, h, rfl, ht, (kvW_val st (m, c, a)).symm⟩
theorem getD_str (o : Option Str) (m : Str) : (o.map V.str).getD (.str m) = .str (o.getD m) := by cases o <;> rfl
end LG
namespace K56
open PySem L2 LG
section
variable {P : Program} {w : World} {K : PySem.W.Frag} {mg : Str → Option Value} {base : Heap} {fI C CL : Addr}
def spStep (K : PySem.W.Frag) (C : Addr) : Sp := fun vs H Q _ => ∃ (x : Addr) (T : Str) (W : Wat) (m c a : Str), vs = [.ref x, .str m, .str c, .str a] ∧ DevAt K H x C T W ∧ ∀ G, Same H G → Q (.str (stepW W m c a)) G
theorem scStep : FnScope ["self", "mark", "call", "answer"] ["self", "mark", "call", "answer"] (defScope sDStep) := ⟨rfl, rfl, rfl, by decide +kernel, rfl, by decide +kernel, by decide +kernel⟩
theorem ok_step {f : Addr} {fd : FuncData} (F : Fun K "step" "Watch.step" sDStep f fd) (DC : DevCl K mg C) : FnOk P w K mg base CX0 1 f fd ["self", "mark", "call", "answer"] (spStep K C) := by
  refine F.ok scStep (fun vs H Q E h => ?_) (fun cdv A outer s H vs Q E hr h => ?_)
  · obtain ⟨x, T, W, m, c, a, rfl, _⟩ := h
    rfl
  obtain ⟨x, T, W, m, c, a, rfl, ⟨dx, cc, aa, ss, g0, hx, hc, ha, hs, hg⟩, q⟩ := h
  have hu := hu_of hr
  refine ⟨_, pss_one (ps_ret (pe_dget2 hu (pe_fld (pv 0) rfl) (pe_tup (pa_cons (pv 1) (pa_cons (pv 2) (pa_cons (pv 3) pa_nil)))) (pv 1) ⟨rfl, rfl, rfl, rfl⟩)), ?_⟩
  refine ⟨_, rfl, x, C, dx, _, _, rfl, hx, DC.cl, DC.ng, rfl, g0, rfl, .inr ⟨_, hg⟩, _, rfl, _, rfl, _, rfl, (by show 3 ≤ sizeLine; decide), fun t nt => ?_⟩
  have s1 := same_new nt (.tup [.str m, .str c, .str a])
  refine ⟨_, rfl, _, goals_get (hg.same s1) upd_same, ?_⟩
  rw [getD_str]
  exact q _ s1
def spBehind (K : PySem.W.Frag) (C CL : Addr) : Sp := fun vs H Q E => ∃ (x : Addr) (v : V) (d : PyData) (T : Str) (W : Wat), vs = [.ref x, v] ∧ DevAt K H x C T W ∧ 1 ≤ W.marks.length ∧ Dx K H v d ∧
  (isLogD W.calls W.answers d = false → ∀ a G, Same H G → G a = none → E (.ref CL) (some a) (upd G a (.xd (vf v)))) ∧ (∀ st, d = .tuple (st.map pairD) → isLogD W.calls W.answers d = true → ∀ G, Same H G → Q (.str (loggedW W (W.marks.headD Str.empty) st)) G)
abbrev nBe : List Str := ["self", "log", "mark", "call", "answer"]
theorem scBe : FnScope nBe ["self", "log"] (defScope sDBehind) := ⟨rfl, rfl, rfl, by decide +kernel, rfl, by decide +kernel, by decide +kernel⟩
theorem ok_behind {f g g2 : Addr} {fd gd gd2 : FuncData} {tM : Tok} (F : Fun K "behind" "Watch.behind" sDBehind f fd) (DC : DevCl K mg C) (I : Ini P w K mg base fI) (cL : ECl K mg fI "BadLog" CL) (hM : mg "MOST_STEPS" = some (.int 24 tM))
    (G : FnOk P w K mg base CX0 3 g gd ["value", "calls", "answers", "fewest", "most"] (spIsRow K)) (mG : mg "is_row" = some (.ref g)) (kG : PySem.W.keepIn K (.ref g) = true) (bG : Binds K gd ["value", "calls", "answers", "fewest", "most"] [])
    (GS : FnOk P w K mg base CX0 1 g2 gd2 ["self", "mark", "call", "answer"] (spStep K C)) (mS : Meth K C "step" g2) (bS : Binds K gd2 ["self", "mark", "call", "answer"] []) :
    FnOk P w K mg base (L2.CX P w) 4 f fd ["self", "log"] (spBehind K C CL) := by
  refine F.okX scBe (fun vs H Q E h => ?_) (fun cdv A0 outer st H vs Q E hr h => ?_)
  · obtain ⟨x, v, d, T, W, rfl, _⟩ := h
    rfl
  obtain ⟨x, v, d, T, W, rfl, hD, m1, hd, qn, qy⟩ := h
  have r2 : Room 2 _ := hr.mono (by decide)
  have r1 : Room 1 _ := hr.mono (by decide)
  have r3 : Room 3 _ := hr.mono (by decide)
  have tk := takes_of (X := cxOf (L2.CX P w) P w K mg base nBe "Watch.behind" (defScope sDBehind) f cdv A0 outer st H E) rfl rfl rfl rfl
  refine' ⟨_, pss_cons (ps_if (pt_not (pt_val (pe_call G r3 rfl mG kG bG .nil pass0 (pa_cons (pv 1) (pa_cons (pe_fld (pv 0) rfl) (pa_cons (pe_fld (pv 0) rfl) (pa_cons pe_int (pa_cons (pe_glob (v := .int 24) rfl hM ⟨_, rfl⟩) pa_nil)))))))) (pss_one (ps_err rfl I cL r2 tk (pv 1) rfl)) pss_nil)
    (pss_cons (ps_set (i := 2) scBe.nd rfl (Or.inl rfl) (pe_ix ix_tup (pe_fld (pv 0) rfl) pe_int (fun _ _ => rfl)))
    (pss_cons (ps_for (passes_of rfl) rfl (pi_tup (pv 1)) (pg_tup rfl (pgs_cons (pg_name (i := 3) scBe.nd rfl (Or.inl rfl)) (pgs_cons (pg_name (i := 4) scBe.nd rfl (Or.inl rfl)) pgs_nil)))
      (pss_one (ps_set (i := 2) scBe.nd rfl (Or.inl rfl) (pe_meth (pv 0) DC.cl mS GS r1 bS .nil pass0 (pa_cons (pv 2) (pa_cons (pv 3) (pa_cons (pv 4) pa_nil)))))))
    (pss_one (ps_ret (pv 2))))), ?main⟩
  case main =>
    obtain ⟨dx, c0, a0, s0, g0, hx, hc, ha, hs, hg⟩ := id hD
    refine ⟨_, rfl, _, rfl, x, C, dx, _, _, rfl, hx, DC.cl, DC.nc, rfl, _, rfl, x, C, dx, _, _, rfl, hx, DC.cl, DC.na, rfl, v, d, c0, a0, W.calls, W.answers, rfl, hd, hc, ha, fun G sG => ⟨_, rfl, ?_⟩⟩
    cases e : isLogD W.calls W.answers d with
    | false => exact iteT ⟨_, rfl, fun a na => qn e a G sG na⟩
    | true =>
      obtain ⟨steps, rfl, l24, mem⟩ := steps_of e
      obtain ⟨t, rfl, ts, ht, hall⟩ := log_dp hd
      have e0 : (W.marks.map V.str)[0]? = some (.str (W.marks.headD Str.empty)) := by
        match hm : W.marks, m1 with
        | y :: r, _ => rfl
      refine iteF ⟨_, rfl, x, C, dx, _, _, rfl, sG _ _ hx, DC.cl, DC.ns, rfl, s0, _, 0, _, rfl, rfl, same_tup sG hs, atI_nat (j := 0) e0, ?_⟩
      have htG := same_tup sG ht
      have haG := dpAll_same sG hall
      have ll := dpAll_len hall
      rw [List.length_map] at ll
      refine ⟨_, rfl, t, rfl, ⟨_, htG⟩, ?_⟩
      refine for_it walk_tup (fun i σ F => ∃ x3 x4, σ = [some (.ref x), some (.ref t), some (.str (loggedW W (W.marks.headD Str.empty) (steps.take i))), x3, x4] ∧ Same G F) ⟨_, _, rfl, Same.refl G⟩ (fun i σ F _ ⟨_, _, _, sF⟩ => same_tup sF htG) ?_ ?_
      · rintro i y σ F F' hi ⟨x3, x4, rfl, sF⟩ ⟨rfl, hy⟩
        obtain ⟨k, q1, hk, rfl, hq1⟩ := log_item (dpAll_same sF haG) hy
        refine ⟨q1, _, rfl, hq1, rfl, _, _, rfl, _, _, rfl, rfl, ?_⟩
        refine ⟨_, rfl, x, dx, _, rfl, (sG.trans sF) _ _ hx, rfl, _, rfl, _, rfl, _, rfl, x, T, W, _, k.1, k.2, rfl, hD.same (sG.trans sF), fun F2 s2 => ?_⟩
        have et : steps.take (i + 1) = steps.take i ++ [k] := by rw [List.take_add_one, hk]; rfl
        rw [et, loggedW_app]
        exact ⟨_, _, rfl, sF.trans s2⟩
      · rintro σ F ⟨x3, x4, rfl, sF⟩
        rw [ll, List.take_length]
        exact ⟨_, rfl, qy steps rfl e F (sG.trans sF)⟩
end
end K56
set_option Elab.async false
set_option linter.all false
set_option maxRecDepth 100000
set_option maxHeartbeats 1600000
/-! From a mark to broken. -/
namespace LG
open PySem L2
inductive Reach (W : Wat) (m : Str) : Str → Prop
  | refl : Reach W m m
  | step {n c a : Str} : Reach W m n → c ∈ W.calls → a ∈ W.answers → Reach W m (stepW W n c a)
theorem look_mem {g : Steps} {k : Str × Str × Str} {x : Str} (h : g.lookup k = some x) : (k, x) ∈ g := by
  induction g with
  | nil => cases h
  | cons e r ih =>
    obtain ⟨k', x'⟩ := e
    by_cases he : k = k'
    · subst he
      have : List.lookup k ((k, x') :: r) = some x' := by simp [List.lookup]
      rw [this] at h
      cases h
      exact List.mem_cons_self
    · have nb : (k == k') = false := by simpa using he
      have : List.lookup k ((k', x') :: r) = List.lookup k r := by simp [List.lookup, nb]
      rw [this] at h
      exact List.mem_cons_of_mem _ (ih h)
theorem DrawnW.goal {W : Wat} (d : DrawnW W) {m : Str} (c a : Str) (h : m ∈ W.marks ++ [BRK]) : stepW W m c a ∈ W.marks ++ [BRK] := by
  unfold stepW
  cases e : W.steps.lookup (m, c, a) with
  | none => exact h
  | some x => exact (d.vals _ (look_mem e)).2.2.2
theorem DrawnW.brk {W : Wat} (d : DrawnW W) (c a : Str) : stepW W BRK c a = BRK := by
  unfold stepW
  cases e : W.steps.lookup (BRK, c, a) with
  | none => rfl
  | some x => exact absurd (d.vals _ (look_mem e)).1 d.nb
/-- found so far: i marks are gone on with, of the next one the first j steps -/
structure Fd (W : Wat) (ks : List (Str × Str)) (m0 : Str) (S : List Str) (i j : Nat) : Prop where
  nd : S.Nodup
  mem : ∀ m ∈ S, m ∈ W.marks ++ [BRK]
  re : ∀ m ∈ S, Reach W m0 m
  first : m0 ∈ S
  nb : ∀ k, k < i → S[k]? ≠ some BRK
  cl : ∀ k m c a, k < i → S[k]? = some m → (c, a) ∈ ks → stepW W m c a ∈ S
  cur : ∀ m c a, S[i]? = some m → (c, a) ∈ ks.take j → stepW W m c a ∈ S
theorem Fd.start {W : Wat} {ks : List (Str × Str)} {m0 : Str} (h : m0 ∈ W.marks ++ [BRK]) : Fd W ks m0 [m0] 0 0 :=
  ⟨List.nodup_cons.mpr ⟨by simp, List.nodup_nil⟩, fun m hm => by rw [List.mem_singleton.mp hm]; exact h, fun m hm => by rw [List.mem_singleton.mp hm]; exact .refl, List.mem_cons_self, fun k hk => absurd hk (by omega), fun k _ _ _ hk => absurd hk (by omega), fun m c a _ h => by simp at h⟩
theorem Fd.len {W : Wat} {ks : List (Str × Str)} {m0 : Str} {S : List Str} {i j : Nat} (d : DrawnW W) (h : Fd W ks m0 S i j) : S.length ≤ 5 := by
  have le : ∀ {l m : List Str}, l.Nodup → (∀ x ∈ l, x ∈ m) → l.length ≤ m.length := by
    intro l
    induction l with
    | nil => intro m _ _; exact Nat.zero_le _
    | cons x r ih =>
      intro m nd h
      obtain ⟨n1, n2⟩ := List.nodup_cons.mp nd
      have hx := h x List.mem_cons_self
      have := ih (m := m.erase x) n2 fun y hy => (List.mem_erase_of_ne (fun z : y = x => n1 (by rw [← z]; exact hy))).mpr (h y (List.mem_cons_of_mem _ hy))
      rw [List.length_erase_of_mem hx] at this
      have : 0 < m.length := List.length_pos_of_mem hx
      rw [List.length_cons]
      omega
  have := le h.nd h.mem
  rw [List.length_append] at this
  have e : [BRK].length = 1 := rfl
  have := d.m1
  omega
theorem Fd.next {W : Wat} {ks : List (Str × Str)} {m0 : Str} {S : List Str} {i : Nat} (h : Fd W ks m0 S i ks.length) (nb : S[i]? ≠ some BRK) : Fd W ks m0 S (i + 1) 0 :=
  { h with
    nb := fun k hk => by
      rcases Nat.lt_or_ge k i with z | z
      · exact h.nb k z
      · have : k = i := by omega
        rw [this]
        exact nb
    cl := fun k m c a hk hm hc => by
      rcases Nat.lt_or_ge k i with z | z
      · exact h.cl k m c a z hm hc
      · have : k = i := by omega
        rw [this] at hm
        exact h.cur m c a hm (by rw [List.take_length]; exact hc)
    cur := fun m c a _ hc => by simp at hc }
theorem Fd.old {W : Wat} {ks : List (Str × Str)} {m0 : Str} {S : List Str} {i j : Nat} {m c a : Str} (h : Fd W ks m0 S i j) (hm : S[i]? = some m) (hk : ks[j]? = some (c, a)) (hg : stepW W m c a ∈ S) : Fd W ks m0 S i (j + 1) :=
  { h with
    cur := fun m' c' a' hm' hc => by
      rw [hm] at hm'
      cases hm'
      rw [List.take_add_one, hk] at hc
      rcases List.mem_append.mp hc with hc | hc
      · exact h.cur m c' a' hm hc
      · have e : (c', a') = (c, a) := by simpa using hc
        cases e
        exact hg }
theorem Fd.new {W : Wat} {ks : List (Str × Str)} {m0 : Str} {S : List Str} {i j : Nat} {m c a : Str} (d : DrawnW W) (h : Fd W ks m0 S i j) (hm : S[i]? = some m) (hk : ks[j]? = some (c, a)) (mc : c ∈ W.calls) (ma : a ∈ W.answers) (hg : stepW W m c a ∉ S) : Fd W ks m0 (S ++ [stepW W m c a]) i (j + 1) := by
  have il := (List.getElem?_eq_some_iff.mp hm).1
  have get : ∀ k, k ≤ i → (S ++ [stepW W m c a])[k]? = S[k]? := fun k hk => List.getElem?_append_left (by omega)
  have mS := List.mem_of_getElem? hm
  refine ⟨?_, fun x hx => ?_, fun x hx => ?_, List.mem_append_left _ h.first, fun k hk => by rw [get k (by omega)]; exact h.nb k hk, fun k m' c' a' hk hm' hc => ?_, fun m' c' a' hm' hc => ?_⟩
  · rw [List.nodup_append]
    refine ⟨h.nd, by simp, fun x hx y hy z => ?_⟩
    have hy : y = stepW W m c a := List.mem_singleton.mp hy
    rw [z, hy] at hx
    exact hg hx
  · rcases List.mem_append.mp hx with hx | hx
    · exact h.mem x hx
    · rw [List.mem_singleton.mp hx]
      exact d.goal c a (h.mem m mS)
  · rcases List.mem_append.mp hx with hx | hx
    · exact h.re x hx
    · rw [List.mem_singleton.mp hx]
      exact (h.re m mS).step mc ma
  · rw [get k (by omega)] at hm'
    exact List.mem_append_left _ (h.cl k m' c' a' hk hm' hc)
  · rw [get i (Nat.le_refl _), hm] at hm'
    cases hm'
    rw [List.take_add_one, hk] at hc
    rcases List.mem_append.mp hc with hc | hc
    · exact List.mem_append_left _ (h.cur m c' a' hm hc)
    · have e : (c', a') = (c, a) := by simpa using hc
      cases e
      exact List.mem_append_right _ List.mem_cons_self
theorem Fd.done {W : Wat} {ks : List (Str × Str)} {m0 : Str} {S : List Str} {j : Nat} (h : Fd W ks m0 S S.length j) (full : ∀ c a, c ∈ W.calls → a ∈ W.answers → (c, a) ∈ ks) : ¬ Reach W m0 BRK := by
  have all : ∀ {m}, Reach W m0 m → m ∈ S := fun {m} r => by
    induction r with
    | refl => exact h.first
    | @step n c a _ hc ha ih =>
      obtain ⟨k, hk⟩ := List.getElem?_of_mem ih
      exact h.cl k n c a (List.getElem?_eq_some_iff.mp hk).1 hk (full c a hc ha)
  intro r
  obtain ⟨k, hk⟩ := List.getElem?_of_mem (all r)
  exact h.nb k (List.getElem?_eq_some_iff.mp hk).1 hk
/-- the logs beside the marks: tuples -/
def LgAt (H : Hp) (vs : List V) : Prop := ∀ k v, vs[k]? = some v → ∃ q xs, v = .ref q ∧ H q = some (.tup xs) ∧ xs.length ≤ k
theorem LgAt.same {H H' : Hp} {vs : List V} (e : Same H H') (h : LgAt H vs) : LgAt H' vs := fun k v hk => by
  obtain ⟨q, xs, h1, h2, h3⟩ := h k v hk
  exact ⟨q, xs, h1, e _ _ h2, h3⟩
theorem LgAt.upd {H : Hp} {vs : List V} {f : Addr} {ys : List V} {o : HO} (hf : H f = some (.lst ys)) (h : LgAt H vs) : LgAt (upd H f o) vs := fun k v hk => by
  obtain ⟨q, xs, h1, h2, h3⟩ := h k v hk
  exact ⟨q, xs, h1, by rw [upd_ne (fun z => by rw [z, hf] at h2; cases h2)]; exact h2, h3⟩
theorem LgAt.snoc {H : Hp} {vs : List V} {q : Addr} {xs : List V} (h : LgAt H vs) (hq : H q = some (.tup xs)) (hl : xs.length ≤ vs.length) : LgAt H (vs ++ [.ref q]) := fun k v hk => by
  rcases Nat.lt_or_ge k vs.length with z | z
  · rw [List.getElem?_append_left z] at hk
    exact h k v hk
  · rw [List.getElem?_append_right z] at hk
    have e0 : k - vs.length = 0 := by
      rcases Nat.eq_zero_or_pos (k - vs.length) with y | y
      · exact y
      · rw [List.getElem?_eq_none (by show 1 ≤ _; omega)] at hk
        cases hk
    rw [e0] at hk
    cases hk
    exact ⟨q, xs, rfl, hq, by omega⟩
end LG
set_option Elab.async false
set_option linter.all false
set_option maxRecDepth 100000
set_option maxHeartbeats 1600000
namespace LG
open PySem L2
/-- a loop within: Pv by the turn and the heap -/
theorem loop_it {J : It} {n : Nat} {G : Hp → Prop} {Y : Nat → Hp → V → Hp → Prop} (w : Walk J n G Y) {A : V → Hp → (Hp → Prop) → Prop} {Qd : Hp → Prop} {H0 : Hp} (Pv : Nat → Hp → Prop) (h0 : Pv 0 H0) (hG : ∀ i H, i ≤ n → Pv i H → G H)
    (hs : ∀ i x H H', i < n → Pv i H → Y i H x H' → A x H' (Pv (i + 1))) (hd : ∀ H, Pv n H → Qd H) :
    ∃ W : Nat → Nat → Hp → Prop, (∃ m, W 0 m H0) ∧ ∀ i m H, W i m H → (J.stop i H ∧ Qd H) ∨ (J.go i H ∧ ∃ Nx : Hp → Prop, (∀ H', Nx H' → ∃ m', m' < m ∧ W (i + 1) m' H') ∧ ∀ x H', J.yld i H x H' → A x H' Nx) := by
  refine ⟨fun i m H => m = n - i ∧ i ≤ n ∧ Pv i H, ⟨n, by simp, Nat.zero_le _, h0⟩, ?_⟩
  rintro i m H ⟨rfl, hi, p⟩
  have q := hG i H hi p
  by_cases hlt : i < n
  · exact .inr ⟨w.goes i H hlt q, Pv (i + 1), fun H' p' => ⟨n - (i + 1), by omega, rfl, hlt, p'⟩, fun x H' y => hs i x H H' hlt p (w.yields i H x H' hlt q y)⟩
  · have e : i = n := by omega
    subst e
    exact .inl ⟨w.stops H q, hd H p⟩
theorem KeyRefs.set_lst {H : Hp} {a : Addr} {xs : List V} {o : HO} {vs : List V} {ks : List (Str × Str)} (h : H a = some (.lst xs)) (k : KeyRefs H vs ks) : KeyRefs (upd H a o) vs ks := by
  induction k with
  | nil => exact .nil
  | cons e _ ih => exact .cons (by rw [upd_ne (fun z => by rw [z, h] at e; cases e)]; exact e) ih
theorem KeyRefs.add {H : Hp} {vs : List V} {ks : List (Str × Str)} {t : Addr} {k : Str × Str} (h : KeyRefs H vs ks) (a : H t = some (.tup ((kT k).map kV))) : KeyRefs H (vs ++ [.ref t]) (ks ++ [k]) := by
  induction h with
  | nil => exact .cons a .nil
  | cons b _ ih => exact .cons b ih
theorem KeyRefs.nth {H : Hp} {vs : List V} {ks : List (Str × Str)} (h : KeyRefs H vs ks) {i : Nat} {v : V} (hv : vs[i]? = some v) : ∃ t k, v = .ref t ∧ ks[i]? = some k ∧ H t = some (.tup [.str k.1, .str k.2]) := by
  obtain ⟨t, k, h1, h2, h3⟩ := h.get hv
  exact ⟨t, k, h1, h2, h3⟩
/-- all pairs of a call and an answer -/
def allK (C A : List Str) : List (Str × Str) := C.flatMap fun c => A.map fun a => (c, a)
theorem allK_take {C A : List Str} {i : Nat} {c : Str} (h : C[i]? = some c) : allK (C.take (i + 1)) A = allK (C.take i) A ++ A.map fun a => (c, a) := by
  rw [List.take_add_one, h]
  show List.flatMap _ (C.take i ++ [c]) = _
  rw [List.flatMap_append]
  show _ ++ List.flatMap _ [c] = _
  rw [List.flatMap_singleton]
  rfl
theorem take_snoc {α β : Type} {f : α → β} {A : List α} {j : Nat} {a : α} (h : A[j]? = some a) : (A.take (j + 1)).map f = (A.take j).map f ++ [f a] := by
  rw [List.take_add_one, h, List.map_append]
  rfl
theorem allK_mem {C A : List Str} {k : Str × Str} : k ∈ allK C A ↔ k.1 ∈ C ∧ k.2 ∈ A := by
  unfold allK
  rw [List.mem_flatMap]
  constructor
  · rintro ⟨c, hc, hk⟩
    obtain ⟨a, ha, rfl⟩ := List.mem_map.mp hk
    exact ⟨hc, ha⟩
  · rintro ⟨h1, h2⟩
    exact ⟨k.1, h1, List.mem_map.mpr ⟨k.2, h2, rfl⟩⟩
theorem allK_len {C A : List Str} : (allK C A).length = C.length * A.length := by
  induction C with
  | nil => simp [allK]
  | cons c r ih =>
    show ((A.map fun a => (c, a)) ++ allK r A).length = _
    rw [List.length_append, List.length_map, ih, List.length_cons, Nat.succ_mul, Nat.add_comm]
theorem cat_new {K : PySem.W.Frag} {H : Hp} {a b : Addr} {xs : List V} {y : V} {Q : VK} (ha : SqT K H a xs) (hb : SqT K H b [y]) (hz : xs.length + 1 ≤ sizeLine) (q : ∀ r G, Same H G → G r = some (.tup (xs ++ [y])) → Q (.ref r) G) (hb2 : H b = some (.tup [y])) : rCatA K (.ref a) (.ref b) H Q :=
  ⟨a, b, xs, [y], rfl, rfl, ha, hb, hz, (fun e => by subst e; exact q b H (Same.refl H) hb2), (fun _ h => by cases h), fun _ _ p np => q p _ (same_new np _) upd_same⟩
theorem same_upd_new {H F : Hp} {a : Addr} {o : HO} (s : Same H F) (n : H a = none) : Same H (upd F a o) := fun b p hb => by
  rw [upd_ne (fun z => by rw [z, n] at hb; cases hb)]
  exact s b p hb
def WyAt (W : Wat) (H F : Hp) (D fo lo : Addr) (m0 : Str) (S : List Str) (i j : Nat) : Prop := Same H F ∧ ∃ vl lv, F D = some (.lst vl) ∧ KeyRefs F vl (allK W.calls W.answers) ∧ F fo = some (.lst (S.map V.str)) ∧ F lo = some (.lst lv) ∧ lv.length = S.length ∧ LgAt F lv ∧ Fd W (allK W.calls W.answers) m0 S i j
theorem WyAt.same {W : Wat} {H F F' : Hp} {D fo lo : Addr} {m0 : Str} {S : List Str} {i j : Nat} (s : Same F F') (h : WyAt W H F D fo lo m0 S i j) : WyAt W H F' D fo lo m0 S i j := by
  obtain ⟨h0, vl, lv, h1, h2, h3, h4, h5, h6, h7⟩ := h
  exact ⟨h0.trans s, vl, lv, s _ _ h1, h2.same s, s _ _ h3, s _ _ h4, h5, h6.same s, h7⟩
end LG
namespace K56
open PySem L2 LG
section
variable {P : Program} {w : World} {K : PySem.W.Frag} {mg : Str → Option Value} {base : Heap} {fI C CL : Addr}
def spWay (K : PySem.W.Frag) (C : Addr) : Sp := fun vs H Q _ => ∃ (x : Addr) (T : Str) (W : Wat) (m : Str), vs = [.ref x, .str m] ∧ DevAt K H x C T W ∧ DrawnW W ∧ m ∈ W.marks ++ [BRK] ∧ (Reach W m BRK → ∀ q G, Same H G → Q (.ref q) G) ∧ (¬ Reach W m BRK → ∀ G, Same H G → Q .non G)
abbrev nWy : List Str := ["watch", "first", "steps", "found", "logs", "at", "call", "answer", "goal"]
theorem scWy : FnScope nWy ["watch", "first"] (defScope sWay) := ⟨rfl, rfl, rfl, by decide +kernel, rfl, by decide +kernel, by decide +kernel⟩
theorem ok_way {f g2 : Addr} {fd gd2 : FuncData} (F : Fun K "way_to_broken" "way_to_broken" sWay f fd) (T : Bltn mg) (DC : DevCl K mg C) (hB : ∃ t, mg "BROKEN" = some (.str BRK t))
    (GS : FnOk P w K mg base CX0 1 g2 gd2 ["self", "mark", "call", "answer"] (spStep K C)) (mS : Meth K C "step" g2) (bS : Binds K gd2 ["self", "mark", "call", "answer"] []) :
    FnOk P w K mg base CX0 2 f fd ["watch", "first"] (spWay K C) := by
  refine F.ok scWy (fun vs H Q E h => ?_) (fun cdv A0 outer st H vs Q E hr h => ?_)
  · obtain ⟨x, T, W, m, rfl, _⟩ := h
    rfl
  obtain ⟨x, T', W, m0, rfl, hD, dr, mm, qr, qn⟩ := h
  obtain ⟨tB, mB⟩ := hB
  have r1 : Room 1 _ := hr.mono (by decide)
  refine' ⟨_, pss_cons ?steps (pss_cons (ps_set (i := 3) scWy.nd rfl (Or.inl rfl) (pe_lst (pa_cons (pv 1) pa_nil))) (pss_cons (ps_set (i := 4) scWy.nd rfl (Or.inl rfl) (pe_lst (pa_cons (pe_tup pa_nil) pa_nil))) (pss_cons (ps_set (i := 5) scWy.nd rfl (Or.inl rfl) pe_int)
    (pss_cons (ps_while PassesOwn.never (pt_cmpR op_lt (pv 5) (pe_callB call_len_seq rfl T.len PySem.boot_len (pa_cons (pv 3) pa_nil)) (nomark _))
      (pss_cons (ps_if (pt_cmpR op_eq (pe_ix ix_list (pv 3) (pv 5) (fun _ _ => rfl)) (pe_glob (v := .str BRK) rfl mB ⟨_, rfl⟩) (nomark _)) (pss_one (ps_ret (pe_ix ix_list (pv 4) (pv 5) (fun _ _ => rfl)))) pss_nil)
      (pss_cons (ps_for PassesOwn.never rfl (pi_list (pv 2)) (pg_tup rfl (pgs_cons (pg_name (i := 6) scWy.nd rfl (Or.inl rfl)) (pgs_cons (pg_name (i := 7) scWy.nd rfl (Or.inl rfl)) pgs_nil)))
        (pss_cons (ps_set (i := 8) scWy.nd rfl (Or.inl rfl) (pe_meth (pv 0) DC.cl mS GS r1 bS .nil pass0 (pa_cons (pe_ix ix_list (pv 3) (pv 5) (fun _ _ => rfl)) (pa_cons (pv 6) (pa_cons (pv 7) pa_nil)))))
        (pss_one (ps_if (pt_cmpR op_notIn_txt (pv 8) (pv 3) (by rfl)) (pss_cons ?app1 (pss_one ?app2)) pss_nil))))
      (pss_one (ps_aug (i := 5) scWy.nd rfl (Or.inl rfl) pe_int ip_add)))))
    (pss_one (ps_ret pe_non)))))), ?main⟩
  case steps =>
    exact ps_setLc2 (i := 2) (te := tTup (tCons (tVar 6) (tCons (tVar 7) tNil))) (tt := tYes) (tt1 := tYes) (own := [("call", 6), ("answer", 7)]) (vs1 := [7]) (wi := iTup K (tFld K (tVar 0) "calls")) (wi1 := iTup K (tFld K (tVar 0) "answers")) (g := gName 6) (g1 := gName 7) rfl scWy.nd rfl rfl (sw_true rfl rfl rfl (by decide +kernel)) (pi_tup (pe_fld (pv 0) rfl))
      (blkOk_by (own := [("call", 6), ("answer", 7)]) (N := nWy) (sc := defScope sWay) (by decide +kernel)) (by decide) (fun _ _ _ _ _ => pg_name (i := 6) scWy.nd rfl (Or.inl rfl)) (fun _ _ _ _ _ => pts_nil) (fun _ _ _ _ _ => by exact pi_tup (pe_fld (pv 0) rfl)) (fun _ _ _ _ _ => pg_name (i := 7) scWy.nd rfl (Or.inl rfl)) (fun _ _ _ _ _ => pts_nil)
      (fun _ _ _ _ _ => by exact pe_tup (pa_cons (pv 6) (pa_cons (pv 7) pa_nil)))
  case app1 => exact ps_expr (pe_bm PySem.F.plainAttrs_list PySem.F.slot_list_append PySem.F.type_list_append mt_append (pv 3) (pa_cons (pv 8) pa_nil))
  case app2 => exact ps_expr (pe_bm PySem.F.plainAttrs_list PySem.F.slot_list_append PySem.F.type_list_append mt_append (pv 4) (pa_cons (pe_op op_catA (pe_ix ix_list (pv 4) (pv 5) (fun _ _ => rfl)) (pe_tup (pa_cons (pe_tup (pa_cons (pv 6) (pa_cons (pv 7) pa_nil))) pa_nil))) pa_nil))
  case main =>
    obtain ⟨dx, c0, a0, s0, g0, hx, hc, ha, _⟩ := id hD
    refine ⟨_, rfl, x, C, dx, _, _, rfl, hx, DC.cl, DC.nc, rfl, c0, rfl, ⟨_, hc⟩, fun D nD => ?_⟩
    refine loop_it (walk_tup (xs := W.calls.map V.str)) (fun i F => ∃ vl, Same H F ∧ F D = some (.lst vl) ∧ KeyRefs F vl (allK (W.calls.take i) W.answers)) ⟨[], same_new nD _, upd_same, .nil⟩ (fun i F _ ⟨_, sF, _⟩ => same_tup sF hc) ?_ ?_
    · rintro i y F F' hi ⟨vl, sF, hD1, kr⟩ ⟨rfl, hy⟩
      rw [List.length_map] at hi
      have eci := List.getElem?_eq_getElem hi
      generalize W.calls[i] = c at eci
      rw [List.getElem?_map, eci] at hy
      cases hy
      refine ⟨rfl, _, rfl, x, C, dx, _, _, rfl, sF _ _ hx, DC.cl, DC.na, rfl, a0, rfl, ⟨_, same_tup sF ha⟩, ?_⟩
      refine loop_it (walk_tup (xs := W.answers.map V.str)) (fun j F => ∃ vl, Same H F ∧ F D = some (.lst vl) ∧ KeyRefs F vl (allK (W.calls.take i) W.answers ++ (W.answers.take j).map fun a => (c, a))) ⟨vl, sF, hD1, by rw [List.take_zero, List.map_nil, List.append_nil]; exact kr⟩ (fun i F _ ⟨_, sF, _⟩ => same_tup sF ha) ?_ ?_
      · rintro j y F F' hj ⟨vl, sF, hD1, kr⟩ ⟨rfl, hy⟩
        rw [List.length_map] at hj
        have eaj := List.getElem?_eq_getElem hj
        generalize W.answers[j] = a at eaj
        rw [List.getElem?_map, eaj] at hy
        cases hy
        refine ⟨rfl, _, rfl, _, rfl, (by show 2 ≤ sizeLine; decide), fun t nt => ?_⟩
        have u := same_new nt (.tup [V.str c, .str a])
        have ll : vl.length ≤ 9 := by
          rw [kr.len, List.length_append, allK_len, List.length_map, List.length_take, List.length_take]
          have h1 := dr.c1
          have h2 := dr.a1
          have : min i W.calls.length * W.answers.length ≤ 2 * 3 := Nat.mul_le_mul (by omega) (by omega)
          omega
        refine ⟨_, u _ _ hD1, by rw [sizeLine_eq]; omega, _, same_upd_new (sF.trans u) nD, upd_same, ?_⟩
        rw [take_snoc (f := fun a => (c, a)) eaj, ← List.append_assoc]
        exact KeyRefs.set_lst (u _ _ hD1) ((kr.same u).add upd_same)
      · rintro F ⟨vl, sF, hD1, kr⟩
        rw [List.length_map, List.take_length] at kr
        exact ⟨vl, sF, hD1, by rw [allK_take eci]; exact kr⟩
    rintro F ⟨vl, sF, hD1, kr⟩
    rw [List.length_map, List.take_length] at kr
    refine ⟨_, rfl, (by show 1 ≤ sizeLine; decide), fun fo nfo => ⟨(by show 0 ≤ sizeLine; decide), fun e0 ne0 => ⟨(by show 1 ≤ sizeLine; decide), fun lo nlo => ?_⟩⟩⟩
    have u1 := same_new nfo (.lst [V.str m0])
    have u2 := same_new ne0 (.tup [])
    have u3 := same_new nlo (.lst [V.ref e0])
    have hfo := (u2.trans u3) _ _ (show (upd F fo (.lst [V.str m0])) fo = _ from upd_same)
    have he0 := u3 _ _ (show (upd (upd F fo (.lst [V.str m0])) e0 (.tup [])) e0 = _ from upd_same)
    have hlo : (upd (upd (upd F fo (.lst [V.str m0])) e0 (.tup [])) lo (.lst [V.ref e0])) lo = some (.lst [V.ref e0]) := upd_same
    have s1 : Same F _ := u1.trans (u2.trans u3)
    have hD2 := s1 _ _ hD1
    have kr2 := kr.same s1
    have nfoH : H fo = none := by
      cases e : H fo with
      | none => rfl
      | some o => rw [sF _ _ e] at nfo; cases nfo
    have nloH : H lo = none := by
      cases e : H lo with
      | none => rfl
      | some o => rw [(sF.trans (u1.trans u2)) _ _ e] at nlo; cases nlo
    have nfl : fo ≠ lo := fun z => by
      have e : (upd (upd F fo (.lst [V.str m0])) e0 (.tup [])) fo = some (.lst [V.str m0]) := u2 _ _ upd_same
      subst z
      rw [nlo] at e
      cases e
    have nDf : D ≠ fo := fun z => by
      rw [← z, hD1] at nfo
      cases nfo
    have nDl : D ≠ lo := fun z => by
      have e := (u1.trans u2) _ _ hD1
      rw [z, nlo] at e
      cases e
    have s2 := sF.trans s1
    clear u1 u2 u3
    show _
    generalize upd (upd (upd F fo (.lst [V.str m0])) e0 (.tup [])) lo (.lst [V.ref e0]) = G0 at hfo he0 hlo s1 hD2 kr2 s2 ⊢
    clear nfo ne0 nlo s1
    have w0 : WyAt W H G0 D fo lo m0 [m0] 0 0 := ⟨s2, vl, [V.ref e0], hD2, kr2, hfo, hlo, rfl, fun k v hk => (by
      have e0k : k = 0 := by
        have := (List.getElem?_eq_some_iff.mp hk).1
        have : k < 1 := this
        omega
      subst e0k
      cases hk
      exact ⟨e0, [], rfl, he0, Nat.zero_le _⟩), Fd.start mm⟩
    clear hfo he0 hlo hD2 kr2 s2 hD1 kr sF
    refine ⟨fun m σ F => ∃ (i : Nat) (S : List Str) (v6 v7 v8 : Option V), σ = [some (.ref x), some (.str m0), some (.ref D), some (.ref fo), some (.ref lo), some (.int (i : Nat)), v6, v7, v8] ∧ m = 6 - i ∧ i ≤ S.length ∧ WyAt W H F D fo lo m0 S i 0, ⟨6, 0, [m0], _, _, _, rfl, rfl, Nat.zero_le _, w0⟩, ?_⟩
    clear w0
    rintro m σ F ⟨i, S, v6, v7, v8, rfl, rfl, iS, wy⟩
    obtain ⟨sF, vl, lv, hDl, kr, hfo, hlo, lvl, lg, fd⟩ := id wy
    refine ⟨_, rfl, _, rfl, fo, _, rfl, .inl (SqL.of hfo), _, _, rfl, rfl, _, rfl, ?_⟩
    rw [List.length_map]
    by_cases hlt : i < S.length
    rotate_left
    · refine iteN (by simp; omega) ?_
      have : i = S.length := by omega
      rw [this] at fd
      exact qn (fd.done fun c a hc ha => allK_mem.mpr ⟨hc, ha⟩) F sF
    have l5 := fd.len dr
    refine iteC (by simp; omega) ⟨fun σ' F' => ∃ m', m' < 6 - i ∧ ∃ (i : Nat) (S : List Str) (v6 v7 v8 : Option V), σ' = [some (.ref x), some (.str m0), some (.ref D), some (.ref fo), some (.ref lo), some (.int (i : Nat)), v6, v7, v8] ∧ m' = 6 - i ∧ i ≤ S.length ∧ WyAt W H F' D fo lo m0 S i 0, fun σ' F' h => h, ?_⟩
    have eSi := List.getElem?_eq_getElem hlt
    generalize S[i] = mk at eSi
    refine ⟨_, rfl, _, rfl, fo, _, i, _, rfl, rfl, SqL.of hfo, atI_nat (by rw [List.getElem?_map, eSi]; rfl), rfl, _, rfl, ?_⟩
    by_cases hbk : mk = BRK
    · refine iteC (by simp [hbk]) ?_
      have hil : i < lv.length := by omega
      have eli := List.getElem?_eq_getElem hil
      obtain ⟨q, xs, e1, e2, e3⟩ := lg i _ eli
      rw [e1] at eli
      refine ⟨_, rfl, _, rfl, lo, _, i, _, rfl, rfl, SqL.of hlo, atI_nat eli, ?_⟩
      refine qr ?_ q F sF
      rw [← hbk]
      exact fd.re mk (List.mem_of_getElem? eSi)
    refine iteN (by simp [hbk]) ?_
    refine ⟨_, rfl, D, rfl, ⟨_, SqL.of hDl⟩, ?_⟩
    have lvl2 := kr.len
    refine for_it (walk_list (xs := vl)) (fun j σ F => ∃ (S : List Str) (v6 v7 v8 : Option V), σ = [some (.ref x), some (.str m0), some (.ref D), some (.ref fo), some (.ref lo), some (.int (i : Nat)), v6, v7, v8] ∧ S[i]? = some mk ∧ F D = some (.lst vl) ∧ WyAt W H F D fo lo m0 S i j) ⟨S, _, _, _, rfl, eSi, hDl, wy⟩ (fun j σ F _ ⟨_, _, _, _, _, _, h, _⟩ => SqL.of h) ?_ ?_
    · clear wy lg fd sF hfo hlo hDl lvl l5 hlt iS eSi kr
      rintro j y σ F F' hj ⟨S, v6, v7, v8, rfl, eSi, hDv, wy⟩ ⟨rfl, hy⟩
      obtain ⟨sF, vl1, lv, hDl, kr, hfo, hlo, lvl, lg, fd⟩ := id wy
      have evl : vl1 = vl := by
        rw [hDv] at hDl
        cases hDl
        rfl
      subst evl
      obtain ⟨t, ⟨c, a⟩, rfl, ekj, ht⟩ := kr.nth hy
      obtain ⟨mc, ma⟩ := allK_mem.mp (List.mem_of_getElem? ekj)
      refine ⟨_, _, rfl, .inl (.inl ht), rfl, _, _, rfl, _, _, rfl, rfl, ?_⟩
      refine ⟨_, rfl, x, dx, _, rfl, sF _ _ hx, rfl, _, rfl, _, rfl, fo, _, i, _, rfl, rfl, SqL.of hfo, atI_nat (by rw [List.getElem?_map, eSi]; rfl), _, rfl, _, rfl, x, T', W, mk, c, a, rfl, hD.same sF, fun F2 s2 => ?_⟩
      have wy2 := wy.same s2
      have hDv2 := s2 _ _ hDv
      have ht2 := s2 _ _ ht
      have l5 := fd.len dr
      clear wy lg fd sF hfo hlo hDl lvl kr hDv ht
      obtain ⟨sF, vl2, lv, hDl, kr, hfo, hlo, lvl, lg, fd⟩ := id wy2
      have evl : vl2 = vl1 := by
        rw [hDv2] at hDl
        cases hDl
        rfl
      cases evl
      refine ⟨_, rfl, _, rfl, _, fo, S, rfl, rfl, .inl (SqL.of hfo), _, rfl, ?_⟩
      by_cases hin : stepW W mk c a ∈ S
      · refine iteN (by rw [Bool.not_eq_false']; exact List.contains_iff_mem.mpr hin) ?_
        exact ⟨S, _, _, _, rfl, eSi, hDv2, sF, vl1, lv, hDl, kr, hfo, hlo, lvl, lg, fd.old eSi ekj hin⟩
      refine iteC (by rw [Bool.not_eq_true', ← Bool.not_eq_true]; exact fun z => hin (List.contains_iff_mem.mp z)) ?_
      have fd2 := fd.new dr eSi ekj mc ma hin
      have hil : i < lv.length := by rw [lvl]; exact (List.getElem?_eq_some_iff.mp eSi).1
      refine ⟨_, rfl, .inl ⟨rfl, _, SqL.of hfo⟩, _, rfl, fo, _, _, rfl, rfl, hfo, by rw [List.length_map, sizeLine_eq]; omega, ?_⟩
      have hlo2 : (upd F2 fo (.lst (S.map V.str ++ [V.str (stepW W mk c a)]))) lo = some (.lst lv) := by rw [upd_ne (Ne.symm nfl)]; exact hlo
      have hfo2 : (upd F2 fo (.lst (S.map V.str ++ [V.str (stepW W mk c a)]))) fo = some (.lst (S.map V.str ++ [V.str (stepW W mk c a)])) := upd_same
      have hD3 : (upd F2 fo (.lst (S.map V.str ++ [V.str (stepW W mk c a)]))) D = some (.lst vl1) := by rw [upd_ne nDf]; exact hDl
      have lg2 := LgAt.upd (o := .lst (S.map V.str ++ [V.str (stepW W mk c a)])) hfo lg
      have kr2 := KeyRefs.set_lst (o := .lst (S.map V.str ++ [V.str (stepW W mk c a)])) hfo kr
      have sF2 := same_upd_new (o := .lst (S.map V.str ++ [V.str (stepW W mk c a)])) sF nfoH
      show _
      generalize upd F2 fo (.lst (S.map V.str ++ [V.str (stepW W mk c a)])) = F3 at hlo2 hfo2 hD3 lg2 kr2 sF2 ⊢
      have eli := List.getElem?_eq_getElem hil
      obtain ⟨q, xs, e1, e2, e3⟩ := lg2 i _ eli
      rw [e1] at eli
      have l5' := fd2.len dr
      rw [List.length_append] at l5'
      have l5' : S.length + 1 ≤ 5 := l5'
      refine ⟨_, rfl, .inl ⟨rfl, _, SqL.of hlo2⟩, _, rfl, _, rfl, lo, _, i, _, rfl, rfl, SqL.of hlo2, atI_nat eli, ?_⟩
      refine ⟨_, rfl, _, rfl, (by show 2 ≤ sizeLine; decide), fun t1 nt1 => ⟨(by show 1 ≤ sizeLine; decide), fun t2 nt2 => ?_⟩⟩
      have w1 := same_new nt1 (.tup [V.str c, .str a])
      have w2 := same_new nt2 (.tup [V.ref t1])
      have ht2 : (upd (upd F3 t1 (.tup [V.str c, .str a])) t2 (.tup [V.ref t1])) t2 = some (.tup [V.ref t1]) := upd_same
      have w3 := w1.trans w2
      show _
      generalize upd (upd F3 t1 (.tup [V.str c, .str a])) t2 (.tup [V.ref t1]) = F4 at ht2 w3 ⊢
      clear w1 w2
      refine cat_new (.inl (.inl (w3 _ _ e2))) (.inl (.inl ht2)) (by rw [sizeLine_eq]; omega) ?_ ht2
      rintro r F5 w4 hr5
      have w5 := w3.trans w4
      have lg5 := lg2.same w5
      have lgN := lg5.snoc hr5 (by rw [List.length_append]; show xs.length + 1 ≤ lv.length; omega)
      have hlo5 := w5 _ _ hlo2
      refine ⟨lo, _, _, rfl, rfl, hlo5, by rw [sizeLine_eq]; omega, ?_⟩
      have lgF := LgAt.upd (o := .lst (lv ++ [V.ref r])) hlo5 lgN
      have krF := KeyRefs.set_lst (o := .lst (lv ++ [V.ref r])) hlo5 (kr2.same w5)
      refine ⟨S ++ [stepW W mk c a], _, _, _, rfl, by rw [List.getElem?_append_left (List.getElem?_eq_some_iff.mp eSi).1]; exact eSi, by rw [upd_ne nDl]; exact w5 _ _ hD3, same_upd_new (sF2.trans w5) nloH, vl1, lv ++ [V.ref r], by rw [upd_ne nDl]; exact w5 _ _ hD3, krF, by rw [upd_ne nfl, List.map_append]; exact w5 _ _ hfo2, upd_same, by rw [List.length_append, List.length_append, lvl]; rfl, lgF, fd2⟩
    · rintro σ F ⟨S, v6, v7, v8, rfl, eSi, hDv, sF, vl1, lv, hDl, kr, hfo, hlo, lvl, lg, fd⟩
      refine ⟨_, rfl, _, _, rfl, rfl, _, by omega, i + 1, S, _, _, _, rfl, rfl, (List.getElem?_eq_some_iff.mp eSi).1, sF, vl1, lv, hDl, kr, hfo, hlo, lvl, lg, ?_⟩
      rw [lvl2] at fd
      exact fd.next (by rw [eSi]; exact fun z => hbk (Option.some.inj z))
end
end K56
set_option Elab.async false
set_option linter.all false
set_option maxRecDepth 100000
set_option maxHeartbeats 1600000
/-! The marks that are safe. -/
namespace LG
open PySem L2
theorem Reach.trans {W : Wat} {m n k : Str} (h : Reach W m n) (h2 : Reach W n k) : Reach W m k := by
  induction h2 with
  | refl => exact h
  | step _ hc ha ih => exact .step ih hc ha
/-- all goals of m's steps lie in S -/
def okIn (W : Wat) (S : List Str) (m : Str) : Bool := W.steps.all fun e => !decide (e.1.1 = m) || S.contains e.2
def safeN (W : Wat) : Nat → List Str
  | 0 => W.marks
  | n + 1 => (safeN W n).filter (okIn W (safeN W n))
def safeL (W : Wat) : List Str := safeN W W.marks.length
theorem safeN_fil (W : Wat) : ∀ n, ∃ p : Str → Bool, safeN W n = W.marks.filter p
  | 0 => ⟨fun _ => true, (List.filter_eq_self.mpr fun _ _ => rfl).symm⟩
  | n + 1 => by
    obtain ⟨p, e⟩ := safeN_fil W n
    refine ⟨fun m => p m && okIn W (safeN W n) m, ?_⟩
    show (safeN W n).filter _ = _
    rw [show (safeN W n).filter (okIn W (safeN W n)) = (W.marks.filter p).filter (okIn W (safeN W n)) by rw [← e], List.filter_filter]
    congr 1
    funext m
    exact Bool.and_comm _ _
theorem safeN_sub (W : Wat) (n : Nat) : ∀ m ∈ safeN W n, m ∈ W.marks := fun m h => by
  obtain ⟨p, e⟩ := safeN_fil W n
  rw [e] at h
  exact (List.mem_filter.mp h).1
theorem safeN_short (W : Wat) : ∀ n, safeN W (n + 1) = safeN W n ∨ (safeN W (n + 1)).length + (n + 1) ≤ W.marks.length
  | 0 => by
    by_cases e : safeN W 1 = safeN W 0
    · exact .inl e
    · refine .inr ?_
      have : (safeN W 1).length ≤ (safeN W 0).length := List.length_filter_le _ _
      have ne : (safeN W 1).length ≠ (safeN W 0).length := fun z => e (List.filter_eq_self.mpr (List.length_filter_eq_length_iff.mp z))
      show (safeN W 1).length + 1 ≤ (safeN W 0).length
      omega
  | n + 1 => by
    rcases safeN_short W n with h | h
    · refine .inl ?_
      show (safeN W (n + 1)).filter (okIn W (safeN W (n + 1))) = _
      rw [h]
      exact h
    · by_cases e : safeN W (n + 2) = safeN W (n + 1)
      · exact .inl e
      · refine .inr ?_
        have : (safeN W (n + 2)).length ≤ (safeN W (n + 1)).length := List.length_filter_le _ _
        have ne : (safeN W (n + 2)).length ≠ (safeN W (n + 1)).length := fun z => e (List.filter_eq_self.mpr (List.length_filter_eq_length_iff.mp z))
        show (safeN W (n + 2)).length + (n + 2) ≤ _
        omega
theorem safeL_fix (W : Wat) : (safeL W).filter (okIn W (safeL W)) = safeL W := by
  rcases safeN_short W W.marks.length with h | h
  · exact h
  · have : (safeN W (W.marks.length + 1)).length ≤ 0 := by omega
    have l0 : (safeL W).length ≤ 0 ∨ True := .inr trivial
    rcases Nat.eq_zero_or_pos W.marks.length with z | z
    · have : W.marks = [] := List.length_eq_zero_iff.mp z
      unfold safeL
      rw [this]
      show (safeN W 0).filter _ = safeN W 0
      show W.marks.filter _ = W.marks
      rw [this]
      rfl
    · obtain ⟨k, hk⟩ : ∃ k, W.marks.length = k + 1 := ⟨W.marks.length - 1, by omega⟩
      rcases safeN_short W k with h2 | h2
      · have : safeL W = safeN W k := by unfold safeL; rw [hk]; exact h2
        rw [this]
        exact h2
      · have : safeL W = [] := List.length_eq_zero_iff.mp (by unfold safeL; rw [hk]; omega)
        rw [this]
        rfl
theorem okIn_iff {W : Wat} {S : List Str} {m : Str} : okIn W S m = true ↔ ∀ e ∈ W.steps, e.1.1 = m → e.2 ∈ S := by
  unfold okIn
  rw [List.all_eq_true]
  constructor
  · intro h e he em
    have := h e he
    rw [decide_eq_true em, Bool.not_true, Bool.false_or] at this
    exact List.contains_iff_mem.mp this
  · intro h e he
    by_cases em : e.1.1 = m
    · rw [List.contains_iff_mem.mpr (h e he em), Bool.or_true]
    · rw [decide_eq_false em]
      rfl
theorem look_of {g : Steps} (nd : (g.map (·.1)).Nodup) {k : Str × Str × Str} {x : Str} (h : (k, x) ∈ g) : g.lookup k = some x := by
  induction g with
  | nil => cases h
  | cons e r ih =>
    obtain ⟨n1, n2⟩ := List.nodup_cons.mp nd
    rcases List.mem_cons.mp h with rfl | h2
    · simp [List.lookup]
    · clear h
      obtain ⟨k', x'⟩ := e
      have ne : k ≠ k' := fun z => n1 (by show k' ∈ _; rw [← z]; exact List.mem_map.mpr ⟨(k, x), h2, rfl⟩)
      have nb : (k == k') = false := by simpa using ne
      have : List.lookup k ((k', x') :: r) = List.lookup k r := by simp [List.lookup, nb]
      rw [this]
      exact ih n2 h2
theorem DrawnW.brk_no {W : Wat} (d : DrawnW W) {m : Str} (h : m ∈ W.marks) : m ≠ BRK := fun z => d.nb (by rw [← z]; exact h)
theorem mem_safe {W : Wat} (d : DrawnW W) {m : Str} : m ∈ safeL W ↔ m ∈ W.marks ∧ ¬ Reach W m BRK := by
  constructor
  · intro h
    refine ⟨safeN_sub W _ m h, fun r => ?_⟩
    have fx := List.filter_eq_self.mp (safeL_fix W)
    have all : ∀ {x}, Reach W m x → x ∈ safeL W := fun {x} r => by
      induction r with
      | refl => exact h
      | @step n c a _ hc ha ih =>
        unfold stepW
        cases e : W.steps.lookup (n, c, a) with
        | none => exact ih
        | some x => exact okIn_iff.mp (fx n ih) _ (look_mem e) rfl
    exact d.nb (safeN_sub W _ _ (all r))
  · rintro ⟨hm, hr⟩
    unfold safeL
    generalize W.marks.length = n
    induction n generalizing m with
    | zero => exact hm
    | succ n ih =>
      refine List.mem_filter.mpr ⟨ih hm hr, okIn_iff.mpr fun e he em => ?_⟩
      obtain ⟨⟨m', c, a⟩, x⟩ := e
      cases em
      obtain ⟨_, hc, ha, hx⟩ := d.vals _ he
      have es : stepW W m' c a = x := by
        unfold stepW
        rw [look_of d.kn he]
        rfl
      have r1 : Reach W m' x := by rw [← es]; exact Reach.refl.step hc ha
      have nr : ¬ Reach W x BRK := fun z => hr (r1.trans z)
      rcases List.mem_append.mp hx with hx | hx
      · exact ih hx nr
      · have e : x = BRK := List.mem_singleton.mp hx
        exact absurd Reach.refl (by rw [e] at nr; exact nr)
theorem safeL_eq (W : Wat) : safeL W = W.marks.filter fun m => (safeL W).contains m := by
  obtain ⟨p, e⟩ := safeN_fil W W.marks.length
  have e : safeL W = W.marks.filter p := e
  rw [e]
  refine List.filter_congr fun m hm => ?_
  by_cases h : p m = true
  · rw [h]
    exact (List.contains_iff_mem.mpr (List.mem_filter.mpr ⟨hm, h⟩)).symm
  · have h : p m = false := by simpa using h
    rw [h]
    symm
    rw [← Bool.not_eq_true]
    exact fun z => by
      have := (List.mem_filter.mp (List.contains_iff_mem.mp z)).2
      rw [h] at this
      cases this
def wordW (W : Wat) (m : Str) : Str := if m = BRK then "broken" else if m ∈ safeL W then "safe" else "held"
end LG
namespace K56
open PySem L2 LG
section
variable {P : Program} {w : World} {K : PySem.W.Frag} {mg : Str → Option Value} {base : Heap} {fI C CL : Addr}
def spSafe (K : PySem.W.Frag) (C : Addr) : Sp := fun vs H Q _ => ∃ (x : Addr) (T : Str) (W : Wat), vs = [.ref x] ∧ DevAt K H x C T W ∧ DrawnW W ∧ ∀ q G, Same H G → G q = some (.tup ((safeL W).map V.str)) → Q (.ref q) G
abbrev nSf : List Str := ["watch", "mark"]
theorem scSf : FnScope nSf ["watch"] (defScope sSafe) := ⟨rfl, rfl, rfl, by decide +kernel, rfl, by decide +kernel, by decide +kernel⟩
theorem ok_safe {f g : Addr} {fd gd : FuncData} (F : Fun K "safe" "safe" sSafe f fd) (T : Bltn mg) (DC : DevCl K mg C)
    (G : FnOk P w K mg base CX0 2 g gd ["watch", "first"] (spWay K C)) (mG : mg "way_to_broken" = some (.ref g)) (kG : PySem.W.keepIn K (.ref g) = true) (bG : Binds K gd ["watch", "first"] []) :
    FnOk P w K mg base CX0 3 f fd ["watch"] (spSafe K C) := by
  refine F.ok scSf (fun vs H Q E h => ?_) (fun cdv A0 outer st H vs Q E hr h => ?_)
  · obtain ⟨x, T, W, rfl, _⟩ := h
    rfl
  obtain ⟨x, T', W, rfl, hD, dr, q⟩ := h
  refine' ⟨_, pss_one (ps_ret (pe_callTy call_tuple_of rfl T.tuple (by decide +kernel) (pa_cons (pe_lc (te := tVar 1) (tt := tTest (tIsN (tCall (spWay K C) [] E0 (tCons (tVar 0) (tCons (tVar 1) tNil))))) (own := [("mark", 1)]) (g := gName 1) rfl scSf.nd (pi_tup (pe_fld (pv 0) rfl)) (blkOk_by (own := [("mark", 1)]) (N := nSf) (sc := defScope sSafe) (by decide +kernel))
      (fun _ _ _ _ _ => pg_name (i := 1) scSf.nd rfl (Or.inl rfl)) (fun _ _ _ _ _ => by exact pts_one (pt_cmp (pc_isN (pe_call G hr rfl mG kG bG .nil pass0 (pa_cons (pv 0) (pa_cons (pv 1) pa_nil)))))) (fun _ _ _ _ _ => pv 1)) pa_nil))), ?main⟩
  case main =>
    obtain ⟨dx, c0, a0, s0, g0, hx, hc, ha, hs, _⟩ := id hD
    refine ⟨_, rfl, x, C, dx, _, _, rfl, hx, DC.cl, DC.ns, rfl, s0, rfl, ⟨_, hs⟩, fun D nD => ?_⟩
    refine lc_it (walk_tup (xs := W.marks.map V.str)) (fun i F => Same H F ∧ F D = some (.lst (((W.marks.take i).filter fun m => (safeL W).contains m).map V.str))) ⟨same_new nD _, upd_same⟩ (fun i F _ ⟨sF, _⟩ => same_tup sF hs) ?_ ?_
    · rintro i y F F' hi ⟨sF, hD1⟩ ⟨rfl, hy⟩
      rw [List.length_map] at hi
      have emi := List.getElem?_eq_getElem hi
      generalize W.marks[i] = m at emi
      rw [List.getElem?_map, emi] at hy
      cases hy
      have mm := List.mem_of_getElem? emi
      have et : W.marks.take (i + 1) = W.marks.take i ++ [m] := by rw [List.take_add_one, emi]; rfl
      rw [et, List.filter_append]
      refine ⟨rfl, _, rfl, _, rfl, x, T', W, m, rfl, hD.same sF, dr, List.mem_append_left _ mm, fun hR q1 G sG => ?_, fun hR G sG => ?_⟩
      · have nm : (safeL W).contains m = false := by
          rw [← Bool.not_eq_true]
          exact fun z => ((mem_safe dr).mp (List.contains_iff_mem.mp z)).2 hR
        refine ⟨_, rfl, iteN (by simp) ⟨sF.trans sG, ?_⟩⟩
        rw [List.filter_cons_of_neg (by rw [nm]; exact Bool.false_ne_true), List.filter_nil, List.append_nil]
        exact sG _ _ hD1
      · have nm : (safeL W).contains m = true := List.contains_iff_mem.mpr ((mem_safe dr).mpr ⟨mm, hR⟩)
        refine ⟨_, rfl, iteC (by simp) ⟨_, rfl, _, sG _ _ hD1, ?_, same_upd_new (sF.trans sG) nD, ?_⟩⟩
        · rw [List.length_map]
          have h1 := List.length_filter_le (fun m => (safeL W).contains m) (W.marks.take i)
          have h2 := dr.m1
          rw [List.length_take] at h1
          rw [sizeLine_eq]
          omega
        · rw [upd_same, List.filter_cons_of_pos nm, List.filter_nil, List.map_append]
          rfl
    · rintro F ⟨sF, hD1⟩
      rw [List.length_map, List.take_length, ← safeL_eq] at hD1
      refine ⟨D, _, rfl, .inl ⟨SqL.of hD1, fun l nl => ?_⟩⟩
      exact q l _ (sF.trans (same_new nl _)) upd_same
def spVerdict (K : PySem.W.Frag) (C CL : Addr) : Sp := fun vs H Q E => ∃ (x : Addr) (v : V) (d : PyData) (T : Str) (W : Wat), vs = [.ref x, v] ∧ DevAt K H x C T W ∧ DrawnW W ∧ Dx K H v d ∧
  (isLogD W.calls W.answers d = false → ∀ a G, Same H G → G a = none → E (.ref CL) (some a) (upd G a (.xd (vf v)))) ∧ (∀ st, d = .tuple (st.map pairD) → isLogD W.calls W.answers d = true → ∀ G, Same H G → Q (.str (wordW W (loggedW W (W.marks.headD Str.empty) st))) G)
abbrev nVd : List Str := ["watch", "log", "mark"]
theorem scVd : FnScope nVd ["watch", "log"] (defScope sVerdict) := ⟨rfl, rfl, rfl, by decide +kernel, rfl, by decide +kernel, by decide +kernel⟩
theorem logged_mem {W : Wat} (d : DrawnW W) : ∀ (st : List (Str × Str)) {m : Str}, m ∈ W.marks ++ [BRK] → loggedW W m st ∈ W.marks ++ [BRK]
  | [], _, h => h
  | k :: r, m, h => logged_mem d r (d.goal k.1 k.2 h)
theorem head_mem {W : Wat} (d : DrawnW W) : W.marks.headD Str.empty ∈ W.marks ++ [BRK] := by
  have h := d.m1.1
  match hm : W.marks, h with
  | y :: r, _ => exact List.mem_cons_self
theorem ok_verdict {f g g2 : Addr} {fd gd gd2 : FuncData} (F : Fun K "verdict" "verdict" sVerdict f fd) (DC : DevCl K mg C) (hB : ∃ t, mg "BROKEN" = some (.str BRK t))
    (GB : FnOk P w K mg base (L2.CX P w) 4 g2 gd2 ["self", "log"] (spBehind K C CL)) (mB : Meth K C "behind" g2) (bB : Binds K gd2 ["self", "log"] [])
    (G : FnOk P w K mg base CX0 2 g gd ["watch", "first"] (spWay K C)) (mG : mg "way_to_broken" = some (.ref g)) (kG : PySem.W.keepIn K (.ref g) = true) (bG : Binds K gd ["watch", "first"] []) :
    FnOk P w K mg base (L2.CX P w) 5 f fd ["watch", "log"] (spVerdict K C CL) := by
  refine F.okX scVd (fun vs H Q E h => ?_) (fun cdv A0 outer st H vs Q E hr h => ?_)
  · obtain ⟨x, v, d, T, W, rfl, _⟩ := h
    rfl
  obtain ⟨x, v, d, T, W, rfl, hD, dr, hd, qn, qy⟩ := h
  obtain ⟨tB, hB⟩ := hB
  have r4 : Room 4 _ := hr.mono (by decide)
  have r2 : Room 2 _ := hr.mono (by decide)
  have tk := takes_of (X := cxOf (L2.CX P w) P w K mg base nVd "verdict" (defScope sVerdict) f cdv A0 outer st H E) rfl rfl rfl rfl
  refine' ⟨_, pss_cons (ps_set (i := 2) scVd.nd rfl (Or.inl rfl) (pe_meth (pv 0) DC.cl mB GB r4 bB .nil (passes_call tk (fun _ _ _ _ h => h)) (pa_cons (pv 1) pa_nil)))
    (pss_cons (ps_if (pt_cmpR op_eq (pv 2) (pe_glob (v := .str BRK) rfl hB ⟨_, rfl⟩) (nomark _)) (pss_one (ps_ret pe_str)) pss_nil)
    (pss_one (ps_ret (pe_ifExp (pt_cmp (pc_notN (pe_call G r2 rfl mG kG bG .nil pass0 (pa_cons (pv 0) (pa_cons (pv 2) pa_nil))))) pe_str pe_str)))), ?main⟩
  case main =>
    obtain ⟨dx, c0, a0, s0, g0, hx, _⟩ := id hD
    refine ⟨_, rfl, x, dx, _, rfl, hx, rfl, _, rfl, x, v, d, T, W, rfl, hD, dr.m1.1, hd, qn, fun steps ed el G sG => ?_⟩
    have qy := qy steps ed el
    have mm := logged_mem dr steps (head_mem dr)
    generalize loggedW W (W.marks.headD Str.empty) steps = m at qy mm ⊢
    refine ⟨_, rfl, rfl, _, rfl, ?_⟩
    unfold wordW at qy
    by_cases hb : m = BRK
    · refine iteC (by simp [hb]) ?_
      rw [if_pos hb] at qy
      exact qy G sG
    refine iteN (by simp [hb]) ?_
    rw [if_neg hb] at qy
    have hmm : m ∈ W.marks := by
      rcases List.mem_append.mp mm with h | h
      · exact h
      · exact absurd (List.mem_singleton.mp h) hb
    refine ⟨_, rfl, _, rfl, x, T, W, m, rfl, hD.same sG, dr, mm, fun hR q1 G1 s1 => ?_, fun hR G1 s1 => ?_⟩
    · rw [if_neg fun z => ((mem_safe dr).mp z).2 hR] at qy
      exact ⟨_, rfl, iteC (by simp) (qy G1 (sG.trans s1))⟩
    · rw [if_pos ((mem_safe dr).mpr ⟨hmm, hR⟩)] at qy
      exact ⟨_, rfl, iteN (by simp) (qy G1 (sG.trans s1))⟩
end
end K56
set_option Elab.async false
set_option linter.all false
set_option maxRecDepth 100000
set_option maxHeartbeats 1600000
/-! The law's own walks of a device (from k48's). -/
namespace LG
open PySem L2
/-- what is heard from the state on, and the state behind -/
def runD (D : Dev) : Str → List Str → List Str × Str
  | s, [] => ([], s)
  | s, w :: r => ((rowX D (s, w)).1 :: (runD D (rowX D (s, w)).2 r).1, (runD D (rowX D (s, w)).2 r).2)
theorem runD_snoc (D : Dev) : ∀ (ws : List Str) (s w : Str), runD D s (ws ++ [w]) = ((runD D s ws).1 ++ [(rowX D ((runD D s ws).2, w)).1], (rowX D ((runD D s ws).2, w)).2)
  | [], s, w => rfl
  | x :: r, s, w => by
    have ih := runD_snoc D r (rowX D (s, x)).2 w
    show ((rowX D (s, x)).1 :: (runD D (rowX D (s, x)).2 (r ++ [w])).1, (runD D (rowX D (s, x)).2 (r ++ [w])).2) = _
    rw [ih]
    rfl
theorem KeyRefs.set {H : Hp} {q : Addr} {k : Str × Str} (r : H q = some (.tup ((kT k).map kV))) : ∀ {vs : List V} {ks : List (Str × Str)} (j : Nat), KeyRefs H vs ks → KeyRefs H (vs.set j (.ref q)) (ks.set j k)
  | _, _, _, .nil => .nil
  | _, _, 0, .cons _ t => .cons r t
  | _, _, j + 1, .cons h t => .cons h (KeyRefs.set r j t)
theorem keyrefs_off {H H' : Hp} : ∀ {ts : List Addr} {ks : List (Str × Str)}, (∀ t ∈ ts, ∀ u, H t = some u → H' t = some u) → KeyRefs H (ts.map V.ref) ks → KeyRefs H' (ts.map V.ref) ks
  | [], _, _, .nil => .nil
  | t :: ts, _, h, .cons e r => .cons (h t List.mem_cons_self _ e) (keyrefs_off (fun t' m => h t' (List.mem_cons_of_mem _ m)) r)
theorem paired_left {α β : Type} {R : α → β → Prop} {C : α → Prop} : ∀ {as : List α} {bs : List β}, PySem.Paired R as bs → (∀ a b, R a b → C a) → ∀ a ∈ as, C a
  | _, _, .nil, _, a, h => by cases h
  | _, _, .cons e r, f, a, h => by
    rcases List.mem_cons.mp h with h | h
    · rw [h]
      exact f _ _ e
    · exact paired_left r f a h
theorem zip_keys {H0 H : Hp} : ∀ {ts : List Addr} {ws as : List Str}, PySem.Paired (fun (t : Addr) (q : V × V) => H0 t = none ∧ H t = some (.tup [q.1, q.2])) ts ((ws.map V.str).zip (as.map V.str)) → KeyRefs H (ts.map V.ref) (ws.zip as)
  | [], [], _, _ => .nil
  | [], _ :: _, [], _ => .nil
  | [], _ :: _, _ :: _, h => by cases h
  | _ :: _, [], _, h => by cases h
  | _ :: _, _ :: _, [], h => by cases h
  | t :: ts, w :: ws, a :: as, h => by
    cases h with
    | cons e r => exact .cons (k := (w, a)) e.2 (zip_keys r)
theorem runD_len (D : Dev) : ∀ (ws : List Str) (s : Str), (runD D s ws).1.length = ws.length
  | [], _ => rfl
  | w :: r, s => by
    show (runD D (rowX D (s, w)).2 r).1.length + 1 = r.length + 1
    rw [runD_len D r]
theorem runD_ans {D : Dev} (d : Drawn D) : ∀ (ws : List Str) (s : Str), s ∈ D.states → (∀ w ∈ ws, w ∈ D.calls) → ∀ a ∈ (runD D s ws).1, a ∈ D.answers
  | [], _, _, _, a, h => by cases h
  | w :: r, s, hs, hw, a, h => by
    have row := d.row (k := (s, w)) (by rw [d.keys]; exact prod_mem.mpr ⟨hs, hw w List.mem_cons_self⟩)
    rcases List.mem_cons.mp h with h | h
    · rw [h]
      exact row.2.2.2.1
    · exact runD_ans d r _ row.2.2.2.2 (fun x hx => hw x (List.mem_cons_of_mem _ hx)) a h
theorem runD_in {D : Dev} (d : Drawn D) : ∀ {ws : List Str} {s : Str}, s ∈ D.states → (∀ w ∈ ws, w ∈ D.calls) → (runD D s ws).2 ∈ D.states
  | [], _, hs, _ => hs
  | w :: r, s, hs, h => runD_in d (ws := r) (d.row (k := (s, w)) (by rw [d.keys]; exact prod_mem.mpr ⟨hs, h w List.mem_cons_self⟩)).2.2.2.2 fun x hx => h x (List.mem_cons_of_mem _ hx)
end LG
namespace K56
open PySem L2 LG
section
variable {P : Program} {w : World} {K : PySem.W.Frag} {mg : Str → Option Value} {base : Heap}
def spRun (K : PySem.W.Frag) : Sp := fun vs H Q _ => ∃ (o t c a sa r : Addr) (kvs : List (List Key × V)) (ws : List Str) (D : Dev), vs = [.ref o, .ref t] ∧ H o = some (.dK [(.inr ("calls" : Str), .ref c), (.inr ("answers" : Str), .ref a), (.inr ("states" : Str), .ref sa), (.inr ("rows" : Str), .ref r)]) ∧ H sa = some (.lst (D.states.map V.str)) ∧ H r = some (.dT kvs) ∧ GR K H kvs D.goals ∧
  Drawn D ∧ (∀ y ∈ ws, y ∈ D.calls) ∧ H t = some (.lst (ws.map V.str)) ∧ ws.length ≤ 1000 ∧
  ∀ (s0 : Str) q a e G, Same H G → s0 ∈ D.states → G q = some (.tup [.ref a, e]) → G a = some (.tup ((runD D s0 ws).1.map V.str)) → Q (.ref q) G
abbrev nRu : List Str := ["_law_device", "_law_walk", "_law_state", "_law_found", "_law_call", "_law_answer"]
theorem scRun : FnScope nRu ["_law_device", "_law_walk"] (defScope sHeardL) := ⟨rfl, rfl, rfl, by decide +kernel, rfl, by decide +kernel, by decide +kernel⟩
theorem ok_run {f : Addr} {fd : FuncData} (F : Fun K "_law_heard" "_law_heard" sHeardL f fd) (T : Bltn mg) : FnOk P w K mg base CX0 1 f fd ["_law_device", "_law_walk"] (spRun K) := by
  refine F.ok scRun (fun vs H Q E h => ?_) (fun cdv A0 outer st H vs Q E hr h => ?_)
  · obtain ⟨o, t, c, a, sa, r, kvs, ws, D, rfl, _⟩ := h
    rfl
  obtain ⟨o, t, c, a, sa, r, kvs, ws, D, rfl, ho, hsa, hrr, gr, dr, hws, ht, hl, q⟩ := h
  have hu := hu_of hr
  refine ⟨_, pss_cons (ps_par (i := 2) (j := 3) rfl scRun.nd rfl rfl (by decide) rfl rfl (pa_cons (pe_ix ix_list (pe_dget hu (pv 0) pe_str (fun _ _ => rfl)) pe_int (fun _ _ => rfl)) (pa_cons (pe_lst pa_nil) pa_nil)) (by rfl))
    (pss_cons (ps_for PassesOwn.never rfl (pi_list (pv 1)) (pg_name (i := 4) scRun.nd rfl (Or.inl rfl))
      (pss_cons (ps_asg (pe_dget hu (pe_dget hu (pv 0) pe_str (fun _ _ => rfl)) (pe_tup (pa_cons (pv 2) (pa_cons (pv 4) pa_nil))) (fun _ _ => rfl)) (pg_tup rfl (pgs_cons (pg_name (i := 5) scRun.nd rfl (Or.inl rfl)) (pgs_cons (pg_name (i := 2) scRun.nd rfl (Or.inl rfl)) pgs_nil))))
      (pss_one (ps_expr (pe_bm PySem.F.plainAttrs_list PySem.F.slot_list_append PySem.F.type_list_append mt_append (pv 3) (pa_cons (pv 5) pa_nil))))))
    (pss_one (ps_ret (pe_tup (pa_cons (pe_callTy call_tuple_of rfl T.tuple (by decide +kernel) (pa_cons (pv 3) pa_nil)) (pa_cons (pv 2) pa_nil)))))), ?_⟩
  have dK := fun (x : Str) (G : Hp) (e : G o = some (.dK [(.inr ("calls" : Str), .ref c), (.inr ("answers" : Str), .ref a), (.inr ("states" : Str), .ref sa), (.inr ("rows" : Str), .ref r)])) => DGet.k (k := Sum.inr x) e
  obtain ⟨s1, hs0, hs1⟩ : ∃ s1, (D.states.map V.str)[0]? = some (.str s1) ∧ s1 ∈ D.states := by
    have h := dr.s1.1
    match hm : D.states, h with
    | y :: r, _ => exact ⟨y, rfl, List.mem_cons_self⟩
  refine ⟨_, rfl, o, _, rfl, dK "states" H ho, sa, _, 0, _, rfl, rfl, SqL.of hsa, atI_nat (j := 0) hs0, (by show 0 ≤ sizeLine; decide), fun al nal => ?_⟩
  have u1 := same_new nal (.lst [])
  have hal : (upd H al (.lst [])) al = some (.lst []) := upd_same
  have nalH : H al = none := nal
  show _
  generalize upd H al (.lst []) = G1 at hal u1 ⊢
  refine ⟨_, _, rfl, _, rfl, t, rfl, ⟨_, SqL.of (u1 _ _ ht)⟩, ?_⟩
  refine for_it walk_list (fun i σ G4 => ∃ x4 x5, σ = [some (.ref o), some (.ref t), some (.str (runD D s1 (ws.take i)).2), some (.ref al), x4, x5] ∧ Same H G4 ∧ G4 al = some (.lst ((runD D s1 (ws.take i)).1.map V.str)) ∧ (runD D s1 (ws.take i)).1.length = i)
    ⟨_, _, rfl, u1, hal, rfl⟩ (fun i σ G4 _ ⟨_, _, _, s4, _⟩ => SqL.of (s4 _ _ ht)) ?_ ?_
  · rintro i y σ G4 G5 hi ⟨x4, x5, rfl, s4, h4, l4⟩ ⟨rfl, hy⟩
    rw [List.length_map] at hi
    rw [List.getElem?_map, List.getElem?_eq_getElem hi] at hy
    have ey : y = .str ws[i] := (Option.some.inj hy).symm
    subst ey
    have inS := runD_in dr (ws := ws.take i) hs1 fun w hw => hws w (List.mem_of_mem_take hw)
    have lk := (dr.row (k := ((runD D s1 (ws.take i)).2, ws[i])) (by rw [dr.keys]; exact prod_mem.mpr ⟨inS, hws _ (List.getElem_mem hi)⟩)).1
    have et : ws.take (i + 1) = ws.take i ++ [ws[i]] := by rw [List.take_add_one, List.getElem?_eq_getElem hi]; rfl
    have er := runD_snoc D (ws.take i) s1 ws[i]
    rw [← et] at er
    generalize runD D s1 (ws.take (i + 1)) = R' at er
    subst er
    generalize runD D s1 (ws.take i) = R at h4 l4 lk inS ⊢
    obtain ⟨as, sn⟩ := R
    dsimp only at h4 l4 lk inS ⊢
    refine ⟨_, rfl, o, _, rfl, dK "rows" _ (s4 _ _ ho), _, rfl, _, rfl, (by show 2 ≤ sizeLine; decide), fun tk ntk => ?_⟩
    have u5 := same_new ntk (.tup [.str sn, .str ws[i]])
    have htk : (upd G5 tk (.tup [.str sn, .str ws[i]])) tk = some (.tup ((kT (sn, ws[i])).map kV)) := upd_same
    show _
    generalize upd G5 tk (.tup [.str sn, .str ws[i]]) = G6 at u5 htk ⊢
    rcases gr.val (sn, ws[i]) with ⟨l1, _⟩ | ⟨r2, t2, l1, l2, l3⟩
    · rw [l1] at lk
      cases lk
    · rw [l1] at lk
      have er2 : r2 = rowX D (sn, ws[i]) := Option.some.inj lk
      subst er2
      have g1 : DGet _ r (.ref tk) (valV kvs (kT (sn, ws[i]))) := .inr ⟨kvs, kT (sn, ws[i]), tk, .inl ((s4.trans u5) _ _ hrr), rfl, htk, rfl⟩
      rw [l2] at g1
      refine ⟨r, _, rfl, g1, t2, _, rfl, same_tup (s4.trans u5) l3, rfl, _, _, rfl, _, _, rfl, rfl, ?_⟩
      have h6 := u5 _ _ h4
      refine ⟨_, rfl, .inl ⟨rfl, _, SqL.of h6⟩, _, rfl, al, _, _, rfl, rfl, h6, by rw [List.length_map, sizeLine_eq]; omega, ?_⟩
      refine ⟨_, _, rfl, fun bq o hq => ?_, ?_, ?_⟩
      · rw [upd_ne (ne_of_none hq nalH)]
        exact (s4.trans u5) _ _ hq
      · rw [upd_same, List.map_append]
        rfl
      · rw [List.length_append, l4]
        rfl
  · rintro σ G4 ⟨x4, x5, rfl, s4, h4, l4⟩
    rw [List.length_map, List.take_length] at h4 ⊢
    refine ⟨_, rfl, al, _, rfl, .inl ⟨SqL.of h4, fun p np => ?_⟩⟩
    have u5 := same_new np (.tup ((runD D s1 ws).1.map V.str))
    have hp : (upd G4 p (.tup ((runD D s1 ws).1.map V.str))) p = some (.tup ((runD D s1 ws).1.map V.str)) := upd_same
    show _
    generalize upd G4 p (.tup ((runD D s1 ws).1.map V.str)) = G6 at u5 hp ⊢
    refine ⟨_, rfl, (by show 2 ≤ sizeLine; decide), fun r nr => ?_⟩
    have u6 := same_new nr (.tup [.ref p, .str (runD D s1 ws).2])
    exact q s1 r p _ _ ((s4.trans u5).trans u6) hs1 upd_same (u6 _ _ hp)
end
end K56
set_option Elab.async false
set_option linter.all false
set_option maxRecDepth 100000
set_option maxHeartbeats 1600000
/-! The law's own steps, logs and safe marks. -/
namespace K56
open PySem L2 LG
section
variable {P : Program} {w : World} {K : PySem.W.Frag} {mg : Str → Option Value} {base : Heap}
theorem own_get {H : Hp} {g t : Addr} {st : LG.Steps} {m c a : Str} (h : H g = some (.dT (kvW st))) (ht : H t = some (.tup [.str m, .str c, .str a])) : DGet H g (.ref t) ((st.lookup (m, c, a)).map V.str) := goals_get (.inl h) ht
def spStepL (K : PySem.W.Frag) : Sp := fun vs H Q _ => ∃ (o : Addr) (W : Wat) (m c a : Str), vs = [.ref o, .str m, .str c, .str a] ∧ WatOwn H o W ∧ DrawnW W ∧ ∀ G, Same H G → Q (.str (stepW W m c a)) G
abbrev nSL : List Str := ["_law_watch_here", "_law_mark", "_law_call", "_law_answer"]
theorem scSL : FnScope nSL nSL (defScope sStepL) := ⟨rfl, rfl, rfl, by decide +kernel, rfl, by decide +kernel, by decide +kernel⟩
theorem ok_stepL {f : Addr} {fd : FuncData} (F : Fun K "_law_step" "_law_step" sStepL f fd) : FnOk P w K mg base CX0 1 f fd nSL (spStepL K) := by
  refine F.ok scSL (fun vs H Q E h => ?_) (fun cdv A0 outer st H vs Q E hr h => ?_)
  · obtain ⟨o, W, m, c, a, rfl, _⟩ := h
    rfl
  obtain ⟨o, W, m, c, a, rfl, hO, dr, q⟩ := h
  have hu := hu_of hr
  refine ⟨_, pss_one (ps_ret (pe_ifExp (pt_cmpR op_eq (pv 1) pe_str (nomark _)) pe_str (pe_dget2 hu (pe_dget hu (pv 0) pe_str (fun _ _ => rfl)) (pe_tup (pa_cons (pv 1) (pa_cons (pv 2) (pa_cons (pv 3) pa_nil)))) (pv 1) ⟨rfl, rfl, rfl, rfl⟩))), ?_⟩
  obtain ⟨ca, aa, ma, ra, h1, h2, h3, h4, h5⟩ := hO
  have dK := fun (x : Str) (G : Hp) (e : G o = some (.dK (kvO ca aa ma ra))) => DGet.k (k := Sum.inr x) e
  refine ⟨_, rfl, rfl, _, rfl, ?_⟩
  by_cases hb : m = BRK
  · refine iteC (by simp only [decide_eq_true_eq]; rw [hb]; rfl) ?_
    have := q H (Same.refl H)
    rw [hb, dr.brk] at this
    exact this
  refine iteN (by simp only [decide_eq_false_iff_not]; exact fun z => hb (V.str.inj z)) ?_
  refine ⟨_, rfl, o, _, rfl, dK "steps" H h1, ra, rfl, .inr ⟨_, .inl h5⟩, _, rfl, _, rfl, _, rfl, (by show 3 ≤ sizeLine; decide), fun t nt => ?_⟩
  have s1 := same_new nt (.tup [.str m, .str c, .str a])
  refine ⟨_, rfl, _, own_get (s1 _ _ h5) upd_same, ?_⟩
  rw [getD_str]
  exact q _ s1
def spLogged (K : PySem.W.Frag) : Sp := fun vs H Q _ => ∃ (o t : Addr) (W : Wat) (st : List (Str × Str)), vs = [.ref o, .ref t] ∧ WatOwn H o W ∧ DrawnW W ∧ LogAt K H t st ∧ ∀ G, Same H G → Q (.str (loggedW W (W.marks.headD Str.empty) st)) G
abbrev nLd : List Str := ["_law_watch_here", "_law_log_here", "_law_mark", "_law_call", "_law_answer"]
theorem scLd : FnScope nLd ["_law_watch_here", "_law_log_here"] (defScope sLogged) := ⟨rfl, rfl, rfl, by decide +kernel, rfl, by decide +kernel, by decide +kernel⟩
theorem ok_logged {f g : Addr} {fd gd : FuncData} (F : Fun K "_law_logged" "_law_logged" sLogged f fd)
    (G : FnOk P w K mg base CX0 1 g gd nSL (spStepL K)) (mG : mg "_law_step" = some (.ref g)) (kG : PySem.W.keepIn K (.ref g) = true) (bG : Binds K gd nSL []) : FnOk P w K mg base CX0 2 f fd ["_law_watch_here", "_law_log_here"] (spLogged K) := by
  refine F.ok scLd (fun vs H Q E h => ?_) (fun cdv A0 outer st H vs Q E hr h => ?_)
  · obtain ⟨o, t, W, steps, rfl, _⟩ := h
    rfl
  obtain ⟨o, t, W, steps, rfl, hO, dr, hL, q⟩ := h
  have hu := hu_of hr
  have r1 : Room 1 _ := hr.mono (by decide)
  refine ⟨_, pss_cons (ps_set (i := 2) scLd.nd rfl (Or.inl rfl) (pe_ix ix_list (pe_dget hu (pv 0) pe_str (fun _ _ => rfl)) pe_int (fun _ _ => rfl)))
    (pss_cons (ps_for PassesOwn.never rfl (pi_tup (pv 1)) (pg_tup rfl (pgs_cons (pg_name (i := 3) scLd.nd rfl (Or.inl rfl)) (pgs_cons (pg_name (i := 4) scLd.nd rfl (Or.inl rfl)) pgs_nil)))
      (pss_one (ps_set (i := 2) scLd.nd rfl (Or.inl rfl) (pe_call G r1 rfl mG kG bG .nil pass0 (pa_cons (pv 0) (pa_cons (pv 2) (pa_cons (pv 3) (pa_cons (pv 4) pa_nil))))))))
    (pss_one (ps_ret (pv 2)))), ?_⟩
  obtain ⟨ca, aa, ma, ra, h1, h2, h3, h4, h5⟩ := id hO
  have dK := fun (x : Str) (G : Hp) (e : G o = some (.dK (kvO ca aa ma ra))) => DGet.k (k := Sum.inr x) e
  have e0 : (W.marks.map V.str)[0]? = some (.str (W.marks.headD Str.empty)) := by
    have m1 := dr.m1.1
    match hm : W.marks, m1 with
    | y :: r, _ => rfl
  obtain ⟨ts, ht, hall⟩ := hL
  have ll := dpAll_len hall
  rw [List.length_map] at ll
  refine ⟨_, rfl, o, _, rfl, dK "marks" H h1, ma, _, 0, _, rfl, rfl, SqL.of h4, atI_nat (j := 0) e0, ?_⟩
  refine ⟨_, rfl, t, rfl, ⟨_, ht⟩, ?_⟩
  refine for_it walk_tup (fun i σ F => ∃ x3 x4, σ = [some (.ref o), some (.ref t), some (.str (loggedW W (W.marks.headD Str.empty) (steps.take i))), x3, x4] ∧ Same H F) ⟨_, _, rfl, Same.refl H⟩ (fun i σ F _ ⟨_, _, _, sF⟩ => same_tup sF ht) ?_ ?_
  · rintro i y σ F F' hi ⟨x3, x4, rfl, sF⟩ ⟨rfl, hy⟩
    obtain ⟨k, q1, hk, rfl, hq1⟩ := log_item (dpAll_same sF hall) hy
    refine ⟨q1, _, rfl, hq1, rfl, _, _, rfl, _, _, rfl, rfl, ?_⟩
    refine ⟨_, rfl, _, rfl, _, rfl, _, rfl, o, W, _, k.1, k.2, rfl, hO.same sF, dr, fun F2 s2 => ?_⟩
    have et : steps.take (i + 1) = steps.take i ++ [k] := by rw [List.take_add_one, hk]; rfl
    rw [et, loggedW_app]
    exact ⟨_, _, rfl, sF.trans s2⟩
  · rintro σ F ⟨x3, x4, rfl, sF⟩
    rw [ll, List.take_length]
    exact ⟨_, rfl, q F sF⟩
end
end K56
set_option Elab.async false
set_option linter.all false
set_option maxRecDepth 100000
set_option maxHeartbeats 1600000
/-! The law's own safe marks. -/
namespace LG
open PySem L2
/-- the goals of a mark's steps -/
def goalsN (W : Wat) (m : Str) : List Str := (W.steps.filter fun e => decide (e.1.1 = m)).map (·.2)
theorem goals_all (W : Wat) (S : List Str) (m : Str) : (goalsN W m).all (fun x => S.contains x) = okIn W S m := by
  unfold goalsN okIn
  generalize W.steps = g
  induction g with
  | nil => rfl
  | cons e r ih =>
    rw [List.all_cons]
    by_cases h : e.1.1 = m
    · rw [List.filter_cons_of_pos (by rw [decide_eq_true h]), List.map_cons, List.all_cons, ih, decide_eq_true h]
      rfl
    · rw [List.filter_cons_of_neg (by rw [decide_eq_false h]; exact Bool.false_ne_true), ih, decide_eq_false h]
      rfl
theorem same_lock {G E : Hp} {r : Addr} {u : HO} {o : Obj} (hr : G r = some u) (e : Same (upd G r (.frz o u)) E) : Same G (upd E r u) := fun b v h => by
  by_cases z : b = r
  · rw [z, hr] at h
    rw [z, upd_same, h]
  · rw [upd_ne z]
    exact e _ _ (by rw [upd_ne z]; exact h)
end LG
namespace K56
open PySem L2 LG
section
variable {P : Program} {w : World} {K : PySem.W.Frag} {mg : Str → Option Value} {base : Heap}
def spSafeL (K : PySem.W.Frag) : Sp := fun vs H Q _ => ∃ (o : Addr) (W : Wat), vs = [.ref o] ∧ WatOwn H o W ∧ DrawnW W ∧ ∀ q G, Same H G → G q = some (.tup ((safeL W).map V.str)) → Q (.ref q) G
abbrev nSl : List Str := ["_law_watch_here", "_law_found", "_law_lap", "_law_left", "_law_mark", "_law_goals", "_law_key", "_law_goal"]
abbrev g67 (K : PySem.W.Frag) : TG := gTup K 2 (gCons (gName 6) (gCons (gName 7) gNil))
theorem scSl : FnScope nSl ["_law_watch_here"] (defScope sSafeL) := ⟨rfl, rfl, rfl, by decide +kernel, rfl, by decide +kernel, by decide +kernel⟩
theorem ok_safeL {f : Addr} {fd : FuncData} (F : Fun K "_law_safe" "_law_safe" sSafeL f fd) (T : Bltn mg) : FnOk P w K mg base CX0 1 f fd ["_law_watch_here"] (spSafeL K) := by
  refine F.ok scSl (fun vs H Q E h => ?_) (fun cdv A0 outer st H vs Q E hr h => ?_)
  · obtain ⟨o, W, rfl, _⟩ := h
    rfl
  obtain ⟨o, W, rfl, hO, dr, q⟩ := h
  have hu := hu_of hr
  refine' ⟨_, pss_cons (ps_set (i := 1) scSl.nd rfl (Or.inr rfl) (pe_callTy call_list_of rfl T.list (by decide +kernel) (pa_cons (pe_dget hu (pv 0) pe_str (fun _ _ => rfl)) pa_nil)))
    (pss_cons (ps_for PassesOwn.never rfl (pi_range1 rfl T.range (pa_cons (pe_callB call_len_seq rfl T.len PySem.boot_len (pa_cons (pe_dget hu (pv 0) pe_str (fun _ _ => rfl)) pa_nil)) pa_nil)) (pg_name (i := 2) scSl.nd rfl (Or.inl rfl))
      (pss_cons (ps_set (i := 3) scSl.nd rfl (Or.inl rfl) (pe_lst pa_nil))
      (pss_cons (ps_for PassesOwn.never rfl (pi_list (pv 1)) (pg_name (i := 4) scSl.nd rfl (Or.inr rfl)) (pss_cons (ps_lock ?goals) (pss_one ?ext)))
      (pss_one (ps_set (i := 1) scSl.nd rfl (Or.inr rfl) (pv 3))))))
    (pss_one (ps_ret (pe_callTy call_tuple_of rfl T.tuple (by decide +kernel) (pa_cons (pv 1) pa_nil))))), ?main⟩
  case goals =>
    exact ps_setLc (i := 5) (te := tVar 7) (tt := tTest (tOp rEq (tOp (rIxT K) (tVar 6) (tC (.int 0))) (tVar 4))) (own := [("_law_key", 6), ("_law_goal", 7)]) (g := g67 K) rfl scSl.nd rfl rfl (sw_true rfl rfl rfl (by decide +kernel)) (pi_itemsT (pe_dget hu (pv 0) pe_str (fun _ _ => rfl)))
      (blkOk_by (own := [("_law_key", 6), ("_law_goal", 7)]) (N := nSl) (sc := defScope sSafeL) (by decide +kernel))
      (fun _ _ _ _ _ => by exact pg_tup rfl (pgs_cons (pg_name (i := 6) scSl.nd rfl (Or.inl rfl)) (pgs_cons (pg_name (i := 7) scSl.nd rfl (Or.inl rfl)) pgs_nil))) (fun _ _ _ _ _ => by exact pts_one (pt_cmpR op_eq (pe_ix ix_tup (pv 6) pe_int (fun _ _ => rfl)) (pv 4) (nomark _)))
      (fun _ _ _ _ _ => by exact pv 7)
  case ext =>
    exact ps_expr (pe_bm PySem.F.plainAttrs_list PySem.F.slot_list_extend PySem.F.type_list_extend mt_extend (pv 3) (pa_cons (pe_ifExp (pt_val (pe_callB (cr_all rfl) rfl T.all (by decide +kernel) (pa_cons (pe_lc (te := tOp (rInTxt K) (tVar 7) (tVar 1)) (own := [("_law_goal", 7)]) (g := gName 7) (tt := tYes) rfl scSl.nd (pi_list (pv 5))
      (blkOk_by (own := [("_law_goal", 7)]) (N := nSl) (sc := defScope sSafeL) (by decide +kernel)) (fun _ _ _ _ _ => pg_name (i := 7) scSl.nd rfl (Or.inl rfl)) (fun _ _ _ _ _ => pts_nil) (fun _ _ _ _ _ => by exact pe_cmpR op_in_txt (pv 7) (pv 1) (by rfl))) pa_nil))) (pe_lst (pa_cons (pv 4) pa_nil)) (pe_lst pa_nil)) pa_nil))
  case main =>
    obtain ⟨ca, aa, ma, ra, h1, h2, h3, h4, h5⟩ := id hO
    have dK := fun (x : Str) (G : Hp) (e : G o = some (.dK (kvO ca aa ma ra))) => DGet.k (k := Sum.inr x) e
    have m1 := dr.m1
    have len : ∀ n, (safeN W n).length ≤ 4 := fun n => by
      obtain ⟨p, e⟩ := safeN_fil W n
      rw [e]
      have := List.length_filter_le p W.marks
      omega
    refine ⟨_, rfl, o, _, rfl, dK "marks" H h1, ma, _, rfl, .inl (SqL.of h4), fun f0 nf0 => ?_⟩
    have u0 := same_new nf0 (.lst (W.marks.map V.str))
    have hf0 : (upd H f0 (.lst (W.marks.map V.str))) f0 = some (.lst ((safeN W 0).map V.str)) := upd_same
    show _
    generalize upd H f0 (.lst (W.marks.map V.str)) = G0 at u0 hf0 ⊢
    clear nf0
    refine ⟨_, rfl, o, _, rfl, dK "marks" _ (u0 _ _ h1), ma, _, rfl, .inl (SqL.of (u0 _ _ h4)), ?_⟩
    rw [List.length_map]
    refine ⟨_, rfl, by omega, by omega, ?_⟩
    rw [Int.toNat_natCast]
    refine for_it walk_range (fun i σ F => ∃ fi v2 v3 v4 v5, σ = [some (.ref o), some (.ref fi), v2, v3, v4, v5, none, none] ∧ Same H F ∧ F fi = some (.lst ((safeN W i).map V.str))) ⟨_, _, _, _, _, rfl, u0, hf0⟩ (fun _ _ _ _ _ => trivial) ?_ ?_
    · rintro i y σ F F' hi ⟨fi, v2, v3, v4, v5, rfl, sF, hfi⟩ ⟨rfl, rfl⟩
      refine ⟨(by show 0 ≤ sizeLine; decide), fun ll nll => ?_⟩
      have v1 := same_new nll (.lst [])
      have hll : (upd F' ll (.lst [])) ll = some (.lst []) := upd_same
      have nlf : ll ≠ fi := fun z => by rw [z, hfi] at nll; cases nll
      have nlH : H ll = none := by
        cases e : H ll with
        | none => rfl
        | some u => rw [sF _ _ e] at nll; cases nll
      have sF := sF.trans v1
      have hfi := v1 _ _ hfi
      show _
      generalize upd F' ll (.lst []) = G1 at hll sF hfi ⊢
      clear nll v1
      refine ⟨_, rfl, fi, rfl, ⟨_, SqL.of hfi⟩, ?_⟩
      refine for_it (walk_list (xs := (safeN W i).map V.str)) (fun j σ F => ∃ v4 v5, σ = [some (.ref o), some (.ref fi), some (.int (0 + (i : Nat))), some (.ref ll), v4, v5, none, none] ∧ Same H F ∧ F fi = some (.lst ((safeN W i).map V.str)) ∧ F ll = some (.lst ((((safeN W i).take j).filter (okIn W (safeN W i))).map V.str))) ⟨_, _, rfl, sF, hfi, hll⟩ (fun _ _ _ _ ⟨_, _, _, _, h, _⟩ => SqL.of h) ?_ ?_
      · clear sF hfi hll
        rintro j y σ F F' hj ⟨v4, v5, rfl, sF, hfi, hll⟩ ⟨rfl, hy⟩
        rw [List.length_map] at hj
        have emj := List.getElem?_eq_getElem hj
        generalize (safeN W i)[j] = m at emj
        rw [List.getElem?_map, emj] at hy
        cases hy
        have et : (safeN W i).take (j + 1) = (safeN W i).take j ++ [m] := by rw [List.take_add_one, emj]; rfl
        rw [et, List.filter_append]
        have l4 := len i
        have hr5 := sF _ _ h5
        refine ⟨ra, _, hr5, trivial, fun od => ?_⟩
        have o_r : o ≠ ra := fun z => by rw [z, h5] at h1; cases h1
        have hfz : (upd F' ra (.frz od (.dT (kvW W.steps)))) ra = some (.frz od (.dT (kvW W.steps))) := upd_same
        have hoL : (upd F' ra (.frz od (.dT (kvW W.steps)))) o = some (.dK (kvO ca aa ma ra)) := by rw [upd_ne o_r]; exact sF _ _ h1
        have back := fun (E : Hp) (e : Same (upd F' ra (.frz od (.dT (kvW W.steps)))) E) => same_lock hr5 e
        show _
        generalize upd F' ra (.frz od (.dT (kvW W.steps))) = HL at hfz hoL back ⊢
        refine ⟨_, rfl, o, _, rfl, dK "steps" HL hoL, ra, od, kvW W.steps, rfl, hfz, fun D nD => ?_⟩
        have kl := kvW_len W.steps
        have sl := dr.sl
        refine lc_it walk_itemsT (D := D) (g := g67 K) (tt := tTest (tOp rEq (tOp (rIxT K) (tVar 6) (tC (.int 0))) (tVar 4))) (te := tVar 7) (vs := [6, 7])
          (fun k E => Same HL E ∧ E D = some (.lst ((((W.steps.take k).filter fun e => decide (e.1.1 = m)).map (·.2)).map V.str))) ⟨same_new nD _, upd_same⟩ (fun k E _ h => h.1 _ _ hfz) ?_ ?_
        · rintro k y E E' hk ⟨sE, hD⟩ ⟨T1, q1, kk, v, hkv, hq1, rfl, nT, rfl⟩
          rw [kl] at hk
          have hjs : W.steps[k]? = some W.steps[k] := List.getElem?_eq_getElem hk
          have ets : W.steps.take (k + 1) = W.steps.take k ++ [W.steps[k]] := by rw [List.take_add_one, hjs]; rfl
          have ekv : kk = kT3 W.steps[k].1 ∧ v = .str W.steps[k].2 := by
            unfold kvW at hkv
            rw [List.getElem?_map, hjs] at hkv
            cases hkv
            exact ⟨rfl, rfl⟩
          obtain ⟨rfl, rfl⟩ := ekv
          rw [ets]
          generalize W.steps[k] = e at hq1 nT ⊢
          have w0 := same_new nT (.tup [V.ref q1, .str e.2])
          have hT : (upd E T1 (.tup [V.ref q1, .str e.2])) T1 = some (.tup [V.ref q1, .str e.2]) := upd_same
          have hq2 : (upd E T1 (.tup [V.ref q1, .str e.2])) q1 = some (.tup [V.str e.1.1, .str e.1.2.1, .str e.1.2.2]) := w0 _ _ hq1
          have hD2 := w0 _ _ hD
          have sE2 := sE.trans w0
          show _
          generalize upd E T1 (.tup [V.ref q1, .str e.2]) = E1 at hT hq2 hD2 sE2 ⊢
          refine ⟨T1, _, rfl, .inl (.inl hT), rfl, _, _, rfl, _, _, rfl, rfl, rfl, ?_⟩
          refine ⟨_, rfl, q1, _, 0, _, rfl, rfl, .inl (.inl hq2), rfl, _, rfl, rfl, _, rfl, ?_⟩
          by_cases em : e.1.1 = m
          · refine iteC (by simp [em]) ⟨_, rfl, _, hD2, ?_, same_upd_new sE2 nD, ?_⟩
            · rw [List.length_map, List.length_map]
              have h1 := List.length_filter_le (fun e => decide (e.1.1 = m)) (W.steps.take k)
              rw [List.length_take] at h1
              rw [sizeLine_eq]
              omega
            · rw [upd_same, List.filter_append, List.filter_cons_of_pos (by rw [decide_eq_true em]), List.filter_nil, List.map_append, List.map_append]
              rfl
          · refine iteN (by simp [em]) ⟨sE2, ?_⟩
            rw [List.filter_append, List.filter_cons_of_neg (by rw [decide_eq_false em]; exact Bool.false_ne_true), List.filter_nil, List.append_nil]
            exact hD2
        · rintro E ⟨sE, hD⟩
          rw [kl, List.take_length] at hD
          refine ⟨sE _ _ hfz, ?_⟩
          have sB := back E sE
          have nDr : D ≠ ra := fun z => by rw [z, hfz] at nD; cases nD
          have hD2 : (upd E ra (.dT (kvW W.steps))) D = some (.lst ((goalsN W m).map V.str)) := by rw [upd_ne nDr]; exact hD
          show _
          generalize upd E ra (.dT (kvW W.steps)) = E2 at sB hD2 ⊢
          have hll2 := sB _ _ hll
          have hfi2 := sB _ _ hfi
          have sF2 := sF.trans sB
          refine ⟨_, rfl, .inl ⟨rfl, _, SqL.of hll2⟩, _, rfl, D, rfl, ⟨_, SqL.of hD2⟩, fun D2 nD2 => ?_⟩
          have gl : (goalsN W m).length ≤ 36 := by
            unfold goalsN
            rw [List.length_map]
            have := List.length_filter_le (fun e => decide (e.1.1 = m)) W.steps
            omega
          refine lc_it (walk_list (xs := (goalsN W m).map V.str)) (fun k E => Same E2 E ∧ E D2 = some (.lst ((((goalsN W m).take k).map fun x => (safeN W i).contains x).map V.bl))) ⟨same_new nD2 _, upd_same⟩ (fun k E _ h => SqL.of (h.1 _ _ hD2)) ?_ ?_
          · rintro k y E E' hk ⟨sE, hDk⟩ ⟨rfl, hy⟩
            rw [List.length_map] at hk
            have egk := List.getElem?_eq_getElem hk
            generalize (goalsN W m)[k] = g at egk
            rw [List.getElem?_map, egk] at hy
            cases hy
            refine ⟨rfl, _, rfl, _, rfl, g, fi, safeN W i, rfl, rfl, .inl (SqL.of (sE _ _ hfi2)), _, hDk, ?_, same_upd_new sE nD2, ?_⟩
            · rw [List.length_map, List.length_map, List.length_take, sizeLine_eq]
              omega
            · rw [upd_same, take_snoc egk, List.map_append]
              rfl
          · rintro E ⟨sE, hDk⟩
            rw [List.length_map, List.take_length] at hDk
            refine ⟨D2, _, rfl, SqL.of hDk, _, rfl, ?_⟩
            have eall : ((goalsN W m).map fun x => (safeN W i).contains x).all id = okIn W (safeN W i) m := by
              rw [List.all_map, ← goals_all]
              rfl
            rw [eall]
            have hllE := sE _ _ hll2
            have hfiE := sE _ _ hfi2
            have sFE := sF2.trans sE
            have lt4 : (((safeN W i).take j).filter (okIn W (safeN W i))).length ≤ 4 := by
              have h1 := List.length_filter_le (okIn W (safeN W i)) ((safeN W i).take j)
              rw [List.length_take] at h1
              omega
            cases ek : okIn W (safeN W i) m with
            | true =>
              refine iteT ⟨_, rfl, (by show 1 ≤ sizeLine; decide), fun l1 nl1 => ?_⟩
              have s1 := same_new nl1 (.lst [V.str m])
              refine ⟨ll, l1, _, _, rfl, rfl, s1 _ _ hllE, upd_same, by rw [List.length_map, sizeLine_eq]; show _ + 1 ≤ _; omega, ?_⟩
              refine ⟨_, _, rfl, same_upd_new (sFE.trans s1) nlH, by rw [upd_ne (Ne.symm nlf)]; exact s1 _ _ hfiE, ?_⟩
              rw [upd_same, List.filter_cons_of_pos ek, List.filter_nil, List.map_append]
              rfl
            | false =>
              refine iteF ⟨(by show 0 ≤ sizeLine; decide), fun l1 nl1 => ?_⟩
              have s1 := same_new nl1 (.lst [])
              refine ⟨ll, l1, _, _, rfl, rfl, s1 _ _ hllE, upd_same, by rw [List.length_map, sizeLine_eq]; show _ + 0 ≤ _; omega, ?_⟩
              refine ⟨_, _, rfl, same_upd_new (sFE.trans s1) nlH, by rw [upd_ne (Ne.symm nlf)]; exact s1 _ _ hfiE, ?_⟩
              rw [upd_same, List.filter_cons_of_neg (by rw [ek]; exact Bool.false_ne_true), List.filter_nil, List.append_nil, List.append_nil]
      · rintro σ F ⟨v4, v5, rfl, sF, hfi, hll⟩
        rw [List.length_map, List.take_length] at hll
        exact ⟨_, rfl, ll, _, _, _, _, rfl, sF, hll⟩
    · rintro σ F ⟨fi, v2, v3, v4, v5, rfl, sF, hfi⟩
      refine ⟨_, rfl, fi, _, rfl, .inl ⟨SqL.of hfi, fun l nl => ?_⟩⟩
      exact q l _ (sF.trans (same_new nl _)) upd_same
end
end K56
set_option Elab.async false
set_option linter.all false
set_option maxRecDepth 100000
set_option maxHeartbeats 8000000
namespace K56
open PySem L2 LG
section
variable {P : Program} {w : World} {K : PySem.W.Frag} {mg : Str → Option Value} {base : Heap} {fI : Addr}
/-! ### whether any value is a log -/
def isStrD : PyData → Bool
  | .str _ => true
  | _ => false
def spIsLog (K : PySem.W.Frag) : Sp := fun vs H Q _ => ∃ (o : Addr) (v : V) (d : PyData) (D : Dev), vs = [.ref o, v] ∧ OwnAt K H o D ∧ Dx K H v d ∧ ∀ G, Same H G → Q (.bl (isLogD D.calls D.answers d)) G
abbrev nLg : List Str := ["_law_device", "_law_value", "_law_pair", "_law_word"]
theorem scLg : FnScope nLg ["_law_device", "_law_value"] (defScope sIsLog) := ⟨rfl, rfl, rfl, by decide +kernel, rfl, by decide +kernel, by decide +kernel⟩
def tStr (K : PySem.W.Frag) : TE := fun σ H Q => ∃ (v : V) (d : PyData), σ[3]? = some (some v) ∧ Dp K H v d ∧ Q (.bl (isStrD d)) H
theorem isstr_dp {H : Hp} {v : V} {d : PyData} (h : Dp K H v d) : ∃ t, TyX K H v t ∧ PySem.W.kitOne K t (.type "str") = some (isStrD d) := by
  obtain ⟨T, ty, e⟩ := ty_of h
  cases h with
  | str x => exact ⟨_, ty, by subst e; exact kit_self⟩
  | non => exact ⟨_, ty, kit_nostr _ (by subst e; simp [tyNames]) (by subst e; simp)⟩
  | bl b => exact ⟨_, ty, kit_nostr _ (by subst e; simp [tyNames]) (by subst e; simp)⟩
  | int i => exact ⟨_, ty, kit_nostr _ (by subst e; simp [tyNames]) (by subst e; simp)⟩
  | lst _ _ => exact ⟨_, ty, kit_nostr _ (by subst e; simp [tyNames]) (by subst e; simp)⟩
  | tup _ _ => exact ⟨_, ty, kit_nostr _ (by subst e; simp [tyNames]) (by subst e; simp)⟩
theorem ok_islog {f : Addr} {fd : FuncData} (F : Fun K "_law_is_log" "_law_is_log" sIsLog f fd) (T : Bltn mg) : FnOk P w K mg base CX0 1 f fd ["_law_device", "_law_value"] (spIsLog K) := by
  refine F.ok scLg (fun vs H Q E h => ?_) (fun cdv A0 outer st H vs Q E hr h => ?_)
  · obtain ⟨o, v, d, D, rfl, _⟩ := h
    rfl
  obtain ⟨o, v, d, D, rfl, hO, hd, q⟩ := h
  have hu := hu_of hr
  refine' ⟨_, pss_cons (ps_if (PW.pt (pw_or (pt_not (pt_val (pe_callB call_isi rfl T.isinstance (by decide +kernel) (pa_cons (pv 1) (pa_cons (pe_bltn (v := .ty "tuple") (u := .type "tuple") rfl T.tuple (by decide +kernel) rfl) pa_nil))))) (pw_or1 (pt_cmpR op_gt (pe_callB call_len_seq rfl T.len PySem.boot_len (pa_cons (pv 1) pa_nil)) pe_int (nomark _))))) (pss_one (ps_ret pe_bl)) pss_nil)
    (pss_cons (ps_for PassesOwn.never rfl (pi_tup (pv 1)) (pg_name (i := 2) scLg.nd rfl (Or.inl rfl)) (pss_cons ?c1 (pss_one ?c2))) (pss_one (ps_ret pe_bl))), ?main⟩
  case c1 =>
    exact ps_if (PW.pt (pw_or (pt_not (pt_val (pe_callB call_isi rfl T.isinstance (by decide +kernel) (pa_cons (pv 2) (pa_cons (pe_bltn (v := .ty "tuple") (u := .type "tuple") rfl T.tuple (by decide +kernel) rfl) pa_nil))))) (pw_or (pt_cmpR op_ne (pe_callB call_len_seq rfl T.len PySem.boot_len (pa_cons (pv 2) pa_nil)) pe_int (nomark _))
      (pw_or1 (pt_not (pt_val (pe_callB (cr_all rfl) rfl T.all (by decide +kernel) (pa_cons (pe_lc (te := tStr K) (own := [("_law_word", 3)]) (g := gName 3) (tt := tYes) rfl scLg.nd (pi_tup (pv 2)) (blkOk_by (own := [("_law_word", 3)]) (N := nLg) (sc := defScope sIsLog) (by decide +kernel))
        (fun _ _ _ _ _ => pg_name (i := 3) scLg.nd rfl (Or.inl rfl)) (fun _ _ _ _ _ => pts_nil)
        (fun _ _ _ _ _ => by
          refine' pe_imp (t' := tStr K) (pe_callB call_isi rfl T.isinstance (by decide +kernel) (pa_cons (pv 3) (pa_cons (pe_bltn (v := .ty "str") (u := .type "str") rfl T.str (by decide +kernel) rfl) pa_nil))) ?_
          rintro σ H Q ⟨v, d, e3, hd, k⟩
          obtain ⟨t, ty, kk⟩ := isstr_dp hd
          exact ⟨_, e3, v, _, t, _, _, rfl, .ty _, ty, kk, k⟩)) pa_nil))))))))
      (pss_one (ps_ret pe_bl)) pss_nil
  case c2 =>
    exact ps_if (PW.pt (pw_or (pt_cmpR op_notIn_txt (pe_ix ix_tup (pv 2) pe_int (fun _ _ => rfl)) (pe_dget hu (pv 0) pe_str (fun _ _ => rfl)) (by rfl)) (pw_or1 (pt_cmpR op_notIn_txt (pe_ix ix_tup (pv 2) pe_int (fun _ _ => rfl)) (pe_dget hu (pv 0) pe_str (fun _ _ => rfl)) (by rfl))))) (pss_one (ps_ret pe_bl)) pss_nil
  case main =>
    obtain ⟨c, a, sa, r, gg, h1, h2, h3, h4, h5, h6⟩ := hO.ex
    have dK := fun (x : Str) (G : Hp) (e : G o = some (.dK [(.inr ("calls" : Str), .ref c), (.inr ("answers" : Str), .ref a), (.inr ("states" : Str), .ref sa), (.inr ("rows" : Str), .ref r)])) => DGet.k (k := Sum.inr x) e
    by_cases isT : ∃ ds, d = .tuple ds
    rotate_left
    · obtain ⟨ty, hty, kk⟩ := hd.notup (fun xs z => isT ⟨xs, z⟩)
      have e0 : isLogD D.calls D.answers d = false := by
        cases d with
        | tuple ds => exact absurd ⟨ds, rfl⟩ isT
        | _ => rfl
      have := q H (Same.refl H)
      rw [e0] at this
      exact ⟨_, rfl, v, .ty "tuple", ty, .type "tuple", false, rfl, .ty _, hty, kk, _, rfl, iteT this⟩
    obtain ⟨ds, rfl⟩ := isT
    cases hd with
    | flat hd =>
      cases hd with
      | @tup t xs _ ht hall =>
        have ll := dpAll_len hall
        have eL : isLogD D.calls D.answers (.tuple ds) = (decide (ds.length ≤ 24) && ds.all (isPairD D.calls D.answers)) := rfl
        rw [eL] at q
        refine ⟨_, rfl, .ref t, .ty "tuple", .type "tuple", .type "tuple", true, rfl, .ty _, tup_ty ht, if_pos (beq_self_eq_true _), _, rfl, iteF ⟨_, rfl, t, _, rfl, .inr ht, _, _, rfl, rfl, _, rfl, ?_⟩⟩
        by_cases c2 : ds.length ≤ 24
        rotate_left
        · refine iteC (decide_eq_true (by omega)) ?_
          have := q H (Same.refl H)
          rw [decide_eq_false c2, Bool.false_and] at this
          exact this
        refine iteN (decide_eq_false (by omega)) ?_
        rw [decide_eq_true c2] at q
        refine ⟨_, rfl, t, rfl, ⟨_, ht⟩, ?_⟩
        refine for_it walk_tup (fun i σ F => ∃ v2, σ = [some (.ref o), some (.ref t), v2, none] ∧ Same H F ∧ (ds.take i).all (isPairD D.calls D.answers) = true) ⟨_, rfl, Same.refl H, rfl⟩ (fun i σ F _ ⟨_, _, sF, _⟩ => same_tup sF ht) ?_ ?_
        · rintro i y σ F F1 hi ⟨v2, rfl, sF, al⟩ ⟨rfl, hy⟩
          obtain ⟨dy, hdy, dpy⟩ := DpAll.get hall hy
          have dpy := Dp_same sF _ _ dpy
          have bad : isPairD D.calls D.answers dy = false → ∀ G, Same F1 G → Q (.bl false) G := fun e G sG => by
            have := q G (sF.trans sG)
            have ef : ds.all (isPairD D.calls D.answers) = false := by
              cases h : ds.all (isPairD D.calls D.answers) with
              | false => rfl
              | true =>
                have := List.all_eq_true.mp h dy (List.mem_of_getElem? hdy)
                rw [e] at this
                cases this
            rw [ef] at this
            exact this
          have good : isPairD D.calls D.answers dy = true → (ds.take (i + 1)).all (isPairD D.calls D.answers) = true := fun e => by
            rw [List.take_add_one, hdy, List.all_append, al]
            show ([dy].all _) = true
            rw [List.all_cons, e]
            rfl
          by_cases isT2 : ∃ es, dy = .tuple es
          rotate_left
          · obtain ⟨ty, hty, kk⟩ := (Dx.flat dpy).notup (fun xs z => isT2 ⟨xs, z⟩)
            exact ⟨_, rfl, y, .ty "tuple", ty, .type "tuple", false, rfl, .ty _, hty, kk, _, rfl, iteT (bad (isPair_no (fun x y e => isT2 ⟨_, e⟩)) F1 (Same.refl _))⟩
          obtain ⟨es, rfl⟩ := isT2
          cases dpy with
          | @tup t2 ys _ ht2 hall2 =>
            have l2 := dpAll_len hall2
            refine ⟨_, rfl, .ref t2, .ty "tuple", .type "tuple", .type "tuple", true, rfl, .ty _, tup_ty ht2, if_pos (beq_self_eq_true _), _, rfl, iteF ⟨_, rfl, t2, _, rfl, .inr ht2, rfl, _, rfl, ?_⟩⟩
            by_cases e2 : ys.length = 2
            rotate_left
            · refine iteC (by simp; omega) (iteT (bad (isPair_no (fun x y e => by cases e; exact e2 (by rw [l2]; rfl))) F1 (Same.refl _)))
            refine iteN (by simp [e2]) ?_
            match ys, es, e2, l2, hall2, ht2 with
            | [x1, x2], [d1, d2], _, _, .cons p1 (.cons p2 .nil), ht2 =>
              refine ⟨_, rfl, t2, rfl, ⟨_, ht2⟩, fun DL nDL => ?_⟩
              refine lc_all walk_tup nDL (fun j => V.bl (isStrD ([d1, d2].getD j .none))) (by show 2 ≤ sizeLine; decide) (fun G sG => same_tup sG ht2) ?_ ?_
              · rintro j x G4 G5 Kt hj sG ⟨rfl, hx⟩ hK
                refine ⟨rfl, ?_⟩
                have hj2 : j < 2 := hj
                have kk := hK _ (Same.refl _)
                match j, hj2, hx, kk with
                | 0, _, hx, kk =>
                  cases hx
                  exact ⟨x1, d1, rfl, Dp_same sG _ _ p1, kk⟩
                | 1, _, hx, kk =>
                  cases hx
                  exact ⟨x2, d2, rfl, Dp_same sG _ _ p2, kk⟩
              · intro G sG hDL
                have e1 : (List.range ([x1, x2] : List V).length).map (fun j => V.bl (isStrD ([d1, d2].getD j .none))) = [isStrD d1, isStrD d2].map V.bl := rfl
                rw [e1] at hDL
                refine ⟨DL, _, rfl, SqL.of hDL, _, rfl, ?_⟩
                by_cases s1 : ∃ z1, d1 = .str z1
                rotate_left
                · have f1 : isStrD d1 = false := by
                    cases d1 with
                    | str z => exact absurd ⟨z, rfl⟩ s1
                    | _ => rfl
                  have nb : isPairD D.calls D.answers (.tuple [d1, d2]) = false := by
                    show (amongD D.calls d1 && _) = false
                    have : amongD D.calls d1 = false := by
                      cases d1 with
                      | str z => exact absurd ⟨z, rfl⟩ s1
                      | _ => rfl
                    rw [this, Bool.false_and]
                  rw [f1]
                  exact iteT (bad nb G sG)
                by_cases s2 : ∃ z2, d2 = .str z2
                rotate_left
                · have f2 : isStrD d2 = false := by
                    cases d2 with
                    | str z => exact absurd ⟨z, rfl⟩ s2
                    | _ => rfl
                  have nb : isPairD D.calls D.answers (.tuple [d1, d2]) = false := by
                    show (amongD D.calls d1 && amongD D.answers d2) = false
                    have : amongD D.answers d2 = false := by
                      cases d2 with
                      | str z => exact absurd ⟨z, rfl⟩ s2
                      | _ => rfl
                    rw [this, Bool.and_false]
                  rw [f2]
                  refine iteC ?_ (bad nb G sG)
                  simp
                obtain ⟨z1, rfl⟩ := s1
                obtain ⟨z2, rfl⟩ := s2
                cases p1
                cases p2
                refine iteF ?_
                have ht3 := same_tup sG ht2
                have sFG := sF.trans sG
                have ep : isPairD D.calls D.answers (.tuple [.str z1, .str z2]) = (amongB (.str z1) D.calls && amongB (.str z2) D.answers) := rfl
                rw [ep] at bad good
                refine ⟨_, rfl, t2, _, 0, _, rfl, rfl, ht3, atI_nat (j := 0) rfl, _, rfl, o, _, rfl, dK "calls" _ (sFG _ _ h1), z1, c, _, rfl, rfl, .inl (SqL.of (sFG _ _ h2)), _, rfl, ?_⟩
                cases e3 : amongB (.str z1) D.calls with
                | false =>
                  have e3' : D.calls.contains z1 = false := e3
                  exact iteC (by rw [e3']; rfl) (iteT (bad (by rw [e3]; rfl) G sG))
                | true =>
                  have e3' : D.calls.contains z1 = true := e3
                  refine iteN (by rw [e3']; rfl) ⟨_, rfl, t2, _, 1, _, rfl, rfl, ht3, atI_nat (j := 1) rfl, _, rfl, o, _, rfl, dK "answers" _ (sFG _ _ h1), z2, a, _, rfl, rfl, .inl (SqL.of (sFG _ _ h3)), _, rfl, ?_⟩
                  cases e4 : amongB (.str z2) D.answers with
                  | false =>
                    have e4' : D.answers.contains z2 = false := e4
                    exact iteC (by rw [e4']; rfl) (bad (by rw [e4, Bool.and_false]) G sG)
                  | true =>
                    have e4' : D.answers.contains z2 = true := e4
                    exact iteN (by rw [e4']; rfl) ⟨_, rfl, sFG, good (by rw [e3, e4]; rfl)⟩
        · rintro σ F ⟨v2, rfl, sF, al⟩
          rw [ll, List.take_length] at al
          have := q F sF
          rw [al] at this
          exact this
end
end K56
set_option Elab.async false
set_option linter.all false
set_option maxRecDepth 100000
set_option maxHeartbeats 4000000
/-! list(zip(a, b)) of two tuples: no rule of the hand layer gathers a zip. -/
namespace ZL
open PySem PySem.Spec PyProof.Rows RZ
section
variable {prog : Program} {w : World} {A : Around} {E : Value → Shared → Prop} {s : Shared} {z TI TO T i1 i2 l1 l2 : Addr} {f : Bool} {oT : Obj} {k : Nat} {xs ys : Array Value} {x y : Value}
/-- the two tuples behind a zip, k of each drawn -/
structure Two (h : Heap) (TI i1 i2 l1 l2 : Addr) (k : Nat) (xs ys : Array Value) : Prop where
  ti : IsPair h TI (.ref i1) (.ref i2)
  h1 : h.IsTupleIter i1 l1 k
  h2 : h.IsTupleIter i2 l2 k
  t1 : h.IsTuple l1 xs
  t2 : h.IsTuple l2 ys
theorem held_item {Q : Option Value → Shared → Prop} (D : ZipApart z TI TO i1 i2 l1 l2) (hz : IsZipHeld s.heap z TI TO T f) (hT : s.heap.get? T = some oT) (W : Two s.heap TI i1 i2 l1 l2 k xs ys) (hx : xs[k]? = some x) (hy : ys[k]? = some y)
    (hQ : ∀ h', IsZipHeld h' z TI TO T true → Two h' TI i1 i2 l1 l2 (k + 1) xs ys → IsPair h' s.heap.objs.size x y → h'.objs.size = s.heap.objs.size + 1 →
      (∀ c o, c ≠ z → c ≠ i1 → c ≠ i2 → s.heap.get? c = some o → h'.get? c = some o) → Q (some (.ref s.heap.objs.size)) { s with heap := h' }) :
    wpAny (model prog w) A (pyNext (.ref z)) Q E s := by
  have hTy : s.TypeIs (.ref z) "zip" := ⟨_, hz, rfl⟩
  unfold pyNext
  refine wpAny_bind (wpAny_attempt (wpAny_callSpecial?_slot (name := Str.ofString "__next__") hTy F.slot_zip_next
    (wpAny_call_entry F.slot_zip_next hTy F.entry_zip_next ?_ (F.args_zip_next_1 _))))
  show wpAny _ _ (field (.ref z) 2 >>= _) _ _ _
  refine wpAny_bind (wpAny_field hz rfl (x := .bool false) rfl ?_)
  show wpAny _ _ (field (.ref z) 3 >>= _) _ _ _
  refine wpAny_bind (wpAny_field hz rfl (x := .ref TI) rfl ?_)
  refine wpAny_bind (wpAny_seqItems W.ti rfl ?_)
  show wpAny _ _ (Builtin.SmallTypes.ownedTupleIsFree (.ref z) >>= _) _ _ _
  refine wpAny_bind (wpAny_tupleHeld_zip hz hT fun h₁ hz₁ hs₁ => ?_)
  simp only [Bool.false_eq_true, if_false]
  refine wpAny_bind ?_
  rw [← Array.forIn_toList]
  simp only [List.forIn_cons, List.forIn_nil]
  refine wpAny_bind (wpAny_bind (wpAny_holding ?_))
  show wpAny _ _ (Builtin.SmallTypes.nextOf (.ref i1) >>= _) _ _ _
  refine wpAny_bind (nextOf_tuple_item (s := { s with heap := h₁ }) (W.h1.extBut hs₁.extBut D.i1z) (W.t1.extBut hs₁.extBut D.l1z) hx fun h₂ h1₂ hs₂ => wpAny_pure ?_)
  refine wpAny_pure ?_
  refine wpAny_bind (wpAny_bind (wpAny_holding ?_))
  show wpAny _ _ (Builtin.SmallTypes.nextOf (.ref i2) >>= _) _ _ _
  refine wpAny_bind (nextOf_tuple_item (s := { s with heap := h₂ }) ((W.h2.extBut hs₁.extBut D.i2z).extBut hs₂.extBut D.i12.symm) ((W.t2.extBut hs₁.extBut D.l2z).extBut hs₂.extBut D.l2i1) hy fun h₃ h2₃ hs₃ => wpAny_pure ?_)
  refine wpAny_pure (wpAny_pure ?_)
  show wpAny _ _ (newTuple [x, y] >>= _) _ _ _
  refine wpAny_bind (wpAny_newTuple ?_)
  have hsz : h₃.objs.size = s.heap.objs.size := by rw [hs₃.1, hs₂.1, hs₁.1]
  have hk : ∀ c o, c ≠ z → c ≠ i1 → c ≠ i2 → s.heap.get? c = some o → (h₃.push { cls := .type "tuple", data := .seq #[x, y] }).get? c = some o := fun c o c1 c2 c3 e => Heap.get?_push_of_some _ (hs₃.extBut _ _ c3 (hs₂.extBut _ _ c2 (hs₁.extBut _ _ c1 e)))
  have hp : IsPair (h₃.push { cls := .type "tuple", data := .seq #[x, y] }) h₃.objs.size x y := Heap.get?_push_size _ rfl
  have hz4 : (h₃.push { cls := .type "tuple", data := .seq #[x, y] }).objs.size = h₃.objs.size + 1 := Heap.size_push ..
  refine wpAny_pure ⟨_, rfl, wpAny_pure ?_⟩
  show Q (some (.ref h₃.objs.size)) _
  rw [hsz] at hp hz4 ⊢
  refine hQ _ (Heap.get?_push_of_some _ (hs₃.extBut _ _ D.i2z.symm (hs₂.extBut _ _ D.i1z.symm hz₁))) ⟨hk _ _ D.TIz D.TIi1 D.TIi2 W.ti, ?_, h2₃.at fun o e => Heap.get?_push_of_some _ e, W.t1.at fun o e => hk _ o D.l1z D.l1i1 D.l1i2 e, W.t2.at fun o e => hk _ o D.l2z D.l2i1 D.l2i2 e⟩ hp hz4 hk
  exact (h1₂.extBut hs₃.extBut D.i12).at fun o e => Heap.get?_push_of_some _ e
theorem held_end {Q : Option Value → Shared → Prop} (hh : A.handled = none) (D : ZipApart z TI TO i1 i2 l1 l2) (hz : IsZipHeld s.heap z TI TO T f) (hT : s.heap.get? T = some oT) (W : Two s.heap TI i1 i2 l1 l2 k xs ys) (hx : xs[k]? = none)
    (hQ : ∀ h', (∀ c o, c ≠ z → c ≠ i1 → c ≠ i2 → s.heap.get? c = some o → h'.get? c = some o) → Q none { s with heap := h' }) : wpAny (model prog w) A (pyNext (.ref z)) Q E s := by
  have hTy : s.TypeIs (.ref z) "zip" := ⟨_, hz, rfl⟩
  unfold pyNext
  refine wpAny_bind (wpAny_attempt (wpAny_callSpecial?_slot (name := Str.ofString "__next__") hTy F.slot_zip_next
    (wpAny_call_entry F.slot_zip_next hTy F.entry_zip_next ?_ (F.args_zip_next_1 _))))
  show wpAny _ _ (field (.ref z) 2 >>= _) _ _ _
  refine wpAny_bind (wpAny_field hz rfl (x := .bool false) rfl ?_)
  show wpAny _ _ (field (.ref z) 3 >>= _) _ _ _
  refine wpAny_bind (wpAny_field hz rfl (x := .ref TI) rfl ?_)
  refine wpAny_bind (wpAny_seqItems W.ti rfl ?_)
  show wpAny _ _ (Builtin.SmallTypes.ownedTupleIsFree (.ref z) >>= _) _ _ _
  refine wpAny_bind (wpAny_tupleHeld_zip hz hT fun h₁ hz₁ hs₁ => ?_)
  simp only [Bool.false_eq_true, if_false]
  refine wpAny_bind ?_
  rw [← Array.forIn_toList]
  simp only [List.forIn_cons, List.forIn_nil]
  refine wpAny_bind (wpAny_bind (wpAny_holding ?_))
  show wpAny _ _ (Builtin.SmallTypes.nextOf (.ref i1) >>= _) _ _ _
  refine wpAny_bind (nextOf_tuple_end (s := { s with heap := h₁ }) hh (W.h1.extBut hs₁.extBut D.i1z) (W.t1.extBut hs₁.extBut D.l1z) hx fun h₂ e hs₂ he => ?_)
  obtain ⟨o, ho, hc⟩ := he
  refine wpAny_bind (wpAny_isInstance (T := "StopIteration") (b := true) ⟨o, ho, hc⟩ isSubtype_stop ?_)
  exact wpAny_pure (hQ _ fun c o c1 c2 _ x => hs₂ _ _ c2 (hs₁.extBut _ _ c1 x))
/-- a zip while its pairs are gathered in S: none drawn yet, or the last still out -/
structure Zst (h : Heap) (S z TI TO i1 i2 l1 l2 : Addr) (k : Nat) (xs ys : Array Value) : Prop where
  two : Two h TI i1 i2 l1 l2 k xs ys
  st : (IsZip h z TI TO .none ∧ ∃ a b, IsPair h TO a b) ∨ ∃ T f oT, IsZipHeld h z TI TO T f ∧ h.get? T = some oT ∧ T ≠ z ∧ T ≠ i1 ∧ T ≠ i2 ∧ T ≠ S
theorem Zst.typ {h : Heap} {S : Addr} (Z : Zst h S z TI TO i1 i2 l1 l2 k xs ys) : ∃ o, h.get? z = some o ∧ o.cls = .type "zip" := by
  rcases Z.st with ⟨hz, _⟩ | ⟨T, f, oT, hz, _⟩
  · exact ⟨_, hz, rfl⟩
  · exact ⟨_, hz, rfl⟩
theorem Zst.move {h h' : Heap} {S : Addr} (Z : Zst h S z TI TO i1 i2 l1 l2 k xs ys) (hS : ∀ c, c = z ∨ c = TI ∨ c = TO ∨ c = i1 ∨ c = i2 ∨ c = l1 ∨ c = l2 → c ≠ S) (kp : ∀ c o, c ≠ S → h.get? c = some o → h'.get? c = some o) : Zst h' S z TI TO i1 i2 l1 l2 k xs ys := by
  have n := fun c hc o e => kp c o (hS c hc) e
  refine ⟨⟨n TI (by simp) _ Z.two.ti, Z.two.h1.at fun o e => n i1 (by simp) o e, Z.two.h2.at fun o e => n i2 (by simp) o e, Z.two.t1.at fun o e => n l1 (by simp) o e, Z.two.t2.at fun o e => n l2 (by simp) o e⟩, ?_⟩
  rcases Z.st with ⟨hz, a, b, hTO⟩ | ⟨T, f, oT, hz, hT, r1, r2, r3, r4⟩
  · exact .inl ⟨n z (by simp) _ hz, a, b, n TO (by simp) _ hTO⟩
  · exact .inr ⟨T, f, oT, n z (by simp) _ hz, kp _ _ r4 hT, r1, r2, r3, r4⟩
theorem zst_item {S : Addr} {Q : Option Value → Shared → Prop} (D : ZipApart z TI TO i1 i2 l1 l2) (Z : Zst s.heap S z TI TO i1 i2 l1 l2 k xs ys) (hS : S < s.heap.objs.size) (hx : xs[k]? = some x) (hy : ys[k]? = some y)
    (hQ : ∀ h', Zst h' S z TI TO i1 i2 l1 l2 (k + 1) xs ys → IsPair h' s.heap.objs.size x y → (∀ c o, c ≠ z → c ≠ TO → c ≠ i1 → c ≠ i2 → s.heap.get? c = some o → h'.get? c = some o) → Q (some (.ref s.heap.objs.size)) { s with heap := h' }) :
    wpAny (model prog w) A (pyNext (.ref z)) Q E s := by
  have n1 : s.heap.objs.size ≠ i1 := let ⟨_, e, _⟩ := Z.two.h1; Nat.ne_of_gt (Heap.lt_size e)
  have n2 : s.heap.objs.size ≠ i2 := let ⟨_, e, _⟩ := Z.two.h2; Nat.ne_of_gt (Heap.lt_size e)
  have nz : s.heap.objs.size ≠ z := let ⟨_, e, _⟩ := Z.typ; Nat.ne_of_gt (Heap.lt_size e)
  rcases Z.st with ⟨hz, a, b, hTO⟩ | ⟨T, f, oT, hz, hT, r1, r2, r3, r4⟩
  · refine pyNext_zipT_item D hz Z.two.ti hTO Z.two.h1 Z.two.h2 Z.two.t1 Z.two.t2 hx hy fun h' a1 a2 a3 a4 a5 a6 hk => ?_
    refine hQ h' ⟨⟨hk _ _ D.TIz D.TITO D.TIi1 D.TIi2 Z.two.ti, a3, a4, Z.two.t1.at fun o e => hk _ o D.l1z D.l1TO D.l1i1 D.l1i2 e, Z.two.t2.at fun o e => hk _ o D.l2z D.l2TO D.l2i1 D.l2i2 e⟩, .inr ⟨s.heap.objs.size, false, _, a1, a5, nz, n1, n2, Nat.ne_of_gt hS⟩⟩ a5 hk
  · refine held_item D hz hT Z.two hx hy fun h' a1 W' a5 a6 hk => ?_
    exact hQ h' ⟨W', .inr ⟨T, true, oT, a1, hk _ _ r1 r2 r3 hT, r1, r2, r3, r4⟩⟩ a5 fun c o c1 _ c3 c4 e => hk c o c1 c3 c4 e
theorem zst_done {S : Addr} {Q : Option Value → Shared → Prop} (hh : A.handled = none) (D : ZipApart z TI TO i1 i2 l1 l2) (Z : Zst s.heap S z TI TO i1 i2 l1 l2 k xs ys) (hx : xs[k]? = none)
    (hQ : ∀ h', (∀ c o, c ≠ z → c ≠ TO → c ≠ i1 → c ≠ i2 → s.heap.get? c = some o → h'.get? c = some o) → Q none { s with heap := h' }) : wpAny (model prog w) A (pyNext (.ref z)) Q E s := by
  rcases Z.st with ⟨hz, a, b, hTO⟩ | ⟨T, f, oT, hz, hT, _⟩
  · exact pyNext_zipT_end hh D hz Z.two.ti hTO Z.two.h1 Z.two.h2 Z.two.t1 Z.two.t2 (.inl hx) hQ
  · exact held_end hh D hz hT Z.two hx fun h' hk => hQ h' fun c o c1 _ c3 c4 e => hk c o c1 c3 c4 e
end
end ZL
set_option Elab.async false
set_option linter.all false
set_option maxRecDepth 100000
set_option maxHeartbeats 4000000
/-! list(zip(a, b)) of two tuples: the loop that gathers, the call. -/
namespace ZL
open PySem PySem.Spec PyProof.Rows RZ
theorem nolen : typeLookup (.type "zip") "__len__" = pure none := am_miss_of_fast (by decide +kernel)
theorem nohint : typeLookup (.type "zip") "__length_hint__" = pure none := am_miss_of_fast (by decide +kernel)
/-- the pairs made so far -/
structure Got (xs ys : Array Value) (lo : Addr) (h : Heap) (as : List Addr) : Prop where
  rise : as.Pairwise (· < ·)
  above : ∀ a ∈ as, lo < a
  at_ : ∀ (j : Nat) (a : Addr), as[j]? = some a → ∃ x y, xs[j]? = some x ∧ ys[j]? = some y ∧ IsPair h a x y
theorem Got.move {xs ys : Array Value} {lo : Addr} {h h' : Heap} {as : List Addr} (g : Got xs ys lo h as) (kp : ∀ b o, lo < b → h.get? b = some o → h'.get? b = some o) : Got xs ys lo h' as :=
  ⟨g.rise, g.above, fun j a e => by
    obtain ⟨x, y, e1, e2, e3⟩ := g.at_ j a e
    exact ⟨x, y, e1, e2, kp _ _ (g.above a (List.mem_of_getElem? e)) e3⟩⟩
theorem Got.snoc {xs ys : Array Value} {lo b : Addr} {h : Heap} {as : List Addr} {x y : Value} (g : Got xs ys lo h as) (low : ∀ a ∈ as, a < b) (hl : lo < b) (hx : xs[as.length]? = some x) (hy : ys[as.length]? = some y) (hp : IsPair h b x y) : Got xs ys lo h (as ++ [b]) := by
  refine ⟨List.pairwise_append.mpr ⟨g.rise, List.pairwise_singleton _ _, fun a ha c hc => by rw [List.mem_singleton.mp hc]; exact low a ha⟩, fun a ha => ?_, fun j a e => ?_⟩
  · rcases List.mem_append.mp ha with ha | ha
    · exact g.above a ha
    · rw [List.mem_singleton.mp ha]
      exact hl
  · rcases Nat.lt_trichotomy j as.length with h1 | h1 | h1
    · rw [List.getElem?_append_left h1] at e
      exact g.at_ j a e
    · subst h1
      have : b = a := by simpa using e
      subst this
      exact ⟨x, y, hx, hy, hp⟩
    · rw [List.getElem?_eq_none (by rw [List.length_append, List.length_singleton]; omega)] at e
      cases e
section
variable {prog : Program} {w : World} {A : Around} {E : Value → Shared → Prop} {s : Shared} {z TI TO i1 i2 l1 l2 S : Addr} {xs ys : Array Value}
abbrev listAt (h : Heap) (S : Addr) (acc : Array Value) (c : Nat) : Prop := h.get? S = some { cls := .type "list", dict := none, data := .seq acc c, slots := #[] }
theorem loop {R : Result → Shared → Prop} (hh : A.handled = none) (D : ZipApart z TI TO i1 i2 l1 l2) (hS : ∀ c, c = z ∨ c = TI ∨ c = TO ∨ c = i1 ∨ c = i2 ∨ c = l1 ∨ c = l2 → c ≠ S) {lo : Addr} (hlo : S ≤ lo ∧ z ≤ lo ∧ TO ≤ lo ∧ i1 ≤ lo ∧ i2 ≤ lo)
    (hn : xs.size ≤ sizeLine) (hxy : xs.size = ys.size) (res : Value) {h₁ : Heap}
    (hR : ∀ h' tk acc c as, (∀ b o, b ≠ S → b ≠ z → b ≠ TO → b ≠ i1 → b ≠ i2 → h₁.get? b = some o → h'.get? b = some o) → listAt h' S acc c → as.length = xs.size → Got xs ys lo h' as → acc.toList = as.map Value.ref → R (.ok (.ret res)) { s with heap := h', toks := tk }) :
    ∀ (k i : Nat) (h : Heap) (tk c : Nat) (acc : Array Value) (as : List Addr), xs.size - i = k → i ≤ xs.size → Zst h S z TI TO i1 i2 l1 l2 i xs ys → (∀ b o, b ≠ S → b ≠ z → b ≠ TO → b ≠ i1 → b ≠ i2 → h₁.get? b = some o → h.get? b = some o) →
      listAt h S acc c → acc.toList = as.map Value.ref → as.length = i → Got xs ys lo h as → (∀ a ∈ as, a < h.objs.size) → lo < h.objs.size → codeAny (model prog w) A (.builtin "list.extend.loop" ⟨[.ref S, .ref z, res], []⟩) R { s with heap := h, toks := tk } := by
  have hz_ := hS z (by simp)
  have hTO_ := hS TO (by simp)
  have h1_ := hS i1 (by simp)
  have h2_ := hS i2 (by simp)
  have nlo : ∀ b, lo < b → b ≠ S ∧ b ≠ z ∧ b ≠ TO ∧ b ≠ i1 ∧ b ≠ i2 := fun b hb => by
    obtain ⟨q1, q2, q3, q4, q5⟩ := hlo
    exact ⟨Nat.ne_of_gt (Nat.lt_of_le_of_lt q1 hb), Nat.ne_of_gt (Nat.lt_of_le_of_lt q2 hb), Nat.ne_of_gt (Nat.lt_of_le_of_lt q3 hb), Nat.ne_of_gt (Nat.lt_of_le_of_lt q4 hb), Nat.ne_of_gt (Nat.lt_of_le_of_lt q5 hb)⟩
  intro k
  induction k with
  | zero =>
    intro i h tk c acc as hk hi hst kp hL hacc hal hG hlow hls
    refine codeAny_builtin PySem.F.entry_extend_loop ?_
    rw [Around.under_plainId PySem.F.plain_extend_loop _]
    show wpAny _ A.in1 (pyNext (.ref z) >>= _) _ _ _
    refine wpAny_bind (zst_done (s := { s with heap := h, toks := tk }) (A := A.in1) hh D hst (by simp; omega) fun h' he => ?_)
    refine wpAny_pure (hR h' tk acc c as (fun b o b1 b2 b3 b4 b5 e => he b o b2 b3 b4 b5 (kp b o b1 b2 b3 b4 b5 e)) (he S _ hz_.symm hTO_.symm h1_.symm h2_.symm hL) (by omega) (hG.move fun b o lb e => ?_) hacc)
    obtain ⟨q1, q2, q3, q4, q5⟩ := nlo b lb
    exact he b o q2 q3 q4 q5 e
  | succ k ih =>
    intro i h tk c acc as hk hi hst kp hL hacc hal hG hlow hls
    have hlt : i < xs.size := by omega
    have hsz : acc.size = i := by rw [← Array.length_toList, hacc, List.length_map, hal]
    refine codeAny_builtin PySem.F.entry_extend_loop ?_
    rw [Around.under_plainId PySem.F.plain_extend_loop _]
    show wpAny _ A.in1 (pyNext (.ref z) >>= _) _ _ _
    have ex : xs[i]? = some xs[i] := Array.getElem?_eq_getElem hlt
    have ey : ys[i]? = some (ys[i]'(by omega)) := Array.getElem?_eq_getElem (by omega)
    have Sl : S < h.objs.size := Heap.lt_size hL
    refine wpAny_bind (zst_item (s := { s with heap := h, toks := tk }) (S := S) D hst Sl ex ey fun h' hst' hp hkp => ?_)
    dsimp only at hp hkp ⊢
    have hL' := hkp S _ hz_.symm hTO_.symm h1_.symm h2_.symm hL
    have up : ∀ b o, b ≠ S → h'.get? b = some o → (h'.update S (Obj.mapSeq (·.push (Value.ref h.objs.size)))).get? b = some o := fun b o hb e => (Heap.get?_update_other _ _ (Ne.symm hb)).trans e
    have hp2 := up _ _ (Nat.ne_of_gt Sl) hp
    have hlast := Heap.lt_size hp2
    show wpAny _ A.in1 (updateSeq S (·.push (Value.ref h.objs.size)) >>= _) _ _ _
    refine wpAny_bind ?_
    refine wpAny_updateSeq hL' rfl (wpAny_pure ⟨plainId_quiet PySem.F.plain_extend_loop _, ih (i + 1) _ tk _ (acc.push (Value.ref h.objs.size)) (as ++ [h.objs.size]) (by omega) hlt (hst'.move hS up)
      (fun b o b1 b2 b3 b4 b5 e => up b o b1 (hkp b o b2 b3 b4 b5 (kp b o b1 b2 b3 b4 b5 e))) (Heap.get?_update_self _ hL' rfl) (by rw [Array.toList_push, hacc, List.map_append]; rfl) (by rw [List.length_append, hal]; rfl) ?_ ?_ ?_⟩) (by rw [hsz]; omega) (by
        show (acc.push (Value.ref h.objs.size)).size ≤ sizeLine + 1
        rw [Array.size_push, hsz]
        omega)
    · refine Got.snoc (hG.move fun b o lb e => up b o (nlo b lb).1 (hkp b o (nlo b lb).2.1 (nlo b lb).2.2.1 (nlo b lb).2.2.2.1 (nlo b lb).2.2.2.2 e)) hlow hls (by rw [hal]; exact ex) (by rw [hal]; exact ey) hp2
    · intro a ha
      rcases List.mem_append.mp ha with ha | ha
      · exact Nat.lt_trans (hlow a ha) hlast
      · rw [List.mem_singleton.mp ha]
        exact hlast
    · exact Nat.lt_trans hls hlast
theorem hint {r : Addr} {Q : Bool → Shared → Prop} (hT : s.TypeIs (.ref r) "zip") (h : Q true s) : wpAny (model prog w) A (Builtin.List.listLengthHint (.ref r)) Q E s := by
  unfold Builtin.List.listLengthHint
  refine wpAny_bind (wpAny_specialOf hT nolen ?_)
  show wpAny _ _ (specialOf (Value.ref r) (Str.ofString "__length_hint__") >>= _) _ _ _
  refine wpAny_bind (wpAny_specialOf hT nohint ?_)
  exact wpAny_pure h
theorem gather {Q : Value → Shared → Prop} (hh : A.handled = none) (D : ZipApart z TI TO i1 i2 l1 l2) (hz : IsZip s.heap z TI TO .none) (hTO : ∃ a b, IsPair s.heap TO a b) (W : Two s.heap TI i1 i2 l1 l2 0 xs ys) (hlo : ∀ c, c = z ∨ c = TI ∨ c = TO ∨ c = i1 ∨ c = i2 ∨ c = l1 ∨ c = l2 → c < s.heap.objs.size) (hn : xs.size ≤ sizeLine) (hxy : xs.size = ys.size)
    (hQ : ∀ h' tk acc c as, (∀ b o, b ≠ z → b ≠ TO → b ≠ i1 → b ≠ i2 → s.heap.get? b = some o → h'.get? b = some o) → listAt h' s.heap.objs.size acc c → as.length = xs.size → Got xs ys s.heap.objs.size h' as → acc.toList = as.map Value.ref → Q (.ref s.heap.objs.size) { s with heap := h', toks := tk }) :
    wpAny (model prog w) A (call (.type "list") [.ref z]) Q E s := by
  refine callType_codes (Q₁ := fun obj s₁ => obj = .ref s.heap.objs.size ∧ s₁ = { s with heap := s.heap.push { cls := .type "list", data := .seq #[] } }) PySem.F.called_list (PySem.F.typeCall_list_1 _) PySem.F.entry_list_init
    (code_list_new _ ⟨rfl, rfl⟩) fun obj s₁ h₁ => ?_
  obtain ⟨rfl, rfl⟩ := h₁
  have hS0 : (s.heap.push { cls := .type "list", data := .seq #[] }).get? s.heap.objs.size = some { cls := .type "list", data := .seq #[] } := Heap.get?_push_size _ rfl
  refine ⟨⟨_, hS0, rfl⟩, PySem.F.args_list_init_2 _ _, ?_⟩
  have ne : ∀ c, c = z ∨ c = TI ∨ c = TO ∨ c = i1 ∨ c = i2 ∨ c = l1 ∨ c = l2 → c ≠ s.heap.objs.size := fun c hc => Nat.ne_of_lt (hlo c hc)
  generalize hS_ : s.heap.objs.size = S at hS0 ne hQ
  obtain ⟨a0, b0, hTO⟩ := hTO
  have z0 : Zst (s.heap.push { cls := .type "list", data := .seq #[] }) S z TI TO i1 i2 l1 l2 0 xs ys := by
    have up := fun (b : Addr) (o : Obj) (e : s.heap.get? b = some o) => Heap.get?_push_of_some { cls := .type "list", data := .seq #[] } e
    exact ⟨⟨up _ _ W.ti, W.h1.at fun o e => up _ _ e, W.h2.at fun o e => up _ _ e, W.t1.at fun o e => up _ _ e, W.t2.at fun o e => up _ _ e⟩, .inl ⟨up _ _ hz, a0, b0, up _ _ hTO⟩⟩
  have kp0 : ∀ b o, b ≠ S → s.heap.get? b = some o → (s.heap.push { cls := .type "list", data := .seq #[] }).get? b = some o := fun b o _ e => Heap.get?_push_of_some _ e
  have sz0 : S < (s.heap.push { cls := .type "list", data := .seq #[] }).objs.size := Heap.lt_size hS0
  generalize s.heap.push { cls := .type "list", data := .seq #[] } = g0 at hS0 z0 kp0 sz0
  show wpAny _ A.in1.in1 (do let old ← Builtin.List.listItems (.ref S); Builtin.List.listUpdate (.ref S) (fun _ => #[]); letGo old.toList.reverse; Builtin.List.listExtendWith (.ref S) (.ref z) .none) _ _ _
  refine wpAny_bind ?_
  unfold Builtin.List.listItems
  refine wpAny_bind (wpAny_seqItems hS0 rfl (wpAny_pure ?_))
  show wpAny _ _ (updateSeq S (fun _ => #[]) >>= fun _ => letGo (#[] : Array Value).toList.reverse >>= fun _ => Builtin.List.listExtendWith (.ref S) (.ref z) .none) _ _ _
  refine wpAny_bind (wpAny_updateSeq hS0 rfl ?_)
  have hS1 := Heap.get?_update_self (Obj.mapSeq (fun _ => (#[] : Array Value))) hS0 rfl
  have z1 : Zst (g0.update S (Obj.mapSeq (fun _ => (#[] : Array Value)))) S z TI TO i1 i2 l1 l2 0 xs ys := z0.move ne fun c o hc e => (Heap.get?_update_other _ _ (Ne.symm hc)).trans e
  have kp1 : ∀ b o, b ≠ S → s.heap.get? b = some o → (g0.update S (Obj.mapSeq (fun _ => (#[] : Array Value)))).get? b = some o := fun b o b1 e => (Heap.get?_update_other _ _ (Ne.symm b1)).trans (kp0 b o b1 e)
  refine wpAny_bind (wpAny_letGo ?_)
  show wpAny _ _ (Builtin.List.listExtendWith (.ref S) (.ref z) .none) _ _ _
  generalize g0.update S (Obj.mapSeq (fun _ => (#[] : Array Value))) = g1 at hS1 z1 kp1
  have hty : ({ s with heap := g1 } : Shared).TypeIs (.ref z) "zip" := z1.typ
  unfold Builtin.List.listExtendWith
  refine wpAny_bind (wpAny_typeOf (T := "zip") hty ?_)
  have hSz : S ≠ z := (ne z (by simp)).symm
  have h1 : Builtin.List.listSameRef (.ref S) (.ref z) = false := by simp [Builtin.List.listSameRef, hSz]
  have h2 : (Value.type "zip" == Value.type "list") = false := by decide
  have h3 : (Value.type "zip" == Value.type "tuple") = false := by decide
  simp only [h1, h2, h3, Bool.or_false, Bool.false_eq_true, if_false]
  have hz1 : IsZip g1 z TI TO .none := kp1 _ _ hSz.symm hz
  refine wpAny_bind (wpAny_pyIter_zip hz1 ?_)
  refine wpAny_bind (wpAny_holding (hint hty ?_))
  refine wpAny_ite_split (fun _ => ?_) (fun hab => absurd (by simp) hab)
  refine wpAny_bind (wpAny_rule ?_)
  refine wpAny_bind ?_
  show wpAny _ _ (updateSeq S (·.push .none) >>= fun _ => updateSeq S (·.pop)) _ _ _
  refine wpAny_bind (wpAny_updateSeq hS1 rfl ?_)
  have hS2 := Heap.get?_update_self (Obj.mapSeq (·.push Value.none)) hS1 rfl
  refine wpAny_updateSeq (hz := by seq_fits) hS2 rfl ?_
  have hS3 := Heap.get?_update_self (Obj.mapSeq (·.pop)) hS2 rfl
  refine wpAny_pure ⟨plainId_quiet PySem.F.plain_extend_loop _, ?_⟩
  have oth : ∀ b o, b ≠ S → g1.get? b = some o → ((g1.update S (Obj.mapSeq (·.push Value.none))).update S (Obj.mapSeq (·.pop))).get? b = some o := fun b o hb e =>
    (Heap.get?_update_other _ _ (Ne.symm hb)).trans ((Heap.get?_update_other _ _ (Ne.symm hb)).trans e)
  have hlo' : S ≤ S ∧ z ≤ S ∧ TO ≤ S ∧ i1 ≤ S ∧ i2 ≤ S := by
    have := fun c hc => Nat.le_of_lt (by rw [← hS_]; exact hlo c hc : c < S)
    exact ⟨Nat.le_refl _, this z (by simp), this TO (by simp), this i1 (by simp), this i2 (by simp)⟩
  refine loop (s := s) (h₁ := s.heap) (lo := S) (A := A.in1) hh D ne hlo' hn hxy .none (fun h' tk acc c as hk hL hl hG hacc => ⟨rfl, hQ h' tk acc c as (fun b o b2 b3 b4 b5 e => hk b o (fun q => ?_) b2 b3 b4 b5 e) hL hl hG hacc⟩) xs.size 0 _ s.toks _ #[] [] (Nat.sub_zero _) (Nat.zero_le _)
    (z1.move ne oth) (fun b o b1 _ _ _ _ e => oth b o b1 (kp1 b o b1 e)) hS3 rfl rfl ⟨List.Pairwise.nil, (fun _ ha => nomatch ha), fun j a hj => by simp at hj⟩ (fun _ ha => nomatch ha) ?_
  · exact absurd (Heap.lt_size e) (by rw [q, hS_]; exact Nat.lt_irrefl _)
  · exact Heap.lt_size hS3
end
end ZL
set_option Elab.async false
set_option linter.all false
set_option maxRecDepth 100000
set_option maxHeartbeats 4000000
/-! list(zip(a, b)), told in the hand layer's words. -/
namespace LG
open PySem PySem.Spec PyProof.Rows L2
/-- the pairs tracked at their addresses -/
def putZ : Hp → List Addr → List (V × V) → Hp
  | H, a :: as, p :: ps => putZ (upd H a (.tup [p.1, p.2])) as ps
  | H, _, _ => H
theorem putZ_off {b : Addr} : ∀ (as : List Addr) (ps : List (V × V)) (H : Hp), b ∉ as → putZ H as ps b = H b
  | [], _, _, _ => rfl
  | _ :: _, [], _, _ => rfl
  | a :: as, p :: ps, H, h => by
    show putZ (upd H a (.tup [p.1, p.2])) as ps b = H b
    rw [putZ_off as ps _ (fun z => h (List.mem_cons_of_mem _ z)), upd_ne (fun z => h (by rw [z]; exact List.mem_cons_self))]
theorem putZ_at : ∀ (as : List Addr) (ps : List (V × V)) (H : Hp), as.length = ps.length → as.Nodup → Paired (fun (t : Addr) (p : V × V) => putZ H as ps t = some (.tup [p.1, p.2])) as ps
  | [], [], _, _, _ => .nil
  | [], _ :: _, _, h, _ => by cases h
  | _ :: _, [], _, h, _ => by cases h
  | a :: as, p :: ps, H, h, hn => by
    have hn' := List.nodup_cons.mp hn
    refine .cons ?_ (putZ_at as ps (upd H a (.tup [p.1, p.2])) (Nat.succ.inj h) hn'.2)
    show putZ (upd H a (.tup [p.1, p.2])) as ps a = some (.tup [p.1, p.2])
    rw [putZ_off as ps _ hn'.1, upd_same]
section
variable {X : Cx} {pins : List (Addr × Obj)} {σ : L2.St} {H : Hp} {s : Shared}
theorem zip_laid {h' : Heap} {tk : Nat} {vx vy : List V} {xs ys : List Value} {acc : Array Value} {c : Nat} {S : Addr} {as : List Addr} (I : Inv X pins σ H s) (rx : Vals vx xs) (ry : Vals vy ys) (hxy : vx.length = vy.length) (hz : vx.length ≤ sizeLine) (hSs : s.heap.objs.size ≤ S)
    (hk : ∀ b o, s.heap.get? b = some o → h'.get? b = some o) (hS : ZL.listAt h' S acc c) (hl : as.length = vx.length) (hG : ZL.Got xs.toArray ys.toArray S h' as) (hacc : acc.toList = as.map Value.ref) :
    ∃ H' : Hp, Same H H' ∧ H S = none ∧ H' S = some (.lst (as.map V.ref)) ∧ Paired (fun (t : Addr) (p : V × V) => H t = none ∧ H' t = some (.tup [p.1, p.2])) as (vx.zip vy) ∧ Inv X pins σ H' { s with heap := h', toks := tk } := by
  have hSn : S ∉ as := fun z => Nat.lt_irrefl _ (hG.above _ z)
  have nd : as.Nodup := List.Pairwise.imp (fun {a b} (h : a < b) => Nat.ne_of_lt h) hG.rise
  have new : ∀ t ∈ as, H t = none := fun t ht => I.hok.fresh (Nat.le_of_lt (Nat.lt_of_le_of_lt hSs (hG.above t ht)))
  have newS : H S = none := I.hok.fresh hSs
  have lz : as.length = (vx.zip vy).length := by rw [List.length_zip]; omega
  have atP := putZ_at as (vx.zip vy) (upd H S (.lst (as.map V.ref))) lz nd
  have off : ∀ b, b ∉ as → b ≠ S → putZ (upd H S (.lst (as.map V.ref))) as (vx.zip vy) b = H b := fun b h1 h2 => by rw [putZ_off as _ _ h1, upd_ne h2]
  have low : ∀ b o, s.heap.get? b = some o → b ∉ as ∧ b ≠ S := fun b o e => ⟨fun z => absurd (Heap.lt_size e) (Nat.not_lt.mpr (Nat.le_of_lt (Nat.lt_of_le_of_lt hSs (hG.above b z)))), Nat.ne_of_lt (Nat.lt_of_lt_of_le (Heap.lt_size e) hSs)⟩
  have kp : ∀ b u, H b = some u → (putZ (upd H S (.lst (as.map V.ref))) as (vx.zip vy)) b = some u := fun b u e => by
    rw [off b (fun z => by rw [new b z] at e; cases e) (fun z => by rw [z, newS] at e; cases e)]
    exact e
  have eS : putZ (upd H S (.lst (as.map V.ref))) as (vx.zip vy) S = some (.lst (as.map V.ref)) := by rw [putZ_off as _ _ hSn, upd_same]
  have at2 : Paired (fun (t : Addr) (p : V × V) => H t = none ∧ putZ (upd H S (.lst (as.map V.ref))) as (vx.zip vy) t = some (.tup [p.1, p.2])) as (vx.zip vy) := by
    have gen : ∀ {G : Hp} {as' : List Addr} {ps' : List (V × V)}, (∀ t ∈ as', H t = none) → Paired (fun (t : Addr) (p : V × V) => G t = some (.tup [p.1, p.2])) as' ps' → Paired (fun (t : Addr) (p : V × V) => H t = none ∧ G t = some (.tup [p.1, p.2])) as' ps' := by
      intro G as' ps' h0 q
      induction q with
      | nil => exact .nil
      | cons e _ ih => exact .cons ⟨h0 _ List.mem_cons_self, e⟩ (ih fun t ht => h0 t (List.mem_cons_of_mem _ ht))
    exact gen new atP
  refine ⟨putZ (upd H S (.lst (as.map V.ref))) as (vx.zip vy), fun b o e => kp b o e, newS, eS, at2, ?_⟩
  refine I.call' (ch := []) rfl ⟨fun b o q _ _ _ => hk b o q, fun b o q _ _ _ => ⟨o.slots, hk b o q⟩, fun b o q n _ => ?_, fun b o q _ => ⟨o, hk b o q⟩, fun b xs q => kp b _ q, fun b o u q => kp b _ q, fun b ps q => ⟨#[], by rw [kp b _ q]; simp⟩⟩ (fun b u q => ?_) I.bare fun b z => by cases z
  · obtain ⟨z1, z2⟩ := low b o q
    rw [off b z1 z2]
    exact n
  · by_cases hb : b ∈ as
    · obtain ⟨j, pk, e1, e2, e3⟩ := LiI.paired_ix atP hb
      rw [e3] at q
      cases q
      obtain ⟨x, y, f1, f2, f3⟩ := hG.at_ j b e1
      rw [List.getElem?_zip_eq_some] at e2
      obtain ⟨g1, r1a, r1b⟩ := rx.get e2.1
      obtain ⟨g2, r2a, r2b⟩ := ry.get e2.2
      have ex : xs[j]? = some x := by simpa using f1
      have ey : ys[j]? = some y := by simpa using f2
      rw [r1a] at ex
      cases ex
      rw [r2a] at ey
      cases ey
      exact ⟨by show 2 ≤ sizeLine; decide, [_, _], .cons r1b (.cons r2b .nil), ⟨_, f3, rfl, _, rfl⟩⟩
    · by_cases hb2 : b = S
      · rw [hb2] at q ⊢
        rw [eS] at q
        cases q
        refine ⟨by rw [List.length_map]; omega, acc.toList, c, by rw [hacc]; exact LiI.vals_refs as, ?_⟩
        rw [Array.toArray_toList]
        exact hS
      · rw [off b hb hb2] at q
        exact (I.hok b u q).stay (fun d v _ y => hk d v y) (fun d y => kp d _ y) fun d xs y => kp d _ y
def tListZip (K : PySem.W.Frag) (ta : TA) : TE := fun σ H Q => ta σ H fun vs H1 => ∃ (a b : Addr) (xs ys : List V), vs = [.ref a, .ref b] ∧ SqT K H1 a xs ∧ SqT K H1 b ys ∧ xs.length = ys.length ∧ xs.length ≤ sizeLine ∧
  ∀ (H' : Hp) (p : Addr) (ts : List Addr), Same H1 H' → H1 p = none → H' p = some (.lst (ts.map V.ref)) → Paired (fun (t : Addr) (q : V × V) => H1 t = none ∧ H' t = some (.tup [q.1, q.2])) ts (xs.zip ys) → Q (.ref p) H'
theorem pe_listZip {e e2 : Expr} {ta : TA} {p p2 pos2 pos : Pos} (hc : X.calm = true) (hg : Gl X "list") (hm : X.mg "list" = none) (hv : bootBuiltins "list" = some (.type "list")) (hgz : Gl X "zip") (hmz : X.mg "zip" = none) (ha : PA X [e, e2] ta)
    (hs : starEach [e, e2] X.env = (false, eval e X.env) :: starEach [e2] X.env := by rfl) (hpl : (backTo pos2 (starEach [e2] X.env)).any (·.1) = false := by rfl)
    (hs2 : starEach [.Call (.Name "zip" p2) [e, e2] [] pos2] X.env = (false, eval (.Call (.Name "zip" p2) [e, e2] [] pos2) X.env) :: starEach [] X.env := by rfl) :
    PE X (.Call (.Name "list" p) [.Call (.Name "zip" p2) [e, e2] [] pos2] [] pos) (tListZip X.K ta) := by
  refine ⟨fun pins s σ H Q I hq => ?_⟩
  refine wpAny_Call_Name_kw (ld_blt I hg hm hv ?_)
  refine PyProof.Rows.callWith_type1 ?_ hs2 rfl
  rw [hs2]
  show wpAny _ _ (spliced ((false, eval (.Call (.Name "zip" p2) [e, e2] [] pos2) X.env) :: backTo pos (starEach [] X.env))) _ _ s
  refine Calls.spliced_cons ?_
  refine Call_ (ld_blt I hgz hmz PyProof.Rows.boot_zip (PyProof.Rows.callWith_type1 (thn (ha.run pos2 pins s σ H _ I hq) fun us s1 ⟨vs, H1, I1, r1, q1⟩ => ?_) hs hpl))
  obtain ⟨a, b, xs, ys, ex, tx, ty, exy, lx, q⟩ := q1
  subst ex
  cases r1 with
  | cons r rr =>
    cases rr with
    | cons r' rr =>
      cases rr
      cases r
      cases r'
      obtain ⟨its, rv, pt1, _⟩ := I1.tuple tx
      obtain ⟨its2, rv2, pt2, _⟩ := I1.tuple ty
      obtain ⟨o1, ho1, _⟩ := id pt1
      obtain ⟨o2, ho2, _⟩ := id pt2
      refine RZ.call_zipT (show s1.heap.IsTuple a its.toArray from pt1) (show s1.heap.IsTuple b its2.toArray from pt2) fun h' hz hTI hTO h1 h2 hsz hk => ?_
      refine Calls.spliced_nil ?_
      have D := PySem.W.ktu_apart s1.heap.objs.size a b (Heap.lt_size ho1) (Heap.lt_size ho2)
      have I2 : Inv X pins σ H1 { s1 with heap := h' } := I1.kept (t' := s1.toks) hk
      have l1 := rv.length
      have l2 := rv2.length
      refine ZL.gather (s := { s1 with heap := h' }) (xs := its.toArray) (ys := its2.toArray) (I1.ok.hd hc) D hz ⟨_, _, hTO⟩ ⟨hTI, h1, h2, Heap.IsTuple.at (items := its.toArray) pt1 fun o e => hk _ _ e, Heap.IsTuple.at (items := its2.toArray) pt2 fun o e => hk _ _ e⟩ ?_ (by simp; omega) (by simp; omega) fun h2' tk acc c as kk hL hl hG hacc => ?_
      · have b1 := Heap.lt_size ho1
        have b2 := Heap.lt_size ho2
        intro c hc
        show c < h'.objs.size
        rw [hsz]
        rcases hc with q | q | q | q | q | q | q
        · rw [q]; exact Nat.add_lt_add_left (by decide) _
        · rw [q]; exact Nat.add_lt_add_left (by decide) _
        · rw [q]; exact Nat.add_lt_add_left (by decide) _
        · rw [q]; exact Nat.lt_add_of_pos_right (by decide)
        · rw [q]; exact Nat.add_lt_add_left (by decide) _
        · rw [q]; exact Nat.lt_of_lt_of_le b1 (Nat.le_add_right _ _)
        · rw [q]; exact Nat.lt_of_lt_of_le b2 (Nat.le_add_right _ _)
      · have kk' : ∀ b o, s1.heap.get? b = some o → h2'.get? b = some o := fun b o e => by
          have := Heap.lt_size e
          have ne : ∀ j, b ≠ s1.heap.objs.size + j := fun j => Nat.ne_of_lt (Nat.lt_of_lt_of_le this (Nat.le_add_right _ _))
          exact kk b o (ne 4) (ne 3) (ne 0) (ne 1) (hk b o e)
        obtain ⟨H', k1, k2, k3, k4, J⟩ := zip_laid (tk := tk) I1 rv rv2 exy lx (show s1.heap.objs.size ≤ h'.objs.size by rw [hsz]; omega) kk' hL (by simpa using (hl.trans (by simp; omega))) hG hacc
        exact ⟨.ref _, H', J, rfl, q H' _ as k1 k2 k3 k4⟩
end
end LG
set_option Elab.async false
set_option linter.all false
set_option maxRecDepth 100000
set_option maxHeartbeats 4000000
/-! list(zip(a, b)) of a list and a tuple: a zip drawn from. -/
namespace ZLT
open PySem PySem.Spec PyProof.Rows RZ ZL
section
variable {prog : Program} {w : World} {A : Around} {E : Value → Shared → Prop} {s : Shared} {z TI TO T i1 i2 l1 l2 : Addr} {f : Bool} {oT : Obj} {k : Nat} {xs ys : Array Value} {x y : Value}
/-- the list and the tuple behind a zip, k of each drawn -/
structure Two (h : Heap) (TI i1 i2 l1 l2 : Addr) (k : Nat) (xs ys : Array Value) : Prop where
  ti : IsPair h TI (.ref i1) (.ref i2)
  h1 : h.IsListIter i1 l1 k
  h2 : h.IsTupleIter i2 l2 k
  t1 : h.IsList l1 xs
  t2 : h.IsTuple l2 ys
theorem held_item {Q : Option Value → Shared → Prop} (D : ZipApart z TI TO i1 i2 l1 l2) (hz : IsZipHeld s.heap z TI TO T f) (hT : s.heap.get? T = some oT) (W : Two s.heap TI i1 i2 l1 l2 k xs ys) (hx : xs[k]? = some x) (hy : ys[k]? = some y)
    (hQ : ∀ h', IsZipHeld h' z TI TO T true → Two h' TI i1 i2 l1 l2 (k + 1) xs ys → IsPair h' s.heap.objs.size x y → h'.objs.size = s.heap.objs.size + 1 →
      (∀ c o, c ≠ z → c ≠ i1 → c ≠ i2 → s.heap.get? c = some o → h'.get? c = some o) → Q (some (.ref s.heap.objs.size)) { s with heap := h' }) :
    wpAny (model prog w) A (pyNext (.ref z)) Q E s := by
  have hTy : s.TypeIs (.ref z) "zip" := ⟨_, hz, rfl⟩
  unfold pyNext
  refine wpAny_bind (wpAny_attempt (wpAny_callSpecial?_slot (name := Str.ofString "__next__") hTy F.slot_zip_next
    (wpAny_call_entry F.slot_zip_next hTy F.entry_zip_next ?_ (F.args_zip_next_1 _))))
  show wpAny _ _ (field (.ref z) 2 >>= _) _ _ _
  refine wpAny_bind (wpAny_field hz rfl (x := .bool false) rfl ?_)
  show wpAny _ _ (field (.ref z) 3 >>= _) _ _ _
  refine wpAny_bind (wpAny_field hz rfl (x := .ref TI) rfl ?_)
  refine wpAny_bind (wpAny_seqItems W.ti rfl ?_)
  show wpAny _ _ (Builtin.SmallTypes.ownedTupleIsFree (.ref z) >>= _) _ _ _
  refine wpAny_bind (wpAny_tupleHeld_zip hz hT fun h₁ hz₁ hs₁ => ?_)
  simp only [Bool.false_eq_true, if_false]
  refine wpAny_bind ?_
  rw [← Array.forIn_toList]
  simp only [List.forIn_cons, List.forIn_nil]
  refine wpAny_bind (wpAny_bind (wpAny_holding ?_))
  show wpAny _ _ (Builtin.SmallTypes.nextOf (.ref i1) >>= _) _ _ _
  refine wpAny_bind (PySem.wpAny_nextOf_list_item (s := { s with heap := h₁ }) (W.h1.extBut hs₁.extBut D.i1z) (W.t1.extBut hs₁.extBut D.l1z) hx fun h₂ h1₂ hs₂ => wpAny_pure ?_)
  refine wpAny_pure ?_
  refine wpAny_bind (wpAny_bind (wpAny_holding ?_))
  show wpAny _ _ (Builtin.SmallTypes.nextOf (.ref i2) >>= _) _ _ _
  refine wpAny_bind (nextOf_tuple_item (s := { s with heap := h₂ }) ((W.h2.extBut hs₁.extBut D.i2z).extBut hs₂.extBut D.i12.symm) ((W.t2.extBut hs₁.extBut D.l2z).extBut hs₂.extBut D.l2i1) hy fun h₃ h2₃ hs₃ => wpAny_pure ?_)
  refine wpAny_pure (wpAny_pure ?_)
  show wpAny _ _ (newTuple [x, y] >>= _) _ _ _
  refine wpAny_bind (wpAny_newTuple ?_)
  have hsz : h₃.objs.size = s.heap.objs.size := by rw [hs₃.1, hs₂.1, hs₁.1]
  have hk : ∀ c o, c ≠ z → c ≠ i1 → c ≠ i2 → s.heap.get? c = some o → (h₃.push { cls := .type "tuple", data := .seq #[x, y] }).get? c = some o := fun c o c1 c2 c3 e => Heap.get?_push_of_some _ (hs₃.extBut _ _ c3 (hs₂.extBut _ _ c2 (hs₁.extBut _ _ c1 e)))
  have hp : IsPair (h₃.push { cls := .type "tuple", data := .seq #[x, y] }) h₃.objs.size x y := Heap.get?_push_size _ rfl
  have hz4 : (h₃.push { cls := .type "tuple", data := .seq #[x, y] }).objs.size = h₃.objs.size + 1 := Heap.size_push ..
  refine wpAny_pure ⟨_, rfl, wpAny_pure ?_⟩
  show Q (some (.ref h₃.objs.size)) _
  rw [hsz] at hp hz4 ⊢
  refine hQ _ (Heap.get?_push_of_some _ (hs₃.extBut _ _ D.i2z.symm (hs₂.extBut _ _ D.i1z.symm hz₁))) ⟨hk _ _ D.TIz D.TIi1 D.TIi2 W.ti, ?_, h2₃.at fun o e => Heap.get?_push_of_some _ e, W.t1.at fun o e => hk _ o D.l1z D.l1i1 D.l1i2 e, W.t2.at fun o e => hk _ o D.l2z D.l2i1 D.l2i2 e⟩ hp hz4 hk
  exact (h1₂.extBut hs₃.extBut D.i12).at fun o e => Heap.get?_push_of_some _ e
theorem held_end {Q : Option Value → Shared → Prop} (hh : A.handled = none) (D : ZipApart z TI TO i1 i2 l1 l2) (hz : IsZipHeld s.heap z TI TO T f) (hT : s.heap.get? T = some oT) (W : Two s.heap TI i1 i2 l1 l2 k xs ys) (hx : xs[k]? = none)
    (hQ : ∀ h', (∀ c o, c ≠ z → c ≠ i1 → c ≠ i2 → s.heap.get? c = some o → h'.get? c = some o) → Q none { s with heap := h' }) : wpAny (model prog w) A (pyNext (.ref z)) Q E s := by
  have hTy : s.TypeIs (.ref z) "zip" := ⟨_, hz, rfl⟩
  unfold pyNext
  refine wpAny_bind (wpAny_attempt (wpAny_callSpecial?_slot (name := Str.ofString "__next__") hTy F.slot_zip_next
    (wpAny_call_entry F.slot_zip_next hTy F.entry_zip_next ?_ (F.args_zip_next_1 _))))
  show wpAny _ _ (field (.ref z) 2 >>= _) _ _ _
  refine wpAny_bind (wpAny_field hz rfl (x := .bool false) rfl ?_)
  show wpAny _ _ (field (.ref z) 3 >>= _) _ _ _
  refine wpAny_bind (wpAny_field hz rfl (x := .ref TI) rfl ?_)
  refine wpAny_bind (wpAny_seqItems W.ti rfl ?_)
  show wpAny _ _ (Builtin.SmallTypes.ownedTupleIsFree (.ref z) >>= _) _ _ _
  refine wpAny_bind (wpAny_tupleHeld_zip hz hT fun h₁ hz₁ hs₁ => ?_)
  simp only [Bool.false_eq_true, if_false]
  refine wpAny_bind ?_
  rw [← Array.forIn_toList]
  simp only [List.forIn_cons, List.forIn_nil]
  refine wpAny_bind (wpAny_bind (wpAny_holding ?_))
  show wpAny _ _ (Builtin.SmallTypes.nextOf (.ref i1) >>= _) _ _ _
  refine wpAny_bind (PySem.wpAny_nextOf_list_end (s := { s with heap := h₁ }) hh (W.h1.extBut hs₁.extBut D.i1z) (W.t1.extBut hs₁.extBut D.l1z) hx fun h₂ e hs₂ he => ?_)
  obtain ⟨o, ho, hc⟩ := he
  refine wpAny_bind (wpAny_isInstance (T := "StopIteration") (b := true) ⟨o, ho, hc⟩ isSubtype_stop ?_)
  exact wpAny_pure (hQ _ fun c o c1 c2 _ x => hs₂ _ _ c2 (hs₁.extBut _ _ c1 x))
/-- a zip while its pairs are gathered in S: none drawn yet, or the last still out -/
structure Zst (h : Heap) (S z TI TO i1 i2 l1 l2 : Addr) (k : Nat) (xs ys : Array Value) : Prop where
  two : Two h TI i1 i2 l1 l2 k xs ys
  st : (IsZip h z TI TO .none ∧ ∃ a b, IsPair h TO a b) ∨ ∃ T f oT, IsZipHeld h z TI TO T f ∧ h.get? T = some oT ∧ T ≠ z ∧ T ≠ i1 ∧ T ≠ i2 ∧ T ≠ S
theorem Zst.typ {h : Heap} {S : Addr} (Z : Zst h S z TI TO i1 i2 l1 l2 k xs ys) : ∃ o, h.get? z = some o ∧ o.cls = .type "zip" := by
  rcases Z.st with ⟨hz, _⟩ | ⟨T, f, oT, hz, _⟩
  · exact ⟨_, hz, rfl⟩
  · exact ⟨_, hz, rfl⟩
theorem Zst.move {h h' : Heap} {S : Addr} (Z : Zst h S z TI TO i1 i2 l1 l2 k xs ys) (hS : ∀ c, c = z ∨ c = TI ∨ c = TO ∨ c = i1 ∨ c = i2 ∨ c = l1 ∨ c = l2 → c ≠ S) (kp : ∀ c o, c ≠ S → h.get? c = some o → h'.get? c = some o) : Zst h' S z TI TO i1 i2 l1 l2 k xs ys := by
  have n := fun c hc o e => kp c o (hS c hc) e
  refine ⟨⟨n TI (by simp) _ Z.two.ti, Z.two.h1.at fun o e => n i1 (by simp) o e, Z.two.h2.at fun o e => n i2 (by simp) o e, Z.two.t1.at fun o e => n l1 (by simp) o e, Z.two.t2.at fun o e => n l2 (by simp) o e⟩, ?_⟩
  rcases Z.st with ⟨hz, a, b, hTO⟩ | ⟨T, f, oT, hz, hT, r1, r2, r3, r4⟩
  · exact .inl ⟨n z (by simp) _ hz, a, b, n TO (by simp) _ hTO⟩
  · exact .inr ⟨T, f, oT, n z (by simp) _ hz, kp _ _ r4 hT, r1, r2, r3, r4⟩
theorem sep (D : ZipApart z TI TO i1 i2 l1 l2) : ZipSep2 z TI TO i1 i2 [i1, l1] [i2, l2] where
  TIz := D.TIz
  TOz := D.TOz
  TITO := D.TITO
  TIi1 := D.TIi1
  mem1 := by simp
  zf1 := by simp [D.i1z.symm, D.l1z.symm]
  Tf1 := by simp [D.TOi1, D.l1TO.symm]
  TIi2 := D.TIi2
  mem2 := by simp
  zf2 := by simp [D.i2z.symm, D.l2z.symm]
  Tf2 := by simp [D.TOi2, D.l2TO.symm]
  sep1_2 := by simp [D.i12, D.l2i1.symm]
  sep2_1 := by simp [D.i12.symm, D.l1i2.symm]
theorem zst_item {S : Addr} {Q : Option Value → Shared → Prop} (hh : A.handled = none) (D : ZipApart z TI TO i1 i2 l1 l2) (Z : Zst s.heap S z TI TO i1 i2 l1 l2 k xs ys) (hS : S < s.heap.objs.size) (hx : xs[k]? = some x) (hy : ys[k]? = some y)
    (hQ : ∀ h' tk, Zst h' S z TI TO i1 i2 l1 l2 (k + 1) xs ys → IsPair h' s.heap.objs.size x y → (∀ c o, c ≠ z → c ≠ TO → c ≠ i1 → c ≠ i2 → s.heap.get? c = some o → h'.get? c = some o) → Q (some (.ref s.heap.objs.size)) { s with heap := h', toks := tk }) :
    wpAny (model prog w) A (pyNext (.ref z)) Q E s := by
  have n1 : s.heap.objs.size ≠ i1 := let ⟨_, e, _⟩ := Z.two.h1; Nat.ne_of_gt (Heap.lt_size e)
  have n2 : s.heap.objs.size ≠ i2 := let ⟨_, e, _⟩ := Z.two.h2; Nat.ne_of_gt (Heap.lt_size e)
  have nz : s.heap.objs.size ≠ z := let ⟨_, e, _⟩ := Z.typ; Nat.ne_of_gt (Heap.lt_size e)
  have hh1 : A.in1.handled = none := hh
  rcases Z.st with ⟨hz, a, b, hTO⟩ | ⟨T, f, oT, hz, hT, r1, r2, r3, r4⟩
  · have l1 := (Array.getElem?_eq_some_iff.mp hx).1
    have l2 := (Array.getElem?_eq_some_iff.mp hy).1
    refine wpAny_pyNext_zipD2_item (sep D) (Draws.list hh1 i1 _ D.l1i1 xs) (Draws.tuple hh1 i2 _ D.l2i2 ys) hz Z.two.ti hTO ⟨Z.two.h1, Z.two.t1⟩ ⟨Z.two.h2, Z.two.t2⟩ l1 l2 fun x1 x2 h' tk e1 e2 a1 a2 st1 st2 a5 a6 hk => ?_
    have e1 : xs[k]? = some x1 := e1
    have e2 : ys[k]? = some x2 := e2
    rw [hx] at e1
    rw [hy] at e2
    cases e1
    cases e2
    exact hQ h' tk ⟨⟨hk _ _ D.TIz D.TITO D.TIi1 D.TIi2 Z.two.ti, st1.1, st2.1, st1.2, st2.2⟩, .inr ⟨s.heap.objs.size, false, _, a1, a5, nz, n1, n2, Nat.ne_of_gt hS⟩⟩ a5 hk
  · refine held_item D hz hT Z.two hx hy fun h' a1 W' a5 a6 hk => ?_
    exact hQ h' s.toks ⟨W', .inr ⟨T, true, oT, a1, hk _ _ r1 r2 r3 hT, r1, r2, r3, r4⟩⟩ a5 fun c o c1 _ c3 c4 e => hk c o c1 c3 c4 e
theorem zst_done {S : Addr} {Q : Option Value → Shared → Prop} (hh : A.handled = none) (D : ZipApart z TI TO i1 i2 l1 l2) (Z : Zst s.heap S z TI TO i1 i2 l1 l2 k xs ys) (ex : k = xs.size) (exy : xs.size = ys.size)
    (hQ : ∀ h' tk, (∀ c o, c ≠ z → c ≠ TO → c ≠ i1 → c ≠ i2 → s.heap.get? c = some o → h'.get? c = some o) → Q none { s with heap := h', toks := tk }) : wpAny (model prog w) A (pyNext (.ref z)) Q E s := by
  have hh1 : A.in1.handled = none := hh
  rcases Z.st with ⟨hz, a, b, hTO⟩ | ⟨T, f, oT, hz, hT, _⟩
  · exact wpAny_pyNext_zipD2_end (sep D) (Draws.list hh1 i1 _ D.l1i1 xs) (Draws.tuple hh1 i2 _ D.l2i2 ys) hz Z.two.ti hTO ⟨Z.two.h1, Z.two.t1⟩ ⟨Z.two.h2, Z.two.t2⟩ (by omega) (by omega) (.inl ex) hQ
  · exact held_end hh D hz hT Z.two (by simp; omega) fun h' hk => hQ h' s.toks fun c o c1 _ c3 c4 e => hk c o c1 c3 c4 e
end
end ZLT
set_option Elab.async false
set_option linter.all false
set_option maxRecDepth 100000
set_option maxHeartbeats 4000000
/-! list(zip(a, b)) of a list and a tuple: the loop that gathers, the call. -/
namespace ZLT
open PySem PySem.Spec PyProof.Rows RZ ZL
section
variable {prog : Program} {w : World} {A : Around} {E : Value → Shared → Prop} {s : Shared} {z TI TO i1 i2 l1 l2 S : Addr} {xs ys : Array Value}
theorem loop {R : Result → Shared → Prop} (hh : A.handled = none) (D : ZipApart z TI TO i1 i2 l1 l2) (hS : ∀ c, c = z ∨ c = TI ∨ c = TO ∨ c = i1 ∨ c = i2 ∨ c = l1 ∨ c = l2 → c ≠ S) {lo : Addr} (hlo : S ≤ lo ∧ z ≤ lo ∧ TO ≤ lo ∧ i1 ≤ lo ∧ i2 ≤ lo)
    (hn : xs.size ≤ sizeLine) (hxy : xs.size = ys.size) (res : Value) {h₁ : Heap}
    (hR : ∀ h' tk acc c as, (∀ b o, b ≠ S → b ≠ z → b ≠ TO → b ≠ i1 → b ≠ i2 → h₁.get? b = some o → h'.get? b = some o) → listAt h' S acc c → as.length = xs.size → Got xs ys lo h' as → acc.toList = as.map Value.ref → R (.ok (.ret res)) { s with heap := h', toks := tk }) :
    ∀ (k i : Nat) (h : Heap) (tk c : Nat) (acc : Array Value) (as : List Addr), xs.size - i = k → i ≤ xs.size → Zst h S z TI TO i1 i2 l1 l2 i xs ys → (∀ b o, b ≠ S → b ≠ z → b ≠ TO → b ≠ i1 → b ≠ i2 → h₁.get? b = some o → h.get? b = some o) →
      listAt h S acc c → acc.toList = as.map Value.ref → as.length = i → Got xs ys lo h as → (∀ a ∈ as, a < h.objs.size) → lo < h.objs.size → codeAny (model prog w) A (.builtin "list.extend.loop" ⟨[.ref S, .ref z, res], []⟩) R { s with heap := h, toks := tk } := by
  have hz_ := hS z (by simp)
  have hTO_ := hS TO (by simp)
  have h1_ := hS i1 (by simp)
  have h2_ := hS i2 (by simp)
  have nlo : ∀ b, lo < b → b ≠ S ∧ b ≠ z ∧ b ≠ TO ∧ b ≠ i1 ∧ b ≠ i2 := fun b hb => by
    obtain ⟨q1, q2, q3, q4, q5⟩ := hlo
    exact ⟨Nat.ne_of_gt (Nat.lt_of_le_of_lt q1 hb), Nat.ne_of_gt (Nat.lt_of_le_of_lt q2 hb), Nat.ne_of_gt (Nat.lt_of_le_of_lt q3 hb), Nat.ne_of_gt (Nat.lt_of_le_of_lt q4 hb), Nat.ne_of_gt (Nat.lt_of_le_of_lt q5 hb)⟩
  intro k
  induction k with
  | zero =>
    intro i h tk c acc as hk hi hst kp hL hacc hal hG hlow hls
    refine codeAny_builtin PySem.F.entry_extend_loop ?_
    rw [Around.under_plainId PySem.F.plain_extend_loop _]
    show wpAny _ A.in1 (pyNext (.ref z) >>= _) _ _ _
    refine wpAny_bind (zst_done (s := { s with heap := h, toks := tk }) (A := A.in1) hh D hst (by omega) hxy fun h' tk' he => ?_)
    refine wpAny_pure (hR h' tk' acc c as (fun b o b1 b2 b3 b4 b5 e => he b o b2 b3 b4 b5 (kp b o b1 b2 b3 b4 b5 e)) (he S _ hz_.symm hTO_.symm h1_.symm h2_.symm hL) (by omega) (hG.move fun b o lb e => ?_) hacc)
    obtain ⟨q1, q2, q3, q4, q5⟩ := nlo b lb
    exact he b o q2 q3 q4 q5 e
  | succ k ih =>
    intro i h tk c acc as hk hi hst kp hL hacc hal hG hlow hls
    have hlt : i < xs.size := by omega
    have hsz : acc.size = i := by rw [← Array.length_toList, hacc, List.length_map, hal]
    refine codeAny_builtin PySem.F.entry_extend_loop ?_
    rw [Around.under_plainId PySem.F.plain_extend_loop _]
    show wpAny _ A.in1 (pyNext (.ref z) >>= _) _ _ _
    have ex : xs[i]? = some xs[i] := Array.getElem?_eq_getElem hlt
    have ey : ys[i]? = some (ys[i]'(by omega)) := Array.getElem?_eq_getElem (by omega)
    have Sl : S < h.objs.size := Heap.lt_size hL
    refine wpAny_bind (zst_item (s := { s with heap := h, toks := tk }) (S := S) (A := A.in1) hh D hst Sl ex ey fun h' tk' hst' hp hkp => ?_)
    dsimp only at hp hkp ⊢
    have hL' := hkp S _ hz_.symm hTO_.symm h1_.symm h2_.symm hL
    have up : ∀ b o, b ≠ S → h'.get? b = some o → (h'.update S (Obj.mapSeq (·.push (Value.ref h.objs.size)))).get? b = some o := fun b o hb e => (Heap.get?_update_other _ _ (Ne.symm hb)).trans e
    have hp2 := up _ _ (Nat.ne_of_gt Sl) hp
    have hlast := Heap.lt_size hp2
    show wpAny _ A.in1 (updateSeq S (·.push (Value.ref h.objs.size)) >>= _) _ _ _
    refine wpAny_bind ?_
    refine wpAny_updateSeq hL' rfl (wpAny_pure ⟨plainId_quiet PySem.F.plain_extend_loop _, ih (i + 1) _ tk' _ (acc.push (Value.ref h.objs.size)) (as ++ [h.objs.size]) (by omega) hlt (hst'.move hS up)
      (fun b o b1 b2 b3 b4 b5 e => up b o b1 (hkp b o b2 b3 b4 b5 (kp b o b1 b2 b3 b4 b5 e))) (Heap.get?_update_self _ hL' rfl) (by rw [Array.toList_push, hacc, List.map_append]; rfl) (by rw [List.length_append, hal]; rfl) ?_ ?_ ?_⟩) (by rw [hsz]; omega) (by
        show (acc.push (Value.ref h.objs.size)).size ≤ sizeLine + 1
        rw [Array.size_push, hsz]
        omega)
    · refine Got.snoc (hG.move fun b o lb e => up b o (nlo b lb).1 (hkp b o (nlo b lb).2.1 (nlo b lb).2.2.1 (nlo b lb).2.2.2.1 (nlo b lb).2.2.2.2 e)) hlow hls (by rw [hal]; exact ex) (by rw [hal]; exact ey) hp2
    · intro a ha
      rcases List.mem_append.mp ha with ha | ha
      · exact Nat.lt_trans (hlow a ha) hlast
      · rw [List.mem_singleton.mp ha]
        exact hlast
    · exact Nat.lt_trans hls hlast
theorem hint {r : Addr} {Q : Bool → Shared → Prop} (hT : s.TypeIs (.ref r) "zip") (h : Q true s) : wpAny (model prog w) A (Builtin.List.listLengthHint (.ref r)) Q E s := by
  unfold Builtin.List.listLengthHint
  refine wpAny_bind (wpAny_specialOf hT nolen ?_)
  show wpAny _ _ (specialOf (Value.ref r) (Str.ofString "__length_hint__") >>= _) _ _ _
  refine wpAny_bind (wpAny_specialOf hT nohint ?_)
  exact wpAny_pure h
theorem gather {Q : Value → Shared → Prop} (hh : A.handled = none) (D : ZipApart z TI TO i1 i2 l1 l2) (hz : IsZip s.heap z TI TO .none) (hTO : ∃ a b, IsPair s.heap TO a b) (W : Two s.heap TI i1 i2 l1 l2 0 xs ys) (hlo : ∀ c, c = z ∨ c = TI ∨ c = TO ∨ c = i1 ∨ c = i2 ∨ c = l1 ∨ c = l2 → c < s.heap.objs.size) (hn : xs.size ≤ sizeLine) (hxy : xs.size = ys.size)
    (hQ : ∀ h' tk acc c as, (∀ b o, b ≠ z → b ≠ TO → b ≠ i1 → b ≠ i2 → s.heap.get? b = some o → h'.get? b = some o) → listAt h' s.heap.objs.size acc c → as.length = xs.size → Got xs ys s.heap.objs.size h' as → acc.toList = as.map Value.ref → Q (.ref s.heap.objs.size) { s with heap := h', toks := tk }) :
    wpAny (model prog w) A (call (.type "list") [.ref z]) Q E s := by
  refine callType_codes (Q₁ := fun obj s₁ => obj = .ref s.heap.objs.size ∧ s₁ = { s with heap := s.heap.push { cls := .type "list", data := .seq #[] } }) PySem.F.called_list (PySem.F.typeCall_list_1 _) PySem.F.entry_list_init
    (code_list_new _ ⟨rfl, rfl⟩) fun obj s₁ h₁ => ?_
  obtain ⟨rfl, rfl⟩ := h₁
  have hS0 : (s.heap.push { cls := .type "list", data := .seq #[] }).get? s.heap.objs.size = some { cls := .type "list", data := .seq #[] } := Heap.get?_push_size _ rfl
  refine ⟨⟨_, hS0, rfl⟩, PySem.F.args_list_init_2 _ _, ?_⟩
  have ne : ∀ c, c = z ∨ c = TI ∨ c = TO ∨ c = i1 ∨ c = i2 ∨ c = l1 ∨ c = l2 → c ≠ s.heap.objs.size := fun c hc => Nat.ne_of_lt (hlo c hc)
  generalize hS_ : s.heap.objs.size = S at hS0 ne hQ
  obtain ⟨a0, b0, hTO⟩ := hTO
  have z0 : Zst (s.heap.push { cls := .type "list", data := .seq #[] }) S z TI TO i1 i2 l1 l2 0 xs ys := by
    have up := fun (b : Addr) (o : Obj) (e : s.heap.get? b = some o) => Heap.get?_push_of_some { cls := .type "list", data := .seq #[] } e
    exact ⟨⟨up _ _ W.ti, W.h1.at fun o e => up _ _ e, W.h2.at fun o e => up _ _ e, W.t1.at fun o e => up _ _ e, W.t2.at fun o e => up _ _ e⟩, .inl ⟨up _ _ hz, a0, b0, up _ _ hTO⟩⟩
  have kp0 : ∀ b o, b ≠ S → s.heap.get? b = some o → (s.heap.push { cls := .type "list", data := .seq #[] }).get? b = some o := fun b o _ e => Heap.get?_push_of_some _ e
  have sz0 : S < (s.heap.push { cls := .type "list", data := .seq #[] }).objs.size := Heap.lt_size hS0
  generalize s.heap.push { cls := .type "list", data := .seq #[] } = g0 at hS0 z0 kp0 sz0
  show wpAny _ A.in1.in1 (do let old ← Builtin.List.listItems (.ref S); Builtin.List.listUpdate (.ref S) (fun _ => #[]); letGo old.toList.reverse; Builtin.List.listExtendWith (.ref S) (.ref z) .none) _ _ _
  refine wpAny_bind ?_
  unfold Builtin.List.listItems
  refine wpAny_bind (wpAny_seqItems hS0 rfl (wpAny_pure ?_))
  show wpAny _ _ (updateSeq S (fun _ => #[]) >>= fun _ => letGo (#[] : Array Value).toList.reverse >>= fun _ => Builtin.List.listExtendWith (.ref S) (.ref z) .none) _ _ _
  refine wpAny_bind (wpAny_updateSeq hS0 rfl ?_)
  have hS1 := Heap.get?_update_self (Obj.mapSeq (fun _ => (#[] : Array Value))) hS0 rfl
  have z1 : Zst (g0.update S (Obj.mapSeq (fun _ => (#[] : Array Value)))) S z TI TO i1 i2 l1 l2 0 xs ys := z0.move ne fun c o hc e => (Heap.get?_update_other _ _ (Ne.symm hc)).trans e
  have kp1 : ∀ b o, b ≠ S → s.heap.get? b = some o → (g0.update S (Obj.mapSeq (fun _ => (#[] : Array Value)))).get? b = some o := fun b o b1 e => (Heap.get?_update_other _ _ (Ne.symm b1)).trans (kp0 b o b1 e)
  refine wpAny_bind (wpAny_letGo ?_)
  show wpAny _ _ (Builtin.List.listExtendWith (.ref S) (.ref z) .none) _ _ _
  generalize g0.update S (Obj.mapSeq (fun _ => (#[] : Array Value))) = g1 at hS1 z1 kp1
  have hty : ({ s with heap := g1 } : Shared).TypeIs (.ref z) "zip" := z1.typ
  unfold Builtin.List.listExtendWith
  refine wpAny_bind (wpAny_typeOf (T := "zip") hty ?_)
  have hSz : S ≠ z := (ne z (by simp)).symm
  have h1 : Builtin.List.listSameRef (.ref S) (.ref z) = false := by simp [Builtin.List.listSameRef, hSz]
  have h2 : (Value.type "zip" == Value.type "list") = false := by decide
  have h3 : (Value.type "zip" == Value.type "tuple") = false := by decide
  simp only [h1, h2, h3, Bool.or_false, Bool.false_eq_true, if_false]
  have hz1 : IsZip g1 z TI TO .none := kp1 _ _ hSz.symm hz
  refine wpAny_bind (wpAny_pyIter_zip hz1 ?_)
  refine wpAny_bind (wpAny_holding (hint hty ?_))
  refine wpAny_ite_split (fun _ => ?_) (fun hab => absurd (by simp) hab)
  refine wpAny_bind (wpAny_rule ?_)
  refine wpAny_bind ?_
  show wpAny _ _ (updateSeq S (·.push .none) >>= fun _ => updateSeq S (·.pop)) _ _ _
  refine wpAny_bind (wpAny_updateSeq hS1 rfl ?_)
  have hS2 := Heap.get?_update_self (Obj.mapSeq (·.push Value.none)) hS1 rfl
  refine wpAny_updateSeq (hz := by seq_fits) hS2 rfl ?_
  have hS3 := Heap.get?_update_self (Obj.mapSeq (·.pop)) hS2 rfl
  refine wpAny_pure ⟨plainId_quiet PySem.F.plain_extend_loop _, ?_⟩
  have oth : ∀ b o, b ≠ S → g1.get? b = some o → ((g1.update S (Obj.mapSeq (·.push Value.none))).update S (Obj.mapSeq (·.pop))).get? b = some o := fun b o hb e =>
    (Heap.get?_update_other _ _ (Ne.symm hb)).trans ((Heap.get?_update_other _ _ (Ne.symm hb)).trans e)
  have hlo' : S ≤ S ∧ z ≤ S ∧ TO ≤ S ∧ i1 ≤ S ∧ i2 ≤ S := by
    have := fun c hc => Nat.le_of_lt (by rw [← hS_]; exact hlo c hc : c < S)
    exact ⟨Nat.le_refl _, this z (by simp), this TO (by simp), this i1 (by simp), this i2 (by simp)⟩
  refine loop (s := s) (h₁ := s.heap) (lo := S) (A := A.in1) hh D ne hlo' hn hxy .none (fun h' tk acc c as hk hL hl hG hacc => ⟨rfl, hQ h' tk acc c as (fun b o b2 b3 b4 b5 e => hk b o (fun q => ?_) b2 b3 b4 b5 e) hL hl hG hacc⟩) xs.size 0 _ s.toks _ #[] [] (Nat.sub_zero _) (Nat.zero_le _)
    (z1.move ne oth) (fun b o b1 _ _ _ _ e => oth b o b1 (kp1 b o b1 e)) hS3 rfl rfl ⟨List.Pairwise.nil, (fun _ ha => nomatch ha), fun j a hj => by simp at hj⟩ (fun _ ha => nomatch ha) ?_
  · exact absurd (Heap.lt_size e) (by rw [q, hS_]; exact Nat.lt_irrefl _)
  · exact Heap.lt_size hS3
end
end ZLT
set_option Elab.async false
set_option linter.all false
set_option maxRecDepth 100000
set_option maxHeartbeats 4000000
/-! list(zip(a, b)) of a list and a tuple. -/
namespace LG
open PySem PySem.Spec PyProof.Rows L2
section
variable {X : Cx} {pins : List (Addr × Obj)} {σ : L2.St} {H : Hp} {s : Shared}
def tListZipLT (K : PySem.W.Frag) (ta : TA) : TE := fun σ H Q => ta σ H fun vs H1 => ∃ (a b : Addr) (xs ys : List V), vs = [.ref a, .ref b] ∧ SqL K H1 a xs ∧ SqT K H1 b ys ∧ xs.length = ys.length ∧ xs.length ≤ sizeLine ∧
  ∀ (H' : Hp) (p : Addr) (ts : List Addr), Same H1 H' → H1 p = none → H' p = some (.lst (ts.map V.ref)) → Paired (fun (t : Addr) (q : V × V) => H1 t = none ∧ H' t = some (.tup [q.1, q.2])) ts (xs.zip ys) → Q (.ref p) H'
theorem pe_listZipLT {e e2 : Expr} {ta : TA} {p p2 pos2 pos : Pos} (hc : X.calm = true) (hg : Gl X "list") (hm : X.mg "list" = none) (hv : bootBuiltins "list" = some (.type "list")) (hgz : Gl X "zip") (hmz : X.mg "zip" = none) (ha : PA X [e, e2] ta)
    (hs : starEach [e, e2] X.env = (false, eval e X.env) :: starEach [e2] X.env := by rfl) (hpl : (backTo pos2 (starEach [e2] X.env)).any (·.1) = false := by rfl)
    (hs2 : starEach [.Call (.Name "zip" p2) [e, e2] [] pos2] X.env = (false, eval (.Call (.Name "zip" p2) [e, e2] [] pos2) X.env) :: starEach [] X.env := by rfl) :
    PE X (.Call (.Name "list" p) [.Call (.Name "zip" p2) [e, e2] [] pos2] [] pos) (tListZipLT X.K ta) := by
  refine ⟨fun pins s σ H Q I hq => ?_⟩
  refine wpAny_Call_Name_kw (ld_blt I hg hm hv ?_)
  refine PyProof.Rows.callWith_type1 ?_ hs2 rfl
  rw [hs2]
  show wpAny _ _ (spliced ((false, eval (.Call (.Name "zip" p2) [e, e2] [] pos2) X.env) :: backTo pos (starEach [] X.env))) _ _ s
  refine Calls.spliced_cons ?_
  refine Call_ (ld_blt I hgz hmz PyProof.Rows.boot_zip (PyProof.Rows.callWith_type1 (thn (ha.run pos2 pins s σ H _ I hq) fun us s1 ⟨vs, H1, I1, r1, q1⟩ => ?_) hs hpl))
  obtain ⟨a, b, xs, ys, ex, tx, ty, exy, lx, q⟩ := q1
  subst ex
  cases r1 with
  | cons r rr =>
    cases rr with
    | cons r' rr =>
      cases rr
      cases r
      cases r'
      obtain ⟨its, rv, pt1, _⟩ := I1.list tx
      obtain ⟨its2, rv2, pt2, _⟩ := I1.tuple ty
      obtain ⟨o1, ho1, _⟩ := id pt1.isList
      obtain ⟨o2, ho2, _⟩ := id pt2
      refine zip_begins2 (begins_list a its.toArray) (begins_tuple b its2.toArray) pt1.isList pt2 fun h' hz hTI hTO h1 h2 hsz hk => ?_
      refine Calls.spliced_nil ?_
      have D := PySem.W.ktu_apart s1.heap.objs.size a b (Heap.lt_size ho1) (Heap.lt_size ho2)
      have I2 : Inv X pins σ H1 { s1 with heap := h' } := I1.kept (t' := s1.toks) hk
      have l1 := rv.length
      have l2 := rv2.length
      refine ZLT.gather (s := { s1 with heap := h' }) (xs := its.toArray) (ys := its2.toArray) (I1.ok.hd hc) D hz ⟨_, _, hTO⟩ ⟨hTI, ⟨_, h1, rfl, rfl⟩, ⟨_, h2, rfl, rfl⟩, Heap.IsList.at (items := its.toArray) pt1.isList fun o e => hk _ _ e, Heap.IsTuple.at (items := its2.toArray) pt2 fun o e => hk _ _ e⟩ ?_ (by simp; omega) (by simp; omega) fun h2' tk acc c as kk hL hl hG hacc => ?_
      · have b1 := Heap.lt_size ho1
        have b2 := Heap.lt_size ho2
        intro c hc
        show c < h'.objs.size
        rw [hsz]
        rcases hc with q | q | q | q | q | q | q
        · rw [q]; exact Nat.add_lt_add_left (by decide) _
        · rw [q]; exact Nat.add_lt_add_left (by decide) _
        · rw [q]; exact Nat.add_lt_add_left (by decide) _
        · rw [q]; exact Nat.lt_add_of_pos_right (by decide)
        · rw [q]; exact Nat.add_lt_add_left (by decide) _
        · rw [q]; exact Nat.lt_of_lt_of_le b1 (Nat.le_add_right _ _)
        · rw [q]; exact Nat.lt_of_lt_of_le b2 (Nat.le_add_right _ _)
      · have kk' : ∀ b o, s1.heap.get? b = some o → h2'.get? b = some o := fun b o e => by
          have := Heap.lt_size e
          have ne : ∀ j, b ≠ s1.heap.objs.size + j := fun j => Nat.ne_of_lt (Nat.lt_of_lt_of_le this (Nat.le_add_right _ _))
          exact kk b o (ne 4) (ne 3) (ne 0) (ne 1) (hk b o e)
        obtain ⟨H', k1, k2, k3, k4, J⟩ := zip_laid (tk := tk) I1 rv rv2 exy lx (show s1.heap.objs.size ≤ h'.objs.size by rw [hsz]; omega) kk' hL (by simpa using (hl.trans (by simp; omega))) hG hacc
        exact ⟨.ref _, H', J, rfl, q H' _ as k1 k2 k3 k4⟩
end
end LG
set_option Elab.async false
set_option linter.all false
set_option maxRecDepth 100000
set_option maxHeartbeats 1600000
/-! The law's drawn logs. -/
namespace LG
open PySem L2
theorem pss_imp {X : Cx} {ss : List Stmt} {t t' : TS} (h : PSs X ss t) (i : ∀ D σ H, t' D σ H → t D σ H) : PSs X ss t' := ⟨fun pins s σ H D I q => h.run pins s σ H D I (i D σ H q)⟩
theorem KeyRefs.at {H : Hp} {vs : List V} {ks : List (Str × Str)} (h : KeyRefs H vs ks) : ∀ {i : Nat} {k : Str × Str}, ks[i]? = some k → ∃ t, vs[i]? = some (.ref t) ∧ H t = some (.tup [.str k.1, .str k.2]) := by
  induction h with
  | nil => exact fun h => by cases h
  | cons a _ ih =>
    intro i k hk
    cases i with
    | zero =>
      have e : _ = k := Option.some.inj hk
      subst e
      exact ⟨_, rfl, a⟩
    | succ i => exact ih (i := i) hk
theorem pairs_ne_nil (ks : List (Str × Str)) : (!PyData.eqv (.list (ks.map pairD)) (.list [])) = !decide (ks = []) := by
  cases ks with
  | nil => rfl
  | cons a r => rfl
end LG
namespace K56
open PySem L2 LG
section
variable {P : Program} {w : World} {K : PySem.W.Frag} {mg : Str → Option Value} {base : Heap} {fI : Addr}
def spLog (K : PySem.W.Frag) : Sp := fun vs H Q _ => ∃ (p o : Addr) (m b : Nat) (D : Dev), vs = [.ref p, .ref o, .int m] ∧ PotAt H p b ∧ b ≤ 80000 ∧ m ≤ 24 ∧ OwnAt K (mk p H) o D ∧ Drawn D ∧
  ∀ (t : Addr) (st : List (Str × Str)) (H' : Hp), But p H H' → PotAt H' p (b + 60) → LogAt K (mk p H') t st → st.length = m → (∀ k ∈ st, k.1 ∈ D.calls ∧ k.2 ∈ D.answers) → Q (.ref t) H'
abbrev nLo : List Str := ["_law_pot_here", "_law_device", "_law_many", "_law_walk", "_law_log_here", "_law_lap", "_law_call"]
theorem scLo : FnScope nLo ["_law_pot_here", "_law_device", "_law_many"] (defScope sLog) := ⟨rfl, rfl, rfl, by decide +kernel, rfl, by decide +kernel, by decide +kernel⟩
structure KitL (P : Program) (w : World) (K : PySem.W.Frag) (mg : Str → Option Value) (base : Heap) : Prop where
  take : ∃ g gd, FnOk P w K mg base CX0 1 g gd ["_law_pot_here", "_law_upto"] spTake ∧ mg "_law_take" = some (.ref g) ∧ PySem.W.keepIn K (.ref g) = true ∧ Binds K gd ["_law_pot_here", "_law_upto"] []
  one : ∃ g gd, FnOk P w K mg base CX0 2 g gd ["_law_pot_here", "_law_some_here"] (spOf K) ∧ mg "_law_of" = some (.ref g) ∧ PySem.W.keepIn K (.ref g) = true ∧ Binds K gd ["_law_pot_here", "_law_some_here"] []
  run : ∃ g gd, FnOk P w K mg base CX0 1 g gd ["_law_device", "_law_walk"] (spRun K) ∧ mg "_law_heard" = some (.ref g) ∧ PySem.W.keepIn K (.ref g) = true ∧ Binds K gd ["_law_device", "_law_walk"] []
  zip : mg "zip" = none
/-- the end: a last answer drawn again, the tuple -/
def tL2 (K : PySem.W.Frag) : TS := fun Ds σ G => ∃ (p o L : Addr) (H0 : Hp) (D : Dev) (m : Int) (v3 v5 v6 : Option V) (zs : List V) (st : List (Str × Str)) (n B : Nat), σ = [some (.ref p), some (.ref o), some (.int m), v3, some (.ref L), v5, v6] ∧ OwnAt K (mk p H0) o D ∧ Drawn D ∧ But p H0 G ∧ PotAt G p B ∧ B ≤ 90000 ∧ H0 L = none ∧ L ≠ p ∧ G L = some (.lst zs) ∧
  KeyRefs (mk p G) zs st ∧ st.length = n ∧ n ≤ 24 ∧ (∀ k ∈ st, k.1 ∈ D.calls ∧ k.2 ∈ D.answers) ∧
  ∀ (t : Addr) (st' : List (Str × Str)) (G' : Hp), But p H0 G' → PotAt G' p (B + 2) → LogAt K (mk p G') t st' → st'.length = n → (∀ k ∈ st', k.1 ∈ D.calls ∧ k.2 ∈ D.answers) → Ds.rt (.ref t) G'
/-- the middle: the answers drawn anew -/
def tL1 (K : PySem.W.Frag) : TS := fun Ds σ G => ∃ (p o L T : Addr) (H0 : Hp) (D : Dev) (m : Int) (v5 v6 : Option V) (zs : List V) (ws : List Str) (st : List (Str × Str)) (n B : Nat), σ = [some (.ref p), some (.ref o), some (.int m), some (.ref T), some (.ref L), v5, v6] ∧ OwnAt K (mk p H0) o D ∧ Drawn D ∧ But p H0 G ∧ PotAt G p B ∧ B ≤ 85000 ∧ H0 L = none ∧ L ≠ p ∧ G L = some (.lst zs) ∧
  T ≠ p ∧ G T = some (.lst (ws.map V.str)) ∧ ws.length = n ∧ (∀ w ∈ ws, w ∈ D.calls) ∧ KeyRefs (mk p G) zs st ∧ st.length = n ∧ n ≤ 24 ∧ (∀ k ∈ st, k.1 ∈ D.calls ∧ k.2 ∈ D.answers) ∧
  ∀ (t : Addr) (st' : List (Str × Str)) (G' : Hp), But p H0 G' → PotAt G' p (B + 27) → LogAt K (mk p G') t st' → st'.length = n → (∀ k ∈ st', k.1 ∈ D.calls ∧ k.2 ∈ D.answers) → Ds.rt (.ref t) G'
theorem ok_log {f : Addr} {fd : FuncData} (F : Fun K "_law_log" "_law_log" sLog f fd) (T : Bltn mg) (Z : KitL P w K mg base) : FnOk P w K mg base CX0 4 f fd ["_law_pot_here", "_law_device", "_law_many"] (spLog K) := by
  obtain ⟨gt, gtd, GT, mT, kT_, bT⟩ := Z.take
  obtain ⟨go, god, GO, mO, kO, bO⟩ := Z.one
  obtain ⟨gr, grd, GR_, mR, kR, bR⟩ := Z.run
  refine F.ok scLo (fun vs H Q E h => ?_) (fun cdv A0 outer st_ H vs Q E hr h => ?_)
  · obtain ⟨p, o, m, b, D, rfl, _⟩ := h
    rfl
  obtain ⟨p, o, m, b, D, rfl, hp, hb, hm, hO, dr, q⟩ := h
  have hu := hu_of hr
  have r1 : Room 1 _ := hr.mono (by decide)
  have r2 : Room 2 _ := hr.mono (by decide)
  refine' ⟨_, pss_cons ?walk (pss_cons ?steps (pss_imp (t' := tL1 K) (pss_cons (ps_if (pt_cmpR op_eq (pe_call GT r1 rfl mT kT_ bT .nil pass0 (pa_cons (pv 0) (pa_cons pe_int pa_nil))) pe_int (nomark _)) (pss_one ?anew) pss_nil)
    (pss_imp (t' := tL2 K) (pss_cons (ps_if ?cond (pss_one ?put) pss_nil) (pss_one (ps_ret (pe_callTy call_tuple_of rfl T.tuple (by decide +kernel) (pa_cons (pv 4) pa_nil))))) ?i2)) ?i1)), ?main⟩
  case walk =>
    exact ps_setLc (i := 3) (te := tCall (spOf K) [] E0 (tCons (tVar 0) (tCons (tDGet (tVar 1) (tC (.str "calls"))) tNil))) (tt := tYes) (own := [("_law_lap", 5)]) (g := gName 5) rfl scLo.nd rfl rfl (sw_true rfl rfl rfl (by decide +kernel)) (pi_range1 rfl T.range (pa_cons (pv 2) pa_nil))
      (blkOk_by (own := [("_law_lap", 5)]) (N := nLo) (sc := defScope sLog) (by decide +kernel)) (fun _ _ _ _ _ => pg_name (i := 5) scLo.nd rfl (Or.inl rfl)) (fun _ _ _ _ _ => pts_nil)
      (fun _ _ _ _ _ => by exact pe_call GO r2 rfl mO kO bO .nil pass0 (pa_cons (pv 0) (pa_cons (pe_dget hu (pv 1) pe_str (fun _ _ => rfl)) pa_nil)))
  case steps =>
    exact ps_set (i := 4) scLo.nd rfl (Or.inl rfl) (pe_listZipLT rfl rfl T.list (by decide +kernel) rfl Z.zip (pa_cons (pv 3) (pa_cons (pe_ix ix_tup (pe_call GR_ r1 rfl mR kR bR .nil pass0 (pa_cons (pv 1) (pa_cons (pv 3) pa_nil))) pe_int (fun _ _ => rfl)) pa_nil)))
  case anew =>
    exact ps_setLc (i := 4) (te := tTup (tCons (tVar 6) (tCons (tCall (spOf K) [] E0 (tCons (tVar 0) (tCons (tDGet (tVar 1) (tC (.str "answers"))) tNil))) tNil))) (tt := tYes) (own := [("_law_call", 6)]) (g := gName 6) rfl scLo.nd rfl rfl (sw_true rfl rfl rfl (by decide +kernel)) (pi_list (pv 3))
      (blkOk_by (own := [("_law_call", 6)]) (N := nLo) (sc := defScope sLog) (by decide +kernel)) (fun _ _ _ _ _ => pg_name (i := 6) scLo.nd rfl (Or.inl rfl)) (fun _ _ _ _ _ => pts_nil)
      (fun _ _ _ _ _ => by exact pe_tup (pa_cons (pv 6) (pa_cons (pe_call GO r2 rfl mO kO bO .nil pass0 (pa_cons (pv 0) (pa_cons (pe_dget hu (pv 1) pe_str (fun _ _ => rfl)) pa_nil))) pa_nil)))
  case cond => exact PW.pt (pw_and (pt_cmpR (op_neD hr.units) (pv 4) (pe_lst pa_nil) (nomark _)) (pw_and1 (pt_cmpR op_eq (pe_call GT r1 rfl mT kT_ bT .nil pass0 (pa_cons (pv 0) (pa_cons pe_int pa_nil))) pe_int (nomark _))))
  case put => exact ps_asg (pe_tup (pa_cons (pe_ix ix_tup (pe_ix ix_list (pv 4) (pe_un un_neg pe_int) (fun _ _ => rfl)) pe_int (fun _ _ => rfl)) (pa_cons (pe_call GO r2 rfl mO kO bO .nil pass0 (pa_cons (pv 0) (pa_cons (pe_dget hu (pv 1) pe_str (fun _ _ => rfl)) pa_nil))) pa_nil))) (pg_sub (pv 4) (pe_un un_neg pe_int) set_list)
  case i2 =>
    clear q hO dr hp hb hm
    rintro Ds σ G ⟨p, o, L, H0, D, m, v3, v5, v6, zs, st, n, B, rfl, hO, dr, bG, pG, lB, HL, nLp, hL, kr, ln, n24, mst, q⟩
    obtain ⟨ca, aa, sa, ra, kvs, h1, h2, h3, h4, h5, h6⟩ := hO.ex
    obtain ⟨npo, h1⟩ := mk_some h1
    obtain ⟨npa, h3⟩ := mk_some h3
    have dK := fun (x : Str) (G : Hp) (e : G o = some (.dK [(.inr ("calls" : Str), .ref ca), (.inr ("answers" : Str), .ref aa), (.inr ("states" : Str), .ref sa), (.inr ("rows" : Str), .ref ra)])) => DGet.k (k := Sum.inr x) e
    have a1_ := dr.a1
    have lz : zs.length = st.length := kr.len
    -- the end of it
    have fin : ∀ (st' : List (Str × Str)) (zs' : List V) (G : Hp), But p H0 G → PotAt G p (B + 2) → G L = some (.lst zs') → KeyRefs (mk p G) zs' st' → st'.length = n → (∀ k ∈ st', k.1 ∈ D.calls ∧ k.2 ∈ D.answers) → SqL K G L zs' ∧ ∀ l, G l = none → Ds.rt (.ref l) (upd G l (.tup zs')) := by
      intro st' zs' G bG pG hG kG l' m'
      refine ⟨SqL.of hG, fun l nl => ?_⟩
      have sl := same_new nl (.tup zs')
      exact q l st' _ (bG.trans (But.of sl)) (pG.same sl) ⟨zs', .inl (.inl (mk_new pG.there nl)), pairs_dp (kG.same (mk_up sl))⟩ l' m'
    refine ⟨_, rfl, (by show 0 ≤ sizeLine; decide), fun l nl => ?_⟩
    have s4 := same_new nl (.lst [])
    have hl : (upd G l (.lst [])) l = some (.lst []) := upd_same
    show _
    generalize upd G l (.lst []) = G4 at s4 hl ⊢
    have hL := s4 _ _ hL
    have kr := kr.same (mk_up s4)
    have p4 := pG.same s4
    have b04 : But p H0 G4 := bG.trans (But.of s4)
    have asc : ∀ k ∈ st, (∀ c ∈ TL.tl k.1, c < 128) ∧ ∀ c ∈ TL.tl k.2, c < 128 := fun k hk => ⟨name_asc (dr.cw _ (mst k hk).1), name_asc (dr.aw _ (mst k hk).2)⟩
    refine ⟨.list (st.map pairD), .list [], .lst (SqL.of hL) (pairs_dp (kr.same (mk_self p G4))), .lst (SqL.of hl) .nil, pairs_shaped asc, (pairs_shaped (ks := []) (fun k hk => by cases hk)), _, rfl, ?_⟩
    rw [pairs_ne_nil]
    by_cases e0 : st = []
    · rw [decide_eq_true e0]
      refine iteF (iteF ?_)
      exact ⟨_, rfl, L, zs, rfl, .inl (fin st zs G4 b04 (p4.mono (by omega)) hL kr ln mst)⟩
    · rw [decide_eq_false e0]
      refine iteT ?_
      have l0 : 0 < st.length := List.length_pos_iff.mpr e0
      refine ⟨_, rfl, p, 3, B, rfl, p4, by omega, by decide, by decide, fun k G5 k0 k1 b5 p5 => ⟨rfl, _, rfl, ?_⟩⟩
      generalize decide (V.int k = V.int 0) = cc
      have hL5 := b5 _ _ hL nLp
      have kr5 := kr.same (mk_but b5)
      have b05 := b04.trans b5
      cases cc with
      | true =>
        refine iteT ?_
        have jl : st.length - 1 < st.length := by omega
        obtain ⟨tj, etj, htj⟩ := kr5.at (List.getElem?_eq_getElem jl)
        obtain ⟨ntj, htj⟩ := mk_some htj
        have ixl : ixN zs.length (-1) = some (st.length - 1) := by
          unfold ixN
          rw [if_neg (by omega), if_pos (by omega), lz]
          congr 1
          omega
        refine ⟨_, rfl, 1, rfl, L, zs, -1, _, rfl, rfl, SqL.of hL5, by unfold atI; rw [ixl]; exact etj, tj, _, 0, _, rfl, rfl, .inl (.inl htj), atI_nat (j := 0) rfl, ?_⟩
        refine ⟨_, rfl, _, rfl, o, _, rfl, dK "answers" _ (b05 _ _ h1 npo), p, aa, D.answers.map V.str, B + 1, rfl, p5, by omega, SqL.of (b05 _ _ h3 npa), by rw [List.length_map]; omega, by rw [List.length_map]; omega, npa, fun x G7 hx b7 p7 => ?_⟩
        obtain ⟨a', ha', rfl⟩ := List.mem_map.mp hx
        have hL7 := b7 _ _ hL5 nLp
        have kr7 := kr5.same (mk_but b7)
        have b07 := b05.trans b7
        refine ⟨(by show 2 ≤ sizeLine; decide), fun q2 nq2 => ?_⟩
        have s8 := same_new nq2 (.tup [.str st[st.length - 1].1, .str a'])
        have hq2 : (upd G7 q2 (.tup [.str st[st.length - 1].1, .str a'])) q2 = some (.tup [.str st[st.length - 1].1, .str a']) := upd_same
        have nq2p : q2 ≠ p := new_ne p7.there nq2
        show _
        generalize upd G7 q2 (.tup [.str st[st.length - 1].1, .str a']) = G8 at s8 hq2 ⊢
        have hL8 := s8 _ _ hL7
        have kr8 := kr7.same (mk_up s8)
        have p8 := p7.same s8
        have b08 : But p H0 G8 := b07.trans (But.of s8)
        refine ⟨_, rfl, 1, rfl, L, zs, -1, st.length - 1, rfl, rfl, hL8, ixl, ?_⟩
        have bL : But p H0 (upd G8 L (.lst (zs.set (st.length - 1) (.ref q2)))) := b08.put HL
        have kS := KeyRefs.set (k := (st[st.length - 1].1, a')) (mk_of nq2p hq2) (st.length - 1) kr8
        have kU := KeyRefs.set_lst (o := .lst (zs.set (st.length - 1) (.ref q2))) (mk_of nLp hL8) kS
        have kF : KeyRefs (mk p (upd G8 L (.lst (zs.set (st.length - 1) (.ref q2))))) (zs.set (st.length - 1) (.ref q2)) (st.set (st.length - 1) (st[st.length - 1].1, a')) := kU.same fun b' u e => by
          by_cases z : b' = L
          · rw [z, upd_same] at e
            rw [z]
            exact mk_of nLp (by rw [upd_same]; exact e)
          · rw [upd_ne z] at e
            obtain ⟨e1, e2⟩ := mk_some e
            exact mk_of e1 (by rw [upd_ne z]; exact e2)
        refine ⟨_, rfl, L, _, rfl, .inl (fin _ _ _ bL ?_ upd_same kF (by rw [List.length_set]; exact ln) (fun k hk => ?_))⟩
        · obtain ⟨own, sm, n, e1, e2, e3, e4, e5, e6⟩ := p8
          exact ⟨own, sm, n, by rw [upd_ne nLp.symm]; exact e1, e2, e3, e4, e5, by omega⟩
        · rcases List.mem_or_eq_of_mem_set hk with h | h
          · exact mst k h
          · rw [h]
            exact ⟨(mst _ (List.getElem_mem jl)).1, ha'⟩
      | false => exact iteF ⟨_, rfl, L, zs, rfl, .inl (fin st zs G5 b05 (p5.mono (by omega)) hL5 kr5 ln mst)⟩
  case i1 =>
    clear q hO dr hp hb hm
    rintro Ds σ G ⟨p, o, L, T, H0, D, m, v5, v6, zs, ws, st, n, B, rfl, hO, dr, bG, pG, lB, HL, nLp, hL, nTp, hT, lws, mws, kr, ln, n24, mst, q⟩
    obtain ⟨ca, aa, sa, ra, kvs, h1, h2, h3, h4, h5, h6⟩ := hO.ex
    obtain ⟨npo, h1⟩ := mk_some h1
    obtain ⟨npa, h3⟩ := mk_some h3
    have dK := fun (x : Str) (G : Hp) (e : G o = some (.dK [(.inr ("calls" : Str), .ref ca), (.inr ("answers" : Str), .ref aa), (.inr ("states" : Str), .ref sa), (.inr ("rows" : Str), .ref ra)])) => DGet.k (k := Sum.inr x) e
    have a1_ := dr.a1
    refine ⟨_, rfl, p, 3, B, rfl, pG, by omega, by decide, by decide, fun k G1 _ _ b1 p1 => ⟨rfl, _, rfl, ?_⟩⟩
    generalize decide (V.int k = V.int 0) = cc
    have b01 := bG.trans b1
    have hT1 := b1 _ _ hT nTp
    cases cc with
    | false =>
      refine iteF ?_
      exact ⟨p, o, L, H0, D, m, _, _, _, zs, st, n, B + 1, rfl, hO, dr, b01, p1, by omega, HL, nLp, b1 _ _ hL nLp, kr.same (mk_but b1), ln, n24, mst, fun t st' G' b' p' => q t st' G' b' (p'.mono (by omega))⟩
    | true =>
      refine iteT ?_
      refine ⟨_, rfl, T, rfl, ⟨_, SqL.of hT1⟩, fun L2 nL2 => ?_⟩
      have nL2p : L2 ≠ p := new_ne p1.there nL2
      have HL2 : H0 L2 = none := by
        cases e : H0 L2 with
        | none => rfl
        | some u => rw [b01 _ _ e nL2p] at nL2; cases nL2
      have nT2 : T ≠ L2 := fun z => by rw [← z, hT1] at nL2; cases nL2
      refine lc_it (walk_list (xs := ws.map V.str)) (fun i G => ∃ zs2 st2, But p H0 G ∧ PotAt G p (B + 1 + i) ∧ G T = some (.lst (ws.map V.str)) ∧ G L2 = some (.lst zs2) ∧ KeyRefs (mk p G) zs2 st2 ∧ st2.length = i ∧ ∀ k ∈ st2, k.1 ∈ D.calls ∧ k.2 ∈ D.answers)
        ⟨[], [], b01.put HL2, p1.same (same_new nL2 _), by rw [upd_ne nT2]; exact hT1, upd_same, .nil, rfl, fun _ h => nomatch h⟩ (fun i G _ h => SqL.of (by obtain ⟨_, _, _, _, h, _⟩ := h; exact h)) ?_ ?_
      · rintro i y G4 G5 hi ⟨zs2, st2, b4, p4, t4, d4, k4, l4, m4⟩ ⟨rfl, hy⟩
        rw [List.length_map] at hi
        have ewi := List.getElem?_eq_getElem hi
        have mc := mws _ (List.getElem_mem hi)
        generalize ws[i] = c at ewi mc
        rw [List.getElem?_map, ewi] at hy
        cases hy
        refine ⟨rfl, ?_⟩
        refine ⟨_, rfl, _, rfl, _, rfl, o, _, rfl, dK "answers" _ (b4 _ _ h1 npo), p, aa, D.answers.map V.str, _, rfl, p4, by omega, SqL.of (b4 _ _ h3 npa), by rw [List.length_map]; omega, by rw [List.length_map]; omega, npa, fun x G6 hx b6 p6 => ?_⟩
        obtain ⟨a, ha, rfl⟩ := List.mem_map.mp hx
        refine ⟨(by show 2 ≤ sizeLine; decide), fun q2 nq2 => ?_⟩
        have s8 := same_new nq2 (.tup [.str c, .str a])
        have hq2 : (upd G6 q2 (.tup [.str c, .str a])) q2 = some (.tup [.str c, .str a]) := upd_same
        have nq2p : q2 ≠ p := new_ne p6.there nq2
        show _
        generalize upd G6 q2 (.tup [.str c, .str a]) = G8 at s8 hq2 ⊢
        have p8 := p6.same s8
        have d8 := s8 _ _ (b6 _ _ d4 nL2p)
        have b48 := b6.trans (But.of s8)
        have lz : zs2.length = i := by rw [k4.len]; exact l4
        refine ⟨_, d8, by rw [lz, sizeLine_eq]; omega, _, st2 ++ [(c, a)], (b4.trans b48).put HL2, ?_, ?_, upd_same, ?_, ?_, ?_⟩
        · obtain ⟨own, sm, n, e, r⟩ := p8
          exact ⟨own, sm, n, by rw [upd_ne nL2p.symm]; exact e, r⟩
        · rw [upd_ne nT2]
          exact b48 _ _ t4 nTp
        · have kA := (k4.same (mk_but b48)).add (k := (c, a)) (mk_of nq2p hq2)
          have kU := KeyRefs.set_lst (o := .lst (zs2 ++ [.ref q2])) (mk_of nL2p d8) kA
          exact kU.same fun b' u e => by
            by_cases z : b' = L2
            · rw [z, upd_same] at e
              rw [z]
              exact mk_of nL2p (by rw [upd_same]; exact e)
            · rw [upd_ne z] at e
              obtain ⟨e1, e2⟩ := mk_some e
              exact mk_of e1 (by rw [upd_ne z]; exact e2)
        · rw [List.length_append, l4]
          rfl
        · intro k hk
          rcases List.mem_append.mp hk with h | h
          · exact m4 k h
          · rw [List.mem_singleton.mp h]
            exact ⟨mc, ha⟩
      · rintro G4 ⟨zs2, st2, b4, p4, t4, d4, k4, l4, m4⟩
        rw [List.length_map] at p4 l4
        exact ⟨p, o, L2, H0, D, m, _, _, _, zs2, st2, n, B + 1 + ws.length, rfl, hO, dr, b4, p4, by omega, HL2, nL2p, d4, k4, by omega, n24, m4, fun t st' G' b' p' => q t st' G' b' (p'.mono (by omega))⟩
  case main =>
    obtain ⟨ca, aa, sa, ra, kvs, h1, h2, h3, h4, h5, h6⟩ := hO.ex
    obtain ⟨npo, h1⟩ := mk_some h1
    obtain ⟨npc, h2⟩ := mk_some h2
    obtain ⟨npa, h3⟩ := mk_some h3
    obtain ⟨nps, h4⟩ := mk_some h4
    obtain ⟨npr, h5⟩ := mk_some h5
    have dK := fun (x : Str) (G : Hp) (e : G o = some (.dK [(.inr ("calls" : Str), .ref ca), (.inr ("answers" : Str), .ref aa), (.inr ("states" : Str), .ref sa), (.inr ("rows" : Str), .ref ra)])) => DGet.k (k := Sum.inr x) e
    have c1_ := dr.c1
    refine ⟨_, rfl, _, rfl, by omega, by omega, fun T nT => ?_⟩
    rw [Int.toNat_natCast]
    have nTp : T ≠ p := new_ne hp.there nT
    refine lc_it (walk_range (lo := 0)) (fun i G => ∃ ws : List Str, But p H G ∧ PotAt G p (b + i) ∧ G T = some (.lst (ws.map V.str)) ∧ ws.length = i ∧ ∀ y ∈ ws, y ∈ D.calls)
      ⟨[], But.of (same_new nT _), hp.same (same_new nT _), upd_same, rfl, fun _ h => nomatch h⟩ (fun _ _ _ _ => trivial) ?_ ?_
    · rintro i y G4 G5 hi ⟨ws, b4, p4, d4, l4, m4⟩ ⟨rfl, rfl⟩
      refine ⟨rfl, ?_⟩
      refine ⟨_, rfl, _, rfl, o, _, rfl, dK "calls" _ (b4 _ _ h1 npo), p, ca, D.calls.map V.str, _, rfl, p4, by omega, SqL.of (b4 _ _ h2 npc), by rw [List.length_map]; omega, by rw [List.length_map]; omega, npc, fun x G6 hx b6 p6 => ?_⟩
      obtain ⟨c, hc, rfl⟩ := List.mem_map.mp hx
      have d6 := b6 _ _ d4 nTp
      refine ⟨_, d6, by rw [List.length_map, sizeLine_eq]; omega, ws ++ [c], (b4.trans b6).put nT, ?_, ?_, ?_, ?_⟩
      · obtain ⟨own, sm, n, e, r⟩ := p6
        exact ⟨own, sm, n, by rw [upd_ne nTp.symm]; exact e, r⟩
      · rw [upd_same, List.map_append]
        rfl
      · rw [List.length_append, l4]
        rfl
      · intro y hy
        rcases List.mem_append.mp hy with h | h
        · exact m4 y h
        · rw [List.mem_singleton.mp h]
          exact hc
    · rintro G1 ⟨ws, b1, p1, hT, lws, mws⟩
      have g6 : GR K G1 kvs D.goals := (h6.same (mk_but b1)).same (mk_self p G1)
      refine ⟨_, rfl, _, rfl, _, rfl, o, T, ca, aa, sa, ra, kvs, ws, D, rfl, b1 _ _ h1 npo, b1 _ _ h4 nps, b1 _ _ h5 npr, g6, dr, mws, hT, by omega, fun s0 qa a e0 G2 s2 hs0 hqa ha => ?_⟩
      refine ⟨qa, _, 0, _, rfl, rfl, .inl (.inl hqa), atI_nat (j := 0) rfl, ?_⟩
      have ln := runD_len D ws s0
      have an := runD_ans dr ws s0 hs0 mws
      generalize (runD D s0 ws).1 = as at ha ln an
      refine ⟨T, a, ws.map V.str, as.map V.str, rfl, SqL.of (s2 _ _ hT), .inl (.inl ha), by rw [List.length_map, List.length_map]; omega, by rw [List.length_map, sizeLine_eq]; omega, fun G3 L ts s3 nL hL pr => ?_⟩
      have kr := zip_keys pr
      have nts : ∀ t' ∈ ts, G2 t' = none := fun t' h' => paired_left pr (fun _ _ e => e.1) t' h'
      have b02 : But p H G2 := b1.trans (But.of s2)
      have b03 : But p H G3 := b02.trans (But.of s3)
      have p2 : PotAt G2 p (b + m) := p1.same s2
      have nLp : L ≠ p := new_ne p2.there nL
      have HL : H L = none := by
        cases e : H L with
        | none => rfl
        | some u => rw [b02 _ _ e nLp] at nL; cases nL
      have kr : KeyRefs (mk p G3) (ts.map V.ref) (ws.zip as) := keyrefs_off (fun t' h' u e => mk_of (new_ne p2.there (nts t' h')) e) kr
      have lst : (ws.zip as).length = m := by rw [List.length_zip]; omega
      exact ⟨p, o, L, T, H, D, _, _, _, _, ws, ws.zip as, m, b + m, rfl, hO, dr, b03, p2.same s3, by omega, HL, nLp, hL, nTp, s3 _ _ (s2 _ _ hT), lws, mws, kr, lst, hm, fun k hk => ⟨mws _ (List.of_mem_zip hk).1, an _ (List.of_mem_zip hk).2⟩,
        fun t st' G' b' p' l' n' m' => q t st' G' b' (p'.mono (by omega)) l' n' m'⟩
end
end K56
set_option Elab.async false
set_option linter.all false
set_option maxRecDepth 100000
set_option maxHeartbeats 4000000
/-! Law k56's bent values (made over from k00's: names for letters, twenty-four items for four). -/
namespace LG
open PySem L2
/-- the heap without the pot and without a list -/
def mq (l p : Addr) (H : Hp) : Hp := mk l (mk p H)
theorem mq_up {l p : Addr} {H H' : Hp} (s : Same H H') : Same (mq l p H) (mq l p H') := mk_up (mk_up s)
theorem mq_but {l p : Addr} {H H' : Hp} (e : But p H H') : Same (mq l p H) (mq l p H') := mk_up (mk_but e)
theorem mq_self (l p : Addr) (H : Hp) : Same (mq l p H) H := (mk_self l _).trans (mk_self p H)
theorem mq_mk (l p : Addr) (H : Hp) : Same (mq l p H) (mk p H) := mk_self l _
def HL (l : Addr) (H : Hp) : Prop := ∃ ys, H l = some (.lst ys)
theorem HL.same {l : Addr} {H H' : Hp} (s : Same H H') (h : HL l H) : HL l H' := let ⟨ys, e⟩ := h; ⟨ys, s _ _ e⟩
theorem HL.but {l p : Addr} {H H' : Hp} (s : But p H H') (ne : l ≠ p) (h : HL l H) : HL l H' := let ⟨ys, e⟩ := h; ⟨ys, s _ _ e ne⟩
theorem HL.there {l : Addr} {H : Hp} (h : HL l H) : H l ≠ none := fun z => by obtain ⟨ys, e⟩ := h; rw [z] at e; cases e
theorem mq_new {l p q : Addr} {H : Hp} {o : HO} (hl : HL l H) (hp : H p ≠ none) (nq : H q = none) : mq l p (upd H q o) q = some o := mk_of (new_ne hl.there nq) (mk_new hp nq)
theorem mn_mq {l p : Addr} {H H' : Hp} (hl : HL l H) (hp : H p ≠ none) : Same (mn H H') (mq l p H') := fun b o h => by
  obtain ⟨h0, h1⟩ := mn_some h
  exact mk_of (fun z => hl.there (by rw [← z]; exact h0)) (mk_of (fun z => hp (by rw [← z]; exact h0)) h1)
theorem tq {K : PySem.W.Frag} {l p a : Addr} {H : Hp} {xs : List V} (hl : HL l H) (h : SqT K (mk p H) a xs) : SqT K (mq l p H) a xs := by
  obtain ⟨ys, e⟩ := hl
  have ne : ∀ {o : HO}, mk p H a = some o → (∀ zs, o ≠ .lst zs) → a ≠ l := fun {o} h n z => by
    have := (mk_some h).2
    rw [z, e] at this
    exact n _ (Option.some.inj this).symm
  rcases h with (h | ⟨o, h⟩) | h
  · exact .inl (.inl (mk_of (ne h fun zs z => by cases z) h))
  · exact .inl (.inr ⟨o, mk_of (ne h fun zs z => by cases z) h⟩)
  · exact .inr h
end LG
namespace K56
open PySem L2 LG
/-! ### values to be bent -/
mutual
def bd : Nat → PyData → Bool
  | _, .int _ => false
  | _, .str x => isNameB x
  | 0, .tuple _ => false
  | n + 1, .tuple xs => decide (xs.length ≤ 24) && bds n xs
  | _, .none => false
  | _, .bool _ => false
  | _, .list _ => false
  | _, .dict _ => false
def bds : Nat → List PyData → Bool
  | _, [] => true
  | n, d :: ds => bd n d && bds n ds
end
theorem ab_small {x : Str} (h : isNameB x = true) : (decide (x.length ≤ 40) && x.cps.toList.all fun c => decide (c < 16 ^ 8)) = true := by
  have := name_small h
  simp only [small] at this
  exact this
mutual
theorem bd_small : ∀ (n : Nat) (d : PyData), bd n d = true → small n d = true
  | n, .int i, h => by
    simp only [bd] at h
    cases h
  | n, .str x, h => by
    simp only [bd] at h
    simp only [small]
    exact ab_small h
  | 0, .tuple _, h => by
    simp only [bd] at h
    cases h
  | n + 1, .tuple xs, h => by
    simp only [bd, Bool.and_eq_true, decide_eq_true_eq] at h
    simp only [small, Bool.and_eq_true, decide_eq_true_eq]
    exact ⟨by omega, bds_small n xs h.2⟩
  | n, .none, h => by simp only [small]
  | n, .bool _, h => by simp only [small]
  | n, .list _, h => by
    simp only [bd] at h
    cases h
  | n, .dict _, h => by
    simp only [bd] at h
    cases h
theorem bds_small : ∀ (n : Nat) (ds : List PyData), bds n ds = true → smalls n ds = true
  | n, [], _ => by simp only [smalls]
  | n, d :: ds, h => by
    simp only [bds, Bool.and_eq_true] at h
    simp only [smalls, bd_small n d h.1, bds_small n ds h.2, Bool.and_self]
end
mutual
theorem bd_lay : ∀ (n : Nat) (d : PyData), bd n d = true → d.canLay0 = true
  | n, .int i, h => by simp only [PyData.canLay0]
  | n, .str x, h => by
    simp only [bd] at h
    simp only [PyData.canLay0]
    have := name_strOk (name_asc h)
    simp only [PyData.canLay0] at this
    exact this
  | 0, .tuple _, h => by
    simp only [bd] at h
    cases h
  | n + 1, .tuple xs, h => by
    simp only [bd, Bool.and_eq_true, decide_eq_true_eq] at h
    simp only [PyData.canLay0]
    exact bds_lay n xs h.2
  | n, .none, h => by simp only [PyData.canLay0]
  | n, .bool _, h => by simp only [PyData.canLay0]
  | n, .list _, h => by
    simp only [bd] at h
    cases h
  | n, .dict _, h => by
    simp only [bd] at h
    cases h
theorem bds_lay : ∀ (n : Nat) (ds : List PyData), bds n ds = true → PyData.canLayAll0 ds = true
  | n, [], _ => by simp only [PyData.canLayAll0]
  | n, d :: ds, h => by
    simp only [bds, Bool.and_eq_true] at h
    simp only [PyData.canLayAll0, bd_lay n d h.1, bds_lay n ds h.2, Bool.and_self]
end
theorem bd_shaped {n : Nat} {d : PyData} (h : bd n d = true) (hn : n ≤ 40) : SeqAt.shaped d = true := by
  have h1 := bd_lay n d h
  have h2 := small_depth n d (bd_small n d h)
  unfold SeqAt.shaped
  rw [h1, decide_eq_true (show d.depth ≤ 64 by omega)] <;> rfl
/-! ### items of the lists out of which a bent value is taken -/
def tM (K : PySem.W.Frag) (l p : Addr) (k : Nat) (S : L2.St → Hp → Prop) : TE := fun σ H Q => S σ H ∧ ∀ x H', Same H H' → Gd K k (mq l p H') x → Q x H'
def tMs (K : PySem.W.Frag) (l p : Addr) (k m : Nat) (S : L2.St → Hp → Prop) : TA := fun σ H Q => S σ H ∧ ∀ xs H', Same H H' → xs.length = m → (∀ x ∈ xs, Gd K k (mq l p H') x) → Q xs H'
def Stays (S : L2.St → Hp → Prop) : Prop := ∀ σ H H', Same H H' → S σ H → S σ H'
section
variable {X : Cx} {e : Expr} {es : List Expr} {l p : Addr} {n k m : Nat} {pos : Pos} {S : L2.St → Hp → Prop}
theorem pm_nil : PA X [] (tMs X.K l p k 0 S) := pa_imp pa_nil fun _ H Q h => h.2 _ _ (Same.refl H) rfl (fun _ m => nomatch m)
theorem pm_cons (hS : Stays S) (h : PE X e (tM X.K l p k S)) (r : PA X es (tMs X.K l p k m S)) (hs : starEach (e :: es) X.env = (false, eval e X.env) :: starEach es X.env := by rfl) : PA X (e :: es) (tMs X.K l p k (m + 1) S) :=
  pa_imp (pa_cons h r hs) fun _ H Q q => ⟨q.1, fun x H1 s1 g1 => ⟨hS _ _ _ s1 q.1, fun xs H2 s2 l2 g2 => q.2 _ _ (s1.trans s2) (by rw [List.length_cons, l2]) fun y hy => by
    rcases List.mem_cons.mp hy with rfl | hy
    · exact g1.same (mq_up s2)
    · exact g2 y hy⟩⟩
theorem pm_of (hS : ∀ σ H, S σ H → HL l H ∧ H p ≠ none) (h : PE X e (tGd X.K k)) : PE X e (tM X.K l p k S) := pe_imp h fun _ H Q q x H1 s1 g1 => q.2 _ _ s1 (g1.same (mn_mq (hS _ _ q.1).1 (hS _ _ q.1).2))
/-- a tuple stands in slot 1 -/
def ST (K : PySem.W.Frag) (l p : Addr) (n : Nat) (xs : List V) : L2.St → Hp → Prop := fun σ H => ∃ v, σ[1]? = some (some v) ∧ (HL l H ∧ H p ≠ none) ∧ TupM K p H v xs ∧ Gds K n (mq l p H) xs ∧ xs.length ≤ 24
theorem ST.stays {K : PySem.W.Frag} {xs : List V} : Stays (ST K l p n xs) := fun σ H H' s ⟨v, h1, h2, h3, h4, h5⟩ => ⟨v, h1, ⟨h2.1.same s, Same.there s h2.2⟩, h3.same (But.of s), h4.same (mq_up s), h5⟩
theorem tup_good {K : PySem.W.Frag} {H : Hp} {z : V} {zs : List V} (hl : HL l H) (t : TupM K p H z zs) (g : Gds K n (mq l p H) zs) (l_ : zs.length ≤ 25) : Gd K (n + 1) (mq l p H) z := by
  obtain ⟨a, rfl, h⟩ := t
  exact .tup g l_ (tq hl h)
theorem cut_last {xs : List V} : (cutV xs (some (-1)) none).length ≤ 1 := by
  unfold cutV
  rw [List.length_take, List.length_drop]
  show min (xs.length - (if (-1 : Int) < 0 then ((-1 : Int) + (xs.length : Int)).toNat else min (-1 : Int).toNat xs.length)) (xs.length - (if (-1 : Int) < 0 then ((-1 : Int) + (xs.length : Int)).toNat else min (-1 : Int).toNat xs.length)) ≤ 1
  rw [if_pos (by decide)]
  omega
theorem cut_upto {xs : List V} {j : Int} (h0 : 0 ≤ j) : (cutV xs none (some j)).length ≤ j.toNat := by
  unfold cutV
  rw [List.length_take, List.length_drop]
  show min ((if j < 0 then (j + (xs.length : Int)).toNat else min j.toNat xs.length) - 0) (xs.length - 0) ≤ j.toNat
  rw [if_neg (by omega)]
  omega
theorem cut_from {xs : List V} {j : Int} (h0 : 0 ≤ j) : (cutV xs (some j) none).length ≤ xs.length - j.toNat := by
  unfold cutV
  rw [List.length_take, List.length_drop]
  show min (xs.length - (if j < 0 then (j + (xs.length : Int)).toNat else min j.toNat xs.length)) (xs.length - (if j < 0 then (j + (xs.length : Int)).toNat else min j.toNat xs.length)) ≤ xs.length - j.toNat
  rw [if_neg (by omega)]
  omega
theorem cut_len {xs : List V} {lo hi : Option Int} (h : xs.length ≤ 24) : (cutV xs lo hi).length ≤ 24 := Nat.le_trans (cutV_length _ _ _) h
theorem m_list {xs : List V} {j p1} (hv : X.N[1]? = some ("_law_value" : Str)) (vis : Vis X.env.scope "_law_value") (hg : Gl X "list") (hm : X.mg "list" = none) :
    PE X (.Call (.Name "list" p1) [.Name "_law_value" j] [] pos) (tM X.K l p (n + 1) (ST X.K l p n xs)) :=
  pe_imp (pe_callTy call_list_of hg hm (by decide +kernel) (pa_cons (pe_var hv vis) pa_nil)) fun _ H Q q => by
    obtain ⟨⟨v, h1, h2, ⟨a, rfl, h3⟩, h4, h5⟩, q⟩ := q
    exact ⟨_, h1, a, xs, rfl, .inr (same_tup (mk_self p H) h3), fun l' nl => q _ _ (same_new nl _) (.lst (h4.same (mq_up (same_new nl _))) (by omega) (SqL.of (mq_new h2.1 h2.2 nl)))⟩
theorem m_from {xs : List V} {j c p1 p2} (hv : X.N[1]? = some ("_law_value" : Str)) (vis : Vis X.env.scope "_law_value") :
    PE X (.Subscript (.Name "_law_value" j) (.Slice (some (.Constant (.int 1) c p1)) none none p2) pos) (tM X.K l p (n + 1) (ST X.K l p n xs)) :=
  pe_imp (pe_slice sl_tupM (pe_var hv vis) (po_some pe_int) po_none) fun _ H Q q => by
    obtain ⟨⟨v, h1, h2, h3, h4, h5⟩, q⟩ := q
    exact ⟨_, h1, 1, rfl, p, xs, h2.2, h3, fun z H' s t => q _ _ s (tup_good (h2.1.same s) t ((h4.same (mq_up s)).cut _ _) (Nat.le_trans (cut_len h5) (by decide)))⟩
theorem m_upto {xs : List V} {j c p1 p2 p3} (hv : X.N[1]? = some ("_law_value" : Str)) (vis : Vis X.env.scope "_law_value") :
    PE X (.Subscript (.Name "_law_value" j) (.Slice none (some (.UnaryOp .USub (.Constant (.int 1) c p1) p3)) none p2) pos) (tM X.K l p (n + 1) (ST X.K l p n xs)) :=
  pe_imp (pe_slice sl_tupM (pe_var hv vis) po_none (po_some (pe_un un_neg pe_int))) fun _ H Q q => by
    obtain ⟨⟨v, h1, h2, h3, h4, h5⟩, q⟩ := q
    exact ⟨_, h1, 1, rfl, -1, rfl, p, xs, h2.2, h3, fun z H' s t => q _ _ s (tup_good (h2.1.same s) t ((h4.same (mq_up s)).cut _ _) (Nat.le_trans (cut_len h5) (by decide)))⟩
theorem m_last {xs : List V} {j j2 c p1 p2 p3 p4} (hv : X.N[1]? = some ("_law_value" : Str)) (vis : Vis X.env.scope "_law_value") :
    PE X (.BinOp (.Name "_law_value" j) .Add (.Subscript (.Name "_law_value" j2) (.Slice (some (.UnaryOp .USub (.Constant (.int 1) c p1) p3)) none none p2) p4) pos) (tM X.K l p (n + 1) (ST X.K l p n xs)) :=
  pe_imp (pe_op op_catM (pe_var hv vis) (pe_slice sl_tupM (pe_var hv vis) (po_some (pe_un un_neg pe_int)) po_none)) fun _ H Q q => by
    obtain ⟨⟨v, h1, h2, h3, h4, h5⟩, q⟩ := q
    refine ⟨_, h1, _, h1, 1, rfl, -1, rfl, p, xs, h2.2, h3, fun z H' s t => ⟨p, xs, _, Same.there s h2.2, h3.same (But.of s), t, ?_, fun z2 H2 s2 t2 => q _ _ (s.trans s2) (tup_good (h2.1.same (s.trans s2)) t2 ?_ ?_)⟩⟩
    · have := cut_last (xs := xs)
      omega
    · exact (h4.same (mq_up (s.trans s2))).app ((h4.same (mq_up (s.trans s2))).cut _ _)
    · have := cut_last (xs := xs)
      rw [List.length_append]
      omega
theorem m_back {xs : List V} {j c p1 p2 p3} (hv : X.N[1]? = some ("_law_value" : Str)) (vis : Vis X.env.scope "_law_value") :
    PE X (.Subscript (.Name "_law_value" j) (.Slice none none (some (.UnaryOp .USub (.Constant (.int 1) c p1) p3)) p2) pos) (tM X.K l p (n + 1) (ST X.K l p n xs)) :=
  pe_imp (pe_back (pe_var hv vis) (pe_un un_neg pe_int)) fun _ H Q q => by
    obtain ⟨⟨v, h1, h2, ⟨a, rfl, h3⟩, h4, h5⟩, q⟩ := q
    exact ⟨_, h1, 1, rfl, a, xs, rfl, rfl, same_tup (mk_self p H) h3, fun l' nl => q _ _ (same_new nl _) (.tup ((h4.same (mq_up (same_new nl _))).back) (by rw [List.length_reverse]; omega) (.inl (.inl (mq_new h2.1 h2.2 nl))))⟩
theorem m_zero {xs : List V} {j c p1 p2 x1} (hv : X.N[1]? = some ("_law_value" : Str)) (vis : Vis X.env.scope "_law_value") (hs : starEach [.Constant (.int 0) c p1] X.env = (false, eval (.Constant (.int 0) c p1) X.env) :: starEach [] X.env := by rfl) :
    PE X (.BinOp (.Name "_law_value" j) .Add (.Tuple [.Constant (.int 0) c p1] x1 p2) pos) (tM X.K l p (n + 1) (ST X.K l p n xs)) :=
  pe_imp (pe_op op_catM (pe_var hv vis) (pe_tup (pa_cons pe_int pa_nil hs))) fun _ H Q q => by
    obtain ⟨⟨v, h1, h2, h3, h4, h5⟩, q⟩ := q
    refine ⟨_, h1, (by show 1 ≤ sizeLine; decide), fun t nt => ⟨p, xs, [.int 0], Same.there (same_new nt _) h2.2, h3.same (But.of (same_new nt _)), ⟨t, rfl, .inl (.inl (mk_new h2.2 nt))⟩, by rw [List.length_singleton]; omega, fun z2 H2 s2 t2 => q _ _ ((same_new nt _).trans s2) (tup_good (h2.1.same ((same_new nt _).trans s2)) t2 ?_ ?_)⟩⟩
    · exact (h4.same (mq_up ((same_new nt _).trans s2))).app (.cons ⟨.int 0, .int 0, by simp only [small]; decide⟩ .nil)
    · rw [List.length_append, List.length_singleton]
      omega
/-- an int stands in slot 1 -/
def SI (l p : Addr) (i : Int) : L2.St → Hp → Prop := fun σ H => σ[1]? = some (some (.int i)) ∧ (HL l H ∧ H p ≠ none) ∧ i.natAbs < 10 ^ 9
theorem SI.stays {i : Int} : Stays (SI l p i) := fun σ H H' s ⟨h1, h2, h3⟩ => ⟨h1, ⟨h2.1.same s, Same.there s h2.2⟩, h3⟩
theorem gd_of_int {K : PySem.W.Frag} {H : Hp} {i : Int} (h : i.natAbs < 10 ^ 12) : Gd K n H (.int i) := ⟨.int i, .int i, by simp only [small, decide_eq_true h]⟩
theorem m_inc {i : Int} {j c p1} (hv : X.N[1]? = some ("_law_value" : Str)) (vis : Vis X.env.scope "_law_value") : PE X (.BinOp (.Name "_law_value" j) .Add (.Constant (.int 1) c p1) pos) (tM X.K l p k (SI l p i)) :=
  pe_imp (pe_op op_add (pe_var hv vis) pe_int) fun _ H Q q => ⟨_, q.1.1, _, _, rfl, rfl, q.2 _ _ (Same.refl H) (gd_of_int (by have := q.1.2.2; omega))⟩
theorem m_dec {i : Int} {j c p1} (hv : X.N[1]? = some ("_law_value" : Str)) (vis : Vis X.env.scope "_law_value") : PE X (.BinOp (.Name "_law_value" j) .Sub (.Constant (.int 1) c p1) pos) (tM X.K l p k (SI l p i)) :=
  pe_imp (pe_op op_sub (pe_var hv vis) pe_int) fun _ H Q q => ⟨_, q.1.1, _, _, rfl, rfl, q.2 _ _ (Same.refl H) (gd_of_int (by have := q.1.2.2; omega))⟩
theorem m_one {i : Int} {j c p1} (hv : X.N[1]? = some ("_law_value" : Str)) (vis : Vis X.env.scope "_law_value") : PE X (.Compare (.Name "_law_value" j) [.Eq] [.Constant (.int 1) c p1] pos) (tM X.K l p k (SI l p i)) :=
  pe_imp (pe_cmpR op_eq (pe_var hv vis) pe_int (nomark _)) fun _ H Q q => ⟨_, q.1.1, rfl, q.2 _ _ (Same.refl H) ⟨.bool _, .bl _, by simp only [small]⟩⟩
theorem m_itup {i : Int} {j x1} (hv : X.N[1]? = some ("_law_value" : Str)) (vis : Vis X.env.scope "_law_value") (hs : starEach [.Name "_law_value" j] X.env = (false, eval (.Name "_law_value" j) X.env) :: starEach [] X.env := by rfl) : PE X (.Tuple [.Name "_law_value" j] x1 pos) (tM X.K l p (k + 1) (SI l p i)) :=
  pe_imp (pe_tup (pa_cons (pe_var hv vis) pa_nil hs)) fun _ H Q q => ⟨_, q.1.1, (by show 1 ≤ sizeLine; decide), fun t nt => q.2 _ _ (same_new nt _) (.tup (.cons (gd_of_int (by have := q.1.2.2; omega)) .nil) (by show 1 ≤ 25; decide) (.inl (.inl (mq_new q.1.2.1.1 q.1.2.1.2 nt))))⟩
/-- a text stands in slot 1 -/
def SS (l p : Addr) (x : Str) : L2.St → Hp → Prop := fun σ H => σ[1]? = some (some (.str x)) ∧ (HL l H ∧ H p ≠ none) ∧ isNameB x = true
theorem SS.stays {x : Str} : Stays (SS l p x) := fun σ H H' s ⟨h1, h2, h3⟩ => ⟨h1, ⟨h2.1.same s, Same.there s h2.2⟩, h3⟩
theorem gd_of_str {K : PySem.W.Frag} {H : Hp} {x : Str} (h : (decide (x.length ≤ 40) && x.cps.toList.all fun c => decide (c < 16 ^ 8)) = true) : Gd K n H (.str x) := ⟨.str x, .str x, by simp only [small, h]⟩
theorem m_x {x : Str} {j c p1} (hv : X.N[1]? = some ("_law_value" : Str)) (vis : Vis X.env.scope "_law_value") : PE X (.BinOp (.Name "_law_value" j) .Add (.Constant (.str "x") c p1) pos) (tM X.K l p k (SS l p x)) :=
  pe_imp (pe_op op_add_str (pe_var hv vis) pe_str) fun _ H Q q => by
    obtain ⟨⟨h1, h2, h3⟩, q⟩ := q
    have hl := name_len h3
    refine ⟨_, h1, _, _, rfl, rfl, ?_, q _ _ (Same.refl H) (gd_of_str ?_)⟩
    · have : ("x" : Str).length = 1 := by decide +kernel
      rw [this, sizeLine_eq]
      omega
    · have := name_x_small h3
      simp only [small] at this
      exact this
theorem cut_small {x : Str} {lo hi : Option Int} (h : isNameB x = true) : (decide ((cutS x lo hi).length ≤ 40) && (cutS x lo hi).cps.toList.all fun c => decide (c < 16 ^ 8)) = true := by
  have h0 := name_small h
  simp only [small, Bool.and_eq_true, decide_eq_true_eq] at h0 ⊢
  refine ⟨Nat.le_trans (cutS_length x lo hi) h0.1, List.all_eq_true.mpr fun d hd => List.all_eq_true.mp h0.2 d ?_⟩
  have hd' : d ∈ (((x.cps.toList.drop (HT.sIx x.length 0 lo)).take (HT.sIx x.length x.length hi - HT.sIx x.length 0 lo)).toArray).toList := hd
  exact List.mem_of_mem_drop (List.mem_of_mem_take hd')
theorem m_supto {x : Str} {j c p1 p2 p3} (hv : X.N[1]? = some ("_law_value" : Str)) (vis : Vis X.env.scope "_law_value") :
    PE X (.Subscript (.Name "_law_value" j) (.Slice none (some (.UnaryOp .USub (.Constant (.int 1) c p1) p3)) none p2) pos) (tM X.K l p k (SS l p x)) :=
  pe_imp (pe_slice sl_str (pe_var hv vis) po_none (po_some (pe_un un_neg pe_int))) fun _ H Q q => by
    obtain ⟨⟨h1, h2, h3⟩, q⟩ := q
    have hl := name_len h3
    refine ⟨_, h1, 1, rfl, -1, rfl, _, rfl, ?_, q _ _ (Same.refl H) (gd_of_str (cut_small h3))⟩
    rw [sizeLine_eq]
    omega
theorem m_up {x : Str} {j apos} (hv : X.N[1]? = some ("_law_value" : Str)) (vis : Vis X.env.scope "_law_value") (hbase : attributeBase (.Name "_law_value" j) "upper" X.env (eval (.Name "_law_value" j) X.env) = eval (.Name "_law_value" j) X.env := by rfl) (hline : (apos.endLine == pos.line) = true := by rfl) :
    PE X (.Call (.Attribute (.Name "_law_value" j) "upper" apos) [] [] pos) (tM X.K l p k (SS l p x)) :=
  pe_imp (pe_upper (pe_var hv vis) hbase hline) fun _ H Q q => by
    obtain ⟨⟨h1, h2, h3⟩, q⟩ := q
    have hl := name_len h3
    refine ⟨_, h1, ⟨_, rfl⟩, _, rfl, rfl, ?_, q _ _ (Same.refl H) (gd_of_str ?_)⟩
    · omega
    · have := upper_small h3
      simp only [small] at this
      exact this
theorem m_slst {x : Str} {j} (hv : X.N[1]? = some ("_law_value" : Str)) (vis : Vis X.env.scope "_law_value") (hs : starEach [.Name "_law_value" j] X.env = (false, eval (.Name "_law_value" j) X.env) :: starEach [] X.env := by rfl) : PE X (.List [.Name "_law_value" j] pos) (tM X.K l p (k + 1) (SS l p x)) :=
  pe_imp (pe_lst (pa_cons (pe_var hv vis) pa_nil hs)) fun _ H Q q => ⟨_, q.1.1, (by show 1 ≤ sizeLine; decide), fun t nt => q.2 _ _ (same_new nt _) (.lst (.cons (gd_of_str (ab_small q.1.2.2)) .nil) (by show 1 ≤ 25; decide) (SqL.of (mq_new q.1.2.1.1 q.1.2.1.2 nt)))⟩
end
/-! ### a bent value -/
def spBent (K : PySem.W.Frag) (m : Nat) : Sp := fun vs H Q _ => ∃ (p l : Addr) (v : V) (b n : Nat) (d : PyData), vs = [.ref p, v] ∧ HL l H ∧ l ≠ p ∧ m = n + 1 ∧ n ≤ 30 ∧ PotAt H p b ∧ b + 3 * m ≤ 100000 ∧ Dp K (mq l p H) v d ∧ bd n d = true ∧
  ∀ (x : V) (H' : Hp), But p H H' → PotAt H' p (b + 3 * m) → Gd K (n + 1) (mq l p H') x → Q x H'
section
variable {P : Program} {w : World} {K : PySem.W.Frag} {mg : Str → Option Value} {base : Heap}
theorem no_bent {f : Addr} {fd : FuncData} {k : Nat} : FnOk P w K mg base CX0 k f fd ["_law_pot_here", "_law_value"] (spBent K 0) := by
  have no : ∀ vs H Q E, ¬ spBent K 0 vs H Q E := fun vs H Q E h => by
    obtain ⟨p, l, v, b, n, d, _, _, _, e, _⟩ := h
    exact nomatch e
  exact ⟨fun vs H Q E h => absurd h (no vs H Q E), fun A outer s H args us vs Q E _ _ _ _ h => absurd h (no vs H Q E)⟩
theorem scBent : FnScope ["_law_pot_here", "_law_value", "_law_at"] ["_law_pot_here", "_law_value"] (defScope sBent) := ⟨rfl, rfl, rfl, by decide +kernel, rfl, by decide +kernel, by decide +kernel⟩
/-- what the callees are worth -/
structure Bent (P : Program) (w : World) (K : PySem.W.Frag) (mg : Str → Option Value) (base : Heap) : Prop where
  take : ∃ g gd, FnOk P w K mg base CX0 1 g gd ["_law_pot_here", "_law_upto"] spTake ∧ mg "_law_take" = some (.ref g) ∧ PySem.W.keepIn K (.ref g) = true ∧ Binds K gd ["_law_pot_here", "_law_upto"] []
  one : ∃ g gd, FnOk P w K mg base CX0 2 g gd ["_law_pot_here", "_law_some_here"] (spOf K) ∧ mg "_law_of" = some (.ref g) ∧ PySem.W.keepIn K (.ref g) = true ∧ Binds K gd ["_law_pot_here", "_law_some_here"] []
section
variable {X : Cx} {p1 p2 p3 pos : Pos}
theorem pt_is {T : String} {x : Str} (hx : x = Str.ofString T) (hv : X.N[1]? = some ("_law_value" : Str)) (vis : Vis X.env.scope "_law_value") (hI : Gl X "isinstance") (mI : X.mg "isinstance" = none) (hT : Gl X x) (mT : X.mg x = none) (bT : bootBuiltins x = some (.type T)) (hn : x ≠ "__name__") (hd : (x == ("__debug__" : Str)) = false)
    (hs : starEach [.Name "_law_value" p2, .Name x p3] X.env = (false, eval (.Name "_law_value" p2) X.env) :: starEach [.Name x p3] X.env := by rfl) (hs2 : starEach [.Name x p3] X.env = (false, eval (.Name x p3) X.env) :: starEach [] X.env := by rfl)
    (hpl : (backTo pos (starEach [.Name x p3] X.env)).any (·.1) = false := by rfl) :
    PT X (.Call (.Name "isinstance" p1) [.Name "_law_value" p2, .Name x p3] [] pos) (fun σ H Q => ∃ v t b, σ[1]? = some (some v) ∧ TyX X.K H v (.type t) ∧ kitB t T = some b ∧ Q b H) := by
  have h := pt_val (pe_callB (p := p1) (pos := pos) call_isi hI mI (by decide +kernel) (pa_cons (pe_var (pos := p2) hv vis) (pa_cons (pe_bltn (pos := p3) (v := .ty T) (u := .type T) hT mT bT rfl hn hd) pa_nil hs2) hs) (by decide) (by decide) hs hpl)
  refine ⟨fun pins s σ H Q I q => h.run pins s σ H Q I ?_⟩
  obtain ⟨v, t, b, e, ty, k, q⟩ := q
  exact ⟨v, e, v, _, _, _, _, rfl, .ty _, ty, kit_ty k, _, rfl, q⟩
end
theorem nextIf {c : Bool} {A B C : Prop} (hc : ¬ c = true) (h : C) : (if c = true then A else C) := by
  rw [if_neg hc]
  exact h
theorem ty_tup {H : Hp} {a : Addr} {xs : List V} (h : SqT K H a xs) : TyX K H (.ref a) (.type "tuple") := by
  rcases h with (h | ⟨o, h⟩) | ⟨o, its, n, h, c, _⟩
  · exact .base (.tup h)
  · exact .fTuple h
  · exact .kTuple h c
theorem pick {H : Hp} {n : Nat} : ∀ {ds : List PyData} {xs : List V}, DpAll K H xs ds → bds n ds = true → ∀ x ∈ xs, ∃ d, Dp K H x d ∧ bd n d = true
  | [], _, h, _, x, hx => by
    cases h
    cases hx
  | d :: ds, _, h, e, x, hx => by
    cases h with
    | cons h1 h2 =>
      simp only [bds, Bool.and_eq_true] at e
      rcases List.mem_cons.mp hx with rfl | hx
      · exact ⟨d, h1, e.1⟩
      · exact pick h2 e.2 x hx
theorem bent_pot {p : Addr} {H : Hp} {b n : Nat} (h : PotAt H p b) (hn : n + 1 ≤ 100001) : PotAt H p (b + 3 * (n + 1)) := h.mono (by omega)
theorem ok_bent {f : Addr} {fd : FuncData} {m : Nat} (F : Fun K "_law_bent" "_law_bent" sBent f fd) (T : Bltn mg) (B : Bent P w K mg base) (G : FnOk P w K mg base CX0 (m + 4) f fd ["_law_pot_here", "_law_value"] (spBent K m))
    (mG : mg "_law_bent" = some (.ref f)) (bG : Binds K fd ["_law_pot_here", "_law_value"] []) : FnOk P w K mg base CX0 (m + 5) f fd ["_law_pot_here", "_law_value"] (spBent K (m + 1)) := by
  obtain ⟨gt, gtd, GT, mT, kT, bT⟩ := B.take
  obtain ⟨go, god, GO, mO, kO, bO⟩ := B.one
  refine F.ok scBent (fun vs H Q E h => ?_) (fun cdv A outer s H vs Q E hr h => ?_)
  · obtain ⟨p, l, v, b, n, d, rfl, _⟩ := h
    rfl
  obtain ⟨p, l, v, b, n, d, rfl, hl, nlp, em, hn, hp, hb, hd, hbd, q⟩ := h
  have e1 : n = m := by omega
  subst e1
  have r1 : Room 1 _ := hr.mono (by omega)
  have r2 : Room 2 _ := hr.mono (by omega)
  have hpt := hp.there
  have hdH : Dp K H v d := Dp_same (mq_self l p H) d v hd
  obtain ⟨T0, ty, eT⟩ := ty_of hdH
  cases d with
  | none =>
    simp only [bd] at hbd
    cases hbd
  | bool _ =>
    simp only [bd] at hbd
    cases hbd
  | list _ =>
    simp only [bd] at hbd
    cases hbd
  | dict _ =>
    simp only [bd] at hbd
    cases hbd
  | int i =>
    simp only [bd] at hbd
    cases hbd
  | str x =>
    cases hd
    have eT : T0 = "str" := eT
    subst eT
    simp only [bd] at hbd
    refine ⟨_, pss_cons (ps_if (PW.pt (pw_and (pt_is (T := "tuple") rfl rfl (Or.inl rfl) rfl T.isinstance rfl T.tuple (by decide +kernel) (by decide) (by decide)) (pw_and (pt_cmpR (op_neD hr.units) (pv 1) (pe_tup pa_nil) (nomark _)) (pw_and1 (pt_cmpR op_gt (pe_call GT r1 rfl mT kT bT .nil pass0 (pa_cons (pv 0) (pa_cons pe_int pa_nil))) pe_int (nomark _)))))) pss_never pss_nil)
      (pss_cons (ps_if (pt_is (T := "tuple") rfl rfl (Or.inl rfl) rfl T.isinstance rfl T.tuple (by decide +kernel) (by decide) (by decide)) pss_never pss_nil)
      (pss_cons (ps_if (pt_is (T := "bool") rfl rfl (Or.inl rfl) rfl T.isinstance rfl T.bool (by decide +kernel) (by decide) (by decide)) pss_never pss_nil)
      (pss_cons (ps_if (pt_is (T := "int") rfl rfl (Or.inl rfl) rfl T.isinstance rfl T.int (by decide +kernel) (by decide) (by decide)) pss_never pss_nil)
      (pss_cons (ps_if (pt_is (T := "str") rfl rfl (Or.inl rfl) rfl T.isinstance rfl T.str (by decide +kernel) (by decide) (by decide)) (pss_one (ps_ret (pe_call GO r2 rfl mO kO bO .nil pass0 (pa_cons (pv 0) (pa_cons (pe_lst
          (pm_cons (p := p) (k := n + 1) (S := SS l p x) SS.stays (m_x rfl (Or.inl rfl)) (pm_cons SS.stays (m_supto rfl (Or.inl rfl)) (pm_cons SS.stays (m_up rfl (Or.inl rfl)) (pm_cons SS.stays (pm_of (fun _ _ h => h.2.1) gd_str) (pm_cons SS.stays (pm_of (fun _ _ h => h.2.1) gd_str) (pm_cons SS.stays (pm_of (fun _ _ h => h.2.1) gd_str)
          (pm_cons SS.stays (m_slst rfl (Or.inl rfl)) (pm_cons SS.stays (pm_of (fun _ _ h => h.2.1) gd_none) (pm_cons SS.stays (pm_of (fun _ _ h => h.2.1) gd_int) pm_nil)))))))))) pa_nil))))) pss_nil)
      pss_never)))), ?_⟩
    refine ⟨_, _, false, rfl, ty, by decide +kernel, iteF (iteF ?_)⟩
    refine ⟨_, _, false, rfl, ty, by decide +kernel, iteF ?_⟩
    refine ⟨_, _, false, rfl, ty, by decide +kernel, iteF ?_⟩
    refine ⟨_, _, false, rfl, ty, by decide +kernel, iteF ?_⟩
    refine ⟨_, _, true, rfl, ty, by decide +kernel, iteT ?_⟩
    refine ⟨_, rfl, ⟨rfl, ⟨hl, hpt⟩, hbd⟩, fun xs H1 s1 l1 g1 => ⟨by rw [l1]; decide, fun l' nl => ?_⟩⟩
    have s2 := same_new nl (.lst xs)
    refine ⟨p, l', xs, b, rfl, hp.same (s1.trans s2), by omega, SqL.of upd_same, by rw [l1]; decide, by rw [l1]; decide, new_ne (hp.same s1).there nl, fun x H' hx but pot => ?_⟩
    exact q x H' ((But.of (s1.trans s2)).trans but) (pot.mono (by omega)) ((g1 x hx).same ((mq_up s2).trans (mq_but but)))
  | tuple ds =>
    cases n with
    | zero =>
      simp only [bd] at hbd
      cases hbd
    | succ n =>
      cases hd with
      | @tup a xs _ hx hds =>
      have eT : T0 = "tuple" := eT
      subst eT
      have hbd0 := hbd
      simp only [bd, Bool.and_eq_true, decide_eq_true_eq] at hbd
      have hlen := DpAll_length ds xs hds
      have hx4 : xs.length ≤ 24 := by omega
      have gxs : Gds K n (mq l p H) xs := ⟨ds, hds, bds_small n ds hbd.2⟩
      refine ⟨_, pss_cons (ps_if (PW.pt (pw_and (pt_is (T := "tuple") rfl rfl (Or.inl rfl) rfl T.isinstance rfl T.tuple (by decide +kernel) (by decide) (by decide)) (pw_and (pt_cmpR (op_neD hr.units) (pv 1) (pe_tup pa_nil) (nomark _)) (pw_and1 (pt_cmpR op_gt (pe_call GT r1 rfl mT kT bT .nil pass0 (pa_cons (pv 0) (pa_cons pe_int pa_nil))) pe_int (nomark _))))))
          (pss_cons (ps_set (i := 2) scBent.nd rfl (Or.inl rfl) (pe_call GT r1 rfl mT kT bT .nil pass0 (pa_cons (pv 0) (pa_cons (pe_callB call_len_seq rfl T.len PySem.boot_len (pa_cons (pv 1) pa_nil)) pa_nil))))
          (pss_one (ps_ret (pe_op op_catM (pe_op op_catM (pe_slice sl_tupM (pv 1) po_none (po_some (pv 2))) (pe_tup (pa_cons (pe_call G hr rfl mG F.kp bG .nil pass0 (pa_cons (pv 0) (pa_cons (pe_ix ix_tup (pv 1) (pv 2) (fun _ _ => rfl)) pa_nil))) pa_nil)))
            (pe_slice sl_tupM (pv 1) (po_some (pe_op op_add (pv 2) pe_int)) po_none))))) pss_nil)
        (pss_cons (ps_if (pt_is (T := "tuple") rfl rfl (Or.inl rfl) rfl T.isinstance rfl T.tuple (by decide +kernel) (by decide) (by decide))
          (pss_one (ps_ret (pe_call GO r2 rfl mO kO bO .nil pass0 (pa_cons (pv 0) (pa_cons (pe_lst
            (pm_cons (p := p) (k := n + 1) (S := ST K l p n xs) ST.stays (m_list rfl (Or.inl rfl) rfl T.list) (pm_cons ST.stays (m_from rfl (Or.inl rfl)) (pm_cons ST.stays (m_upto rfl (Or.inl rfl)) (pm_cons ST.stays (m_last rfl (Or.inl rfl)) (pm_cons ST.stays (m_back rfl (Or.inl rfl))
            (pm_cons ST.stays (pm_of (fun _ _ h => by obtain ⟨_, _, h, _⟩ := h; exact h) (gd_tup gd_nil)) (pm_cons ST.stays (pm_of (fun _ _ h => by obtain ⟨_, _, h, _⟩ := h; exact h) gd_none) pm_nil)))))))) pa_nil))))) pss_nil)
        pss_never), ?_⟩
      refine ⟨_, _, true, rfl, ty, by decide +kernel, iteT ?_⟩
      refine ⟨_, rfl, (by show 0 ≤ sizeLine; decide), fun t nt => ?_⟩
      have st := same_new nt (.tup [])
      have butT : But p H (upd H t (.tup [])) := But.of st
      have potT : PotAt (upd H t (.tup [])) p b := hp.same st
      have hxT : SqT K (mq l p (upd H t (.tup []))) a xs := same_tup (mq_but butT) hx
      refine ⟨.tuple ds, .tuple [], Dp_same (mq_self l p _) _ _ (.tup hxT (DpAll_same (mq_but butT) _ _ hds)), .tup (.inl (.inl upd_same)) .nil, bd_shaped hbd0 (by omega), rfl, _, rfl, ?_⟩
      cases ds with
      | nil =>
        refine iteF (iteF ?_)
        refine ⟨_, _, true, rfl, ty_tup (same_tup (mq_self l p (upd H t (.tup []))) (same_tup (mq_but butT) hx)), by decide +kernel, iteT ?_⟩
        refine ⟨_, rfl, ⟨_, rfl, ⟨hl.same st, potT.there⟩, TupM.same butT ⟨a, rfl, same_tup (mq_mk l p H) hx⟩, gxs.same (mq_but butT), hx4⟩, fun ys G2 s2 l2 g2 => ⟨by rw [l2]; decide, fun l' nl => ?_⟩⟩
        have s3 := same_new nl (.lst ys)
        refine ⟨p, l', ys, b, rfl, potT.same (s2.trans s3), by omega, SqL.of upd_same, by rw [l2]; decide, by rw [l2]; decide, new_ne (potT.same s2).there nl, fun x H' hx' but pot => ?_⟩
        exact q x H' ((butT.trans (But.of (s2.trans s3))).trans but) (pot.mono (by omega)) (((g2 x hx').same ((mq_up s3).trans (mq_but but))).le (by omega))
      | cons d0 ds =>
        refine iteT ?_
        have x0 : 1 ≤ xs.length := by
          rw [← hlen, List.length_cons]
          omega
        refine ⟨_, rfl, p, 6, b, rfl, potT, by omega, by decide, by decide, fun k H2 k0 k1 but2 pot2 => ⟨_, _, rfl, rfl, _, rfl, ?_⟩⟩
        have but12 := butT.trans but2
        refine ite2 (fun c => ?_) (fun c => ?_)
        · have hx2 : SqT K (mq l p H2) a xs := same_tup (mq_but but12) hx
          refine ⟨_, rfl, _, rfl, a, xs, rfl, .inr (same_tup (mq_self l p H2) hx2), p, _, b + 1, rfl, pot2, by omega, by omega, by omega, fun j H3 j0 j1 but3 pot3 => ?_⟩
          have but13 := but12.trans but3
          have hx3 : SqT K (mq l p H3) a xs := same_tup (mq_but but13) hx
          refine ⟨_, rfl, _, rfl, _, rfl, p, xs, pot3.there, ⟨a, rfl, same_tup (mq_mk l p _) hx3⟩, fun z1 H4 s4 t4 => ?_⟩
          have but14 := but13.trans (But.of s4)
          have pot4 := pot3.same s4
          have hx4' : SqT K (mq l p H4) a xs := same_tup (mq_but but14) hx
          have jl : j.toNat < xs.length := by omega
          have at_ : atI xs j = some xs[j.toNat] := at_of (j := j.toNat) (by omega) (List.getElem?_eq_getElem jl)
          obtain ⟨dj, hdj, bdj⟩ := pick (DpAll_same (mq_but but14) _ _ hds) hbd.2 _ (List.getElem_mem jl)
          refine ⟨_, rfl, _, rfl, _, rfl, a, xs, j, _, rfl, rfl, same_tup (mq_self l p H4) hx4', at_, p, l, _, b + 2, n, dj, rfl, hl.but but14 nlp, nlp, rfl, by omega, pot4, by omega, hdj, bdj, fun y H5 but5 pot5 gy => ⟨(by show 1 ≤ sizeLine; decide), fun t5 nt5 => ?_⟩⟩
          have s5 := same_new nt5 (.tup [y])
          have but15 := (but14.trans but5).trans (But.of s5)
          have pot6 := pot5.same s5
          have len1 := cut_upto (xs := xs) j0
          have len2 := cut_from (xs := xs) (show (0 : Int) ≤ j + 1 by omega)
          refine ⟨p, _, [y], pot6.there, (t4.same but5).same (But.of s5), ⟨t5, rfl, .inl (.inl (mk_new pot5.there nt5))⟩, by rw [List.length_singleton]; omega, fun z2 H7 s7 t7 => ?_⟩
          have but17 := but15.trans (But.of s7)
          refine ⟨_, rfl, _, rfl, _, _, rfl, rfl, _, rfl, p, xs, (pot6.same s7).there, ⟨a, rfl, same_tup (mq_mk l p _) (same_tup (mq_but but17) hx)⟩, fun z3 H8 s8 t8 => ?_⟩
          have but18 := but17.trans (But.of s8)
          refine ⟨p, _, _, ((pot6.same s7).same s8).there, t7.same (But.of s8), t8, by rw [List.length_append, List.length_singleton]; omega, fun z4 H9 s9 t9 => ?_⟩
          have but19 := but18.trans (But.of s9)
          have s59 : Same H5 H9 := (s5.trans s7).trans (s8.trans s9)
          have gx9 : Gds K (n + 1) (mq l p H9) xs := (gxs.same (mq_but but19)).le (by omega)
          refine q z4 H9 but19 ((pot5.same s59).mono (by omega)) (tup_good (hl.but but19 nlp) t9 (((gx9.cut _ _).app (.cons (gy.same (mq_up s59)) .nil)).app (gx9.cut _ _)) ?_)
          rw [List.length_append, List.length_append, List.length_singleton]
          omega
        · refine ⟨_, _, true, rfl, ty_tup (same_tup (mq_self l p H2) (same_tup (mq_but but12) hx)), by decide +kernel, iteT ?_⟩
          refine ⟨_, rfl, ⟨_, rfl, ⟨hl.but but12 nlp, pot2.there⟩, TupM.same but12 ⟨a, rfl, same_tup (mq_mk l p H) hx⟩, gxs.same (mq_but but12), hx4⟩, fun ys G2 s2 l2 g2 => ⟨by rw [l2]; decide, fun l' nl => ?_⟩⟩
          have s3 := same_new nl (.lst ys)
          refine ⟨p, l', ys, (b + 1), rfl, pot2.same (s2.trans s3), by omega, SqL.of upd_same, by rw [l2]; decide, by rw [l2]; decide, new_ne (pot2.same s2).there nl, fun x H' hx' but pot => ?_⟩
          exact q x H' ((but12.trans (But.of (s2.trans s3))).trans but) (pot.mono (by omega)) (((g2 x hx').same ((mq_up s3).trans (mq_but but))).le (by omega))
end
end K56
set_option Elab.async false
set_option linter.all false
set_option maxRecDepth 100000
set_option maxHeartbeats 2000000
/-! A lambda that is held as a value: made; called by a def that got it, in a block of the frame that made it. -/
namespace LG
open PySem PySem.Spec PyProof.Rows L2 LamX
/-- the function object of a lambda at f, its code object at c', its cells clo -/
def LamO (f c' : Addr) (q : Str) (params : Arguments) (body : Expr) (scope : Scope) (clo : List (Str × Addr)) : HO :=
  .ext fun h => ∃ pm ctv : Value, h.get? f = some (PySem.W.kla_obj "<lambda>" q params body scope clo pm c' ctv)
theorem lamO_tbl {f c' : Addr} {q : Str} {params : Arguments} {body : Expr} {scope : Scope} {clo : List (Str × Addr)} (ps : Array Value) : LamO f c' q params body scope clo ≠ .tbl ps := fun z => by
  unfold LamO at z
  cases z
theorem lamO_new {P : Program} {w : World} {H : Hp} {g : Heap} {c' : Addr} {q : Str} {params : Arguments} {body : Expr} {scope : Scope} {clo : List (Str × Addr)} {pm ctv : Value} :
    ObjOk P w H (g.push (PySem.W.kla_obj "<lambda>" q params body scope clo pm c' ctv)) g.objs.size (LamO g.objs.size c' q params body scope clo) :=
  ⟨⟨pm, ctv, Heap.get?_push_size _ rfl⟩, ⟨_, Heap.get?_push_size _ rfl⟩, fun _ _ ⟨pm, ctv, a⟩ st => ⟨pm, ctv, st _ a⟩⟩
section
variable {X : Cx} {pins : List (Addr × Obj)} {σ : L2.St} {H : Hp} {s : Shared}
/-- made: its function object is new, and told -/
theorem lam_new {T : List (Addr × Str)} {c P : Addr} {params : Arguments} {body : Expr} {scope : Scope} {pos : Pos} {E Q : Value → Shared → Prop} (I : Inv X pins σ H s) (TB : TabB X.base X.mg c P) (hcode : X.env.code = .ref c)
    (hm : (P, X.env.qual ++ "<lambda>") ∈ T) (hu : ∀ p ∈ T, p.1 = P → p.2 = X.env.qual ++ "<lambda>") (hT : Tabs T H) (hdef : defaultsOf params X.env = ([], [])) (L : LamS X.env.scope scope)
    (k : ∀ (f c' : Addr) (G : Hp) (z : Shared), Inv X pins σ G z → ExtN H G → Tabs T G → H f = none → G f = some (LamO f c' (X.env.qual ++ "<lambda>") params body scope (cloFrom X.env.cells scope.names [])) → G c' = some (CodeO c' (X.env.qual ++ "<lambda>")) → Q (.ref f) z) :
    wpAny (model X.prog X.w) X.A (eval (.Lambda params body scope pos) X.env) Q E s := by
  obtain ⟨ps, tb, tr, am⟩ := hT _ hm
  have cl := closure_ok (L.has I.ok)
  have gl := I.mod.glob.keeps I.bk
  have cd := TB.code.keeps I.bk
  have bm := TB.bm.keeps I.bk
  refine PySem.W.kla_eval hdef ?_
  cases e : codeAmong pos ps.toList with
  | some cv =>
    obtain ⟨c', rfl, kc⟩ := am pos cv e
    refine PySem.W.kla_makeFunctionHit cl I.ok.glob gl hcode cd (I.hok P _ tb) tr e bm fun ctv g tk kp sz => ?_
    have nf : H g.objs.size = none := I.hok.fresh sz
    have J := I.laid (a := g.objs.size) (t' := tk) (fun b o z => Heap.get?_push_of_some _ (kp b o z)) sz (lamO_new (P := X.prog) (w := X.w) (H := upd H g.objs.size (LamO g.objs.size c' (X.env.qual ++ "<lambda>") params body scope (cloFrom X.env.cells scope.names []))) (pm := (X.mg "__name__").getD .none) (ctv := ctv))
    have sm := same_new nf (LamO g.objs.size c' (X.env.qual ++ "<lambda>") params body scope (cloFrom X.env.cells scope.names []))
    exact k _ c' _ _ J (ExtN.of sm) (hT.ext sm) nf upd_same (sm _ _ kc)
  | none =>
    refine PySem.W.kla_makeFunction cl I.ok.glob gl hcode cd (I.hok P _ tb) tr e TB.gP bm fun c' ctv g tk kp ge lt rec_ tb2 => ?_
    obtain ⟨c2, oc, vs, t, e2, hoc, hd, hv⟩ := rec_
    cases e2
    have nC : H c' = none := I.hok.fresh ge
    have J1 := inv_table (t' := tk) (more := #[rawInt pos.line, rawInt pos.col, .ref c']) I tb (fun b o hb z => kp b o hb z) tb2 ge ⟨oc, vs, t, hoc, hd, hv⟩
    have sz : s.heap.objs.size ≤ g.objs.size := Nat.le_of_lt (Nat.lt_of_le_of_lt ge lt)
    have e1 : ExtN H (upd (upd H P (.tbl (ps ++ #[rawInt pos.line, rawInt pos.col, .ref c']))) c' (CodeO c' (X.env.qual ++ "<lambda>"))) := fun b o z n => by
      rw [upd_ne (ne_of_none z nC), upd_ne (fun y => n ps (Option.some.inj (z.symm.trans (by rw [y]; exact tb))))]
      exact z
    have T1 : Tabs T (upd (upd H P (.tbl (ps ++ #[rawInt pos.line, rawInt pos.col, .ref c']))) c' (CodeO c' (X.env.qual ++ "<lambda>"))) := fun p hp => by
      by_cases hb : p.1 = P
      · refine ⟨ps ++ #[rawInt pos.line, rawInt pos.col, .ref c'], by rw [hb, upd_ne (ne_of_none tb nC), upd_same], ?_, fun p' cv hcv => ?_⟩
        · rw [show (ps ++ #[rawInt pos.line, rawInt pos.col, .ref c']).toList = ps.toList ++ [rawInt pos.line, rawInt pos.col, .ref c'] by simp]
          exact PySem.TriplesOk_snoc _ _ _ _ tr
        · rw [show (ps ++ #[rawInt pos.line, rawInt pos.col, .ref c']).toList = ps.toList ++ [rawInt pos.line, rawInt pos.col, .ref c'] by simp] at hcv
          rw [hu p hp hb]
          rcases among_app _ tr hcv with z | z
          · obtain ⟨c0, y1, y2⟩ := am p' cv z
            exact ⟨c0, y1, e1 _ _ y2 codeO_ne⟩
          · exact ⟨c', z, upd_same⟩
      · obtain ⟨qs, a1, a2, a3⟩ := hT p hp
        exact ⟨qs, by rw [upd_ne (ne_of_none a1 nC), upd_ne hb]; exact a1, a2, fun p' cv hcv => let ⟨c0, y1, y2⟩ := a3 p' cv hcv; ⟨c0, y1, e1 _ _ y2 codeO_ne⟩⟩
    have hc1 : (upd (upd H P (.tbl (ps ++ #[rawInt pos.line, rawInt pos.col, .ref c']))) c' (CodeO c' (X.env.qual ++ "<lambda>"))) c' = some (CodeO c' (X.env.qual ++ "<lambda>")) := upd_same
    generalize upd (upd H P (.tbl (ps ++ #[rawInt pos.line, rawInt pos.col, .ref c']))) c' (CodeO c' (X.env.qual ++ "<lambda>")) = H1 at J1 e1 T1 hc1
    · have nf : H1 g.objs.size = none := J1.hok.fresh (Nat.le_refl _)
      have J := J1.laid (a := g.objs.size) (t' := tk) (fun b o z => Heap.get?_push_of_some _ z) (Nat.le_refl _) (lamO_new (P := X.prog) (w := X.w) (H := upd H1 g.objs.size (LamO g.objs.size c' (X.env.qual ++ "<lambda>") params body scope (cloFrom X.env.cells scope.names []))) (pm := (X.mg "__name__").getD .none) (ctv := ctv))
      have sm := same_new nf (LamO g.objs.size c' (X.env.qual ++ "<lambda>") params body scope (cloFrom X.env.cells scope.names []))
      exact k _ c' _ _ J (e1.trans (ExtN.of sm)) (T1.ext sm) (I.hok.fresh sz) upd_same (sm _ _ hc1)
def tLamv (T : List (Addr × Str)) (o : Addr → Addr → HO) (q : Str) : TE := fun _ H Q => Tabs T H ∧ ∀ (f c' : Addr) (G : Hp), ExtN H G → Tabs T G → H f = none → G f = some (o f c') → G c' = some (CodeO c' q) → Q (.ref f) G
end
section
variable {X : Cx}
/-- lambda: body, as a value -/
theorem pe_lamv {T : List (Addr × Str)} {c P : Addr} {params : Arguments} {body : Expr} {scope : Scope} {pos : Pos} (TB : TabB X.base X.mg c P) (hcode : X.env.code = .ref c) (hm : (P, X.env.qual ++ "<lambda>") ∈ T) (hu : ∀ p ∈ T, p.1 = P → p.2 = X.env.qual ++ "<lambda>")
    (L : LamS X.env.scope scope) (hdef : defaultsOf params X.env = ([], [])) :
    PE X (.Lambda params body scope pos) (tLamv T (fun f c' => LamO f c' (X.env.qual ++ "<lambda>") params body scope (cloFrom X.env.cells scope.names [])) (X.env.qual ++ "<lambda>")) := by
  refine ⟨fun pins s σ H Q I ⟨hT, h⟩ => ?_⟩
  exact lam_new I TB hcode hm hu hT hdef L fun f c' G z J e T1 nf hf hc => ⟨.ref f, G, J, rfl, h f c' G e T1 nf hf hc⟩
end
/-! ### a list comprehension whose element may rest on the frame as it stands at the block's start -/
section
variable {X : Cx}
theorem pe_lcS {elt tg iter : Expr} {ifs : List Expr} {scope : Scope} {own : List (Str × Nat)} {pos : Pos} {wi : TI} {g : TG} {tt : TT} {te : L2.St → TE} (hc : X.calm = true) (hN : X.N.Nodup) (hi : PI X tg iter wi) (ok : BlkOk X.N X.env.scope scope own)
    (hg : ∀ (s : Shared) (H : Hp) (C : Addr) (cl : List (Str × Addr)) (fp : List Addr), PG (X.blk s H scope (compEnvC scope cl C X.env) fp) tg g) (ht : ∀ (s : Shared) (H : Hp) (C : Addr) (cl : List (Str × Addr)) (fp : List Addr), PTs (X.blk s H scope (compEnvC scope cl C X.env) fp) ifs tt)
    (he : ∀ (pins : List (Addr × Obj)) (σ : L2.St) (s : Shared) (H : Hp) (C : Addr) (cl : List (Str × Addr)) (fp : List Addr), Inv X pins σ H s → (∀ b ∈ fp, FpOk X pins H b) → PE (X.blk s H scope (compEnvC scope cl C X.env) fp) elt (te σ)) (hs : ∀ x, foldedSetIterable iter X.env x = pure x := by intro _; rfl) :
    PE X (.ListComp elt [⟨tg, iter, ifs, 0⟩] scope pos) (fun σ H Q => tLc wi g tt (te σ) (own.map (·.2)) σ H Q) := by
  refine ⟨fun pins s σ H Q I h => ?_⟩
  rw [eval_ListComp]
  have fr : ∀ y ∈ scope.names, y.2 = .free → ∃ c, X.env.cells.lookup y.1 = some c := fun y hy e => (ok.free y hy e).elim (fun k => I.ok.has _ (.inl k)) fun k => I.ok.has _ (.inr k)
  refine wpAny_comprehension_free (use := none) rfl hs (closure_ok fr) ok.kind (fun y hy e => by rw [ok.uniq y hy, e]) ?_
  refine thn (hi.run pins s σ H _ I h) fun xv s1 hx => thn hx fun itv s2 ⟨it, fp, tn, J, H2, ev, I2, T, st2, f2, q⟩ => ?_
  subst ev
  refine wpAny_newObj_type (newEnv_comp ?_) (by show 0 ≤ sizeLine; decide)
  obtain ⟨D, hD⟩ : ∃ D, D = s2.heap.objs.size := ⟨_, rfl⟩
  rw [← hD]
  obtain ⟨W, ⟨m0, w0⟩, turn⟩ := q D (I2.hok.fresh (Nat.le_of_eq hD.symm))
  obtain ⟨s3, hs3⟩ : ∃ z : Shared, z = { s2 with heap := s2.heap.push { cls := .type "list", data := .seq ([] : List Value).toArray } } := ⟨_, rfl⟩
  have I3 : Inv X pins σ (upd H2 D (.lst [])) s3 := by
    rw [hs3]
    exact I2.laid (t' := s2.toks) (fun b o e => Heap.get?_push_of_some _ e) (Nat.le_of_eq hD.symm) ⟨Nat.zero_le _, [], 0, .nil, by rw [hD]; exact Heap.get?_push_size _ rfl⟩
  have f3 : ∀ b ∈ fp, FpOk X pins (upd H2 D (.lst [])) b ∧ b < s3.heap.objs.size := fun b hb => by
    obtain ⟨o, e, _⟩ := T.obj _ _ st2 b hb
    have lt := Heap.lt_size e
    refine ⟨⟨?_, (f2 b hb).2⟩, ?_⟩
    · rw [upd_ne (by rw [hD]; exact Nat.ne_of_lt lt)]
      exact (f2 b hb).1
    · rw [hs3]
      show b < (s2.heap.push _).objs.size
      rw [Heap.size_push]
      exact Nat.lt_succ_of_lt lt
  have st3 : tn 0 s3.heap := T.keep _ _ _ st2 fun b _ o e => by rw [hs3]; exact Heap.get?_push_of_some _ e
  obtain ⟨C, hC⟩ : ∃ C, C = s3.heap.objs.size := ⟨_, rfl⟩
  obtain ⟨cl, hcl⟩ : ∃ cl, cl = cellsFrom (s3.heap.objs.size + 1) scope.names (cloFrom X.env.cells scope.names []) := ⟨_, rfl⟩
  have I4 := block_start I3 ok hN f3
  rw [← hC] at hcl I4
  rw [← hcl] at I4
  obtain ⟨s4, hs4⟩ : ∃ z : Shared, z = { s3 with heap := pushCells (s3.heap.push { cls := .type "dict", data := .dict #[] }) scope.names } := ⟨_, rfl⟩
  rw [← hs4] at I4
  have st4 : tn 0 s4.heap := T.keep _ _ _ st3 fun b _ o e => by rw [hs4]; exact pushCells_keeps _ _ _ _ (Heap.get?_push_of_some _ e)
  have pe := he pins σ s3 (upd H2 D (.lst [])) C cl fp I3 fun b hb => (f3 b hb).1
  have pg := hg s3 (upd H2 D (.lst [])) C cl fp
  have pt := ht s3 (upd H2 D (.lst [])) C cl fp
  have fin : codeAny (model X.prog X.w) X.A (.compStart (.ListComp elt [⟨tg, iter, ifs, 0⟩] scope pos) 0 (.ref it) (.ref D) (compEnvC scope cl C X.env)) (compPost (model X.prog X.w) X.A X.xe none (EP X pins σ Q) (.ref D) C) s4 := ?_
  · rw [hs4, hcl, hC, hs3] at fin
    rw [hs3] at I3
    exact fin
  have cL : (compEnvC scope cl C X.env).locals = C := rfl
  generalize compEnvC scope cl C X.env = ce at I4 pe pg pt cL ⊢
  have nf3 : ∀ b ∈ fp, (upd H2 D (.lst [])) b = none := fun b hb => (f3 b hb).1.1
  have f3' : ∀ b ∈ fp, FpOk X pins (upd H2 D (.lst [])) b := fun b hb => (f3 b hb).1
  generalize upd H2 D (.lst []) = H3 at I3 I4 pe pg pt w0 nf3 f3'
  clear f3
  generalize hY : X.blk s3 H3 scope ce fp = Y at I4 pe pg pt
  have yE : Y.env = ce := by rw [← hY]
  have stat : ∀ {σ' : L2.St} {G : Hp} {z : Shared}, Inv Y [] σ' G z → (∀ b ∈ fp, G b = none) → ∀ b ∈ fp, FpOk Y [] G b := by
    rw [← hY]
    exact fun {σ' G z} I' hn b hb => ⟨hn b hb, (I'.ok.exf b hb).1, I'.ok.exfs b hb, .inl hb, fun x c e => (I'.ok.exf b hb).2 x c e, fun p hp => absurd (show p ∈ ([] : List (Addr × Obj)) ++ [] from hp) (by simp)⟩
  have back : ∀ {σ' : L2.St} {G : Hp} {z : Shared}, Inv Y [] σ' G z → Inv X pins σ G z := by
    rw [← hY]
    exact fun {σ' G z} I' => I3.call' (ch := fp) I'.os I'.base I'.hok I'.bare fun b hb => ⟨(f3' b hb).2.2.2.1, (f3' b hb).2.1, (f3' b hb).2.2.2.2.1, (f3' b hb).2.2.2.2.2⟩
  have yP : Y.prog = X.prog := by rw [← hY]
  have yW : Y.w = X.w := by rw [← hY]
  have yK : Y.K = X.K := by rw [← hY]
  have yA : Y.A = X.A := by rw [← hY]
  have yx : Y.xe = fun _ _ => False := by rw [← hY]
  have yc : Y.calm = true := by rw [← hY]; exact hc
  have kE : ce = Y.env := yE.symm
  have loop : codeAny (model X.prog X.w) X.A (.compLoop (.ListComp elt [⟨tg, iter, ifs, 0⟩] scope pos) 0 (.ref it) (.ref D) ce) (compPost (model X.prog X.w) X.A X.xe none (EP X pins σ Q) (.ref D) C) s4 := ?_
  · exact codeAny_compStart_list loop (T.self X.A 0 _ _ _ st4 loop)
  refine compLoop_any (fun n z => ∃ i G, Inv Y [] (wipe σ (own.map (·.2))) G z ∧ tn i z.heap ∧ (∀ b ∈ fp, G b = none) ∧ W i n G) ?_ m0 ⟨0, H3, I4, st4, nf3, w0⟩
  rintro n s5 ⟨i, G5, I5, st5, n5, w5⟩
  rw [kE]
  rcases turn i n G5 w5 with ⟨stop, qq⟩ | ⟨go, Nx, hNx, step⟩
  · have td := T.done Y yP yW yK yc i [] s5 _ G5 (fun _ _ => False) I5 (stat I5 n5) st5 stop
    rw [yA] at td
    refine thnF td fun r s6 ⟨hr, I6⟩ => ?_
    subst hr
    have I7 := back I6
    have nC : G5 C = none := by
      have z := I6.free
      rw [yE, cL] at z
      exact z
    obtain ⟨m, hn, _⟩ := I6.loc
    rw [yE, cL] at hn
    obtain ⟨e0, e1, e2, e3, e4, e5⟩ := I3.fpOk (Nat.le_of_eq hC.symm) nC
    exact ⟨m, hn, fun h'' sb => ⟨.ref D, G5, I7.turned (t' := s6.toks) (fun b o hb e => (sb.2 b hb).trans e) e0 e1 e3 e4 e5, rfl, qq⟩⟩
  · have ti := T.item Y yP yW yK yc i [] s5 _ G5 (fun _ _ => False) I5 (stat I5 n5) st5 go
    rw [yA] at ti
    refine thnF ti fun r s6 ⟨u, hr, h6⟩ => ?_
    subst hr
    rw [← yP, ← yW, ← yA]
    rw [← yP, ← yW, ← yA] at h6
    refine thnF h6 fun _ s7 ⟨x, G7, I7, r7, y7, st7, n7⟩ => ?_
    have I7' := I7.pinned (stat I7 n7) (T.obj _ _ st7)
    have pg1 := pg.run _ s7 _ G7 x u _ I7' r7 (step x G7 y7)
    rw [yx] at pg1
    refine thnF pg1 fun _ s8 ⟨σ8, G8, I8, hw8, q8⟩ => ?_
    have pt1 := pt.run _ s8 σ8 G8 _ I8 q8
    rw [yx] at pt1
    refine thnF pt1 fun b s9 ⟨G9, I9, q9⟩ => ?_
    have nxt : ∀ {z : Shared} {G : Hp}, Inv Y ([] ++ pinsAt fp s7.heap) σ8 G z → Nx G → ∃ m, m < n ∧ ∃ i G, Inv Y [] (wipe σ (own.map (·.2))) G z ∧ tn i z.heap ∧ (∀ b ∈ fp, G b = none) ∧ W i m G := by
      intro z G J nx
      obtain ⟨m', lt, w'⟩ := hNx G nx
      have pin' : ∀ b ∈ fp, ∀ o, s7.heap.get? b = some o → z.heap.get? b = some o ∧ G b = none := fun b hb o e => ⟨(J.pin (b, o) (List.mem_append_right _ (List.mem_append_right _ (mem_pinsAt hb e)))).1, (J.pin (b, o) (List.mem_append_right _ (List.mem_append_right _ (mem_pinsAt hb e)))).2.1⟩
      have ln : (wipe σ (own.map (·.2))).length = σ8.length := by rw [← hw8, wipe_length]
      refine ⟨m', lt, i + 1, G, (J.unpinned (pins := [])).weak ln (fun j v e => ?_), T.keep _ _ _ st7 fun b hb o e => (pin' b hb o e).1, fun b hb => ?_, w'⟩
      · rw [← hw8] at e
        exact (wipe_some e).1
      · obtain ⟨o, e, _⟩ := T.obj _ _ st7 b hb
        exact (pin' b hb o e).2
    cases b with
    | false => exact nxt I9 q9
    | true =>
      have pe1 := pe.run _ s9 σ8 G9 _ I9 q9
      rw [yx] at pe1
      refine thnF pe1 fun z s10 ⟨yv, G10, I10, r10, acc, hD10, hz10, nx⟩ => ?_
      exact app_ok (X := Y) I10 hD10 hz10 r10 fun s11 I11 => nxt I11 nx
end
end LG
set_option Elab.async false
set_option linter.all false
set_option maxRecDepth 100000
set_option maxHeartbeats 2000000
namespace LG
open PySem PySem.Spec PyProof.Rows L2 LamX
/-- a lambda of a frame: its text, and what its body asks -/
structure Lam where
  params : Arguments
  body : Expr
  scope : Scope
  t : XK → TE
def Lam.o (l : Lam) (X : Cx) (f c' : Addr) : HO := LamO f c' (X.env.qual ++ "<lambda>") l.params l.body l.scope (cloFrom X.env.cells l.scope.names [])
theorem Lam.o_tbl (l : Lam) (X : Cx) (f c' : Addr) : ∀ ps, l.o X f c' ≠ .tbl ps := lamO_tbl
section
variable {X : Cx} {pins : List (Addr × Obj)} {σ : L2.St} {H : Hp} {s : Shared}
/-- the lambda's body begins, the frame's cells as they were at s -/
theorem lam_start3 {A : Around} {outer : List Env} {E : XK} {scope : Scope} {f c' : Addr} {g : Heap} {tk : Nat} {z : Shared} {HZ : Hp} (I : Inv X pins σ H s) (L : LamS X.env.scope scope) (e0 : Env0 X.prog X.w X.K X.mg X.base A outer z HZ) (hd : A.handled = none)
    (kc : ∀ y c, X.env.cells.lookup y = some c → HZ c = none ∧ ∀ v, s.heap.IsCell c v → z.heap.IsCell c v) (ns : g.Ns z.heap.objs.size fun y => ([] : List (Str × Value)).reverse.lookup y) (kp : ∀ b o, z.heap.get? b = some o → g.get? b = some o) :
    Inv (lamCx X A outer z HZ E scope f c') [] σ HZ { z with heap := g, toks := tk } := by
  have mem : ∀ {y c}, (cloFrom X.env.cells scope.names []).lookup y = some c → X.env.cells.lookup y = some c := by
    intro y c e
    rcases cloFrom_mem (PySem.mem_of_lookup e) with hm | ⟨h1, h2⟩
    · cases hm
    · obtain ⟨c1, hc⟩ := L.has I.ok _ h1 rfl
      dsimp only at hc
      rw [h2, hc]
      rfl
  have look : ∀ {y}, scope.names.lookup y = some .free → ∃ c, (cloFrom X.env.cells scope.names []).lookup y = some c := fun {y} hl => mem_lookup (cloFrom_has (cells := X.env.cells) (acc := []) (PySem.mem_of_lookup hl))
  have cells : ∀ {c : Addr} {v : Option Value} {y : Str}, X.env.cells.lookup y = some c → s.heap.IsCell c v → g.IsCell c v := by
    intro c v y e q
    obtain ⟨o, ho, hv⟩ := (kc y c e).2 v q
    exact ⟨o, kp _ _ ho, hv⟩
  have noE : ∀ b : Addr, b ∉ (lamCx X A outer z HZ E scope f c').ex := fun b q => by cases (show b ∈ ([] : List Addr) from q)
  have okL : (lamCx X A outer z HZ E scope f c').Ok :=
    { mod := e0.mod, kind := L.kind, glob := rfl, blt := rfl, above := Nat.le_refl _, inj := fun y1 y2 c a b => I.ok.inj y1 y2 c (mem a) (mem b)
      has := fun y hy => hy.elim (fun k => absurd rfl (L.own _ (PySem.mem_of_lookup (show scope.names.lookup y = some .cell from k))).2) look
      cab := fun y c q _ => absurd (show false = true from q) (by decide)
      hd := fun _ => hd, frames := Around.frames_deeper e0.frames, stk := .inr ⟨rfl, rfl⟩, exf := fun b q => absurd q (noE b), bs := e0.bs, bsz := e0.bsz, noex := fun b _ _ => noE b, exfs := fun b q => absurd q (noE b), funs := e0.funs, frf := e0.frf }
  refine ⟨okL, rfl, e0.bare, Un.kept kp, ⟨_, ns, fun i y v e1 e2 e3 => ?_⟩, fun y c e => ?_, e0.hok.fresh (Nat.le_refl _), fun y c e => (kc y c (mem e)).1, fun q hq => ?_, e0.hok.kept kp, I.len⟩
  · have e3 : Vis scope y := e3
    rcases e3 with k | k | k
    · exact absurd rfl (L.own _ (PySem.mem_of_lookup k)).1
    · exact absurd rfl (L.own _ (PySem.mem_of_lookup k)).2
    obtain ⟨m, _, hl⟩ := I.loc
    have kind := L.free _ (PySem.mem_of_lookup k) rfl
    obtain ⟨u, r, q⟩ := hl i y v e1 e2 (kind.elim (fun k => .inr (.inl k)) (fun k => .inr (.inr k)))
    obtain ⟨c2, h2⟩ := look k
    refine ⟨u, r, .inr ⟨.inr k, c2, h2, ?_⟩⟩
    rcases q with ⟨k', _⟩ | ⟨_, c3, e', q⟩
    · have k' : X.env.scope.names.lookup y = some .local := k'
      rcases kind with k2 | k2
      · exact absurd (k'.symm.trans k2) (by simp)
      · exact absurd (k'.symm.trans k2) (by simp)
    · have c1 := mem h2
      rw [c1] at e'
      cases e'
      exact cells c1 q
  · obtain ⟨u, q⟩ := I.cell y c (mem e)
    exact ⟨u, cells (mem e) q⟩
  · cases (show q ∈ ([] : List (Addr × Obj)) ++ [] from hq)
/-- the def that got the lambda calls it -/
theorem pe_act3 {fp : List Addr} {s1 : Shared} {H1 : Hp} {Ng : List Str} {qg : Str} {sg : Scope} {g : Addr} {cdg : Value} {k i : Nat} {a : Str} {pn : List (Addr × Obj)} {xe : Value → Shared → Prop} {W : WX} {p1 p2 : Pos} (l : Lam)
    (I : Inv X pins σ H s) (L : LamS X.env.scope l.scope) (un : Un (frs X.stack) fp H H1 s.heap s1.heap) (hfp : ∀ b ∈ fp, ∀ y c, X.env.cells.lookup y = some c → c ≠ b)
    (hbind : ∀ (q : Str) (cl : List (Str × Addr)) (pm cv ctv : Value), bindArgs (PySem.W.kla_fn "<lambda>" q l.params l.body l.scope cl pm cv ctv) ⟨[], []⟩ = pure [])
    (tk : Takes ((cxOf CX0 X.prog X.w X.K X.mg X.base Ng qg sg g cdg X.A X.stack s1 H1 E0).tr pn xe) W) (hr : Room (k + 1) (X.A.deeper (envOfC qg sg s1.heap.objs.size g cdg)))
    (hbody : ∀ (A : Around) (outer : List Env) (s : Shared) (H : Hp) (E : XK) (f c' : Addr), Room k (A.deeper (lamEnv X l.scope s.heap.objs.size f c')) → PE (lamCx X A outer s H E l.scope f c') l.body (l.t E))
    (hN : Ng[i]? = some a) (hv : Vis sg a) (hd : (a == ("__debug__" : Str)) = false := by decide) (hcd : (a == ("__classdict__" : Str)) = false := by decide) :
    PE ((cxOf CX0 X.prog X.w X.K X.mg X.base Ng qg sg g cdg X.A X.stack s1 H1 E0).tr pn xe) (.Call (.Name a p1) [] [] p2)
      (fun σZ HZ Q => ∃ f c' : Addr, σZ[i]? = some (some (.ref f)) ∧ HZ f = some (l.o X f c') ∧ HZ c' = some (CodeO c' (X.env.qual ++ "<lambda>")) ∧ ∃ E : XK, (∀ cls d H', E cls d H' → W cls d σZ H') ∧ l.t E σ HZ Q) := by
  refine ⟨fun pinsZ sZ σZ HZ Q IZ ⟨f, c', slot, fo, code, E, hW, ht⟩ => ?_⟩
  refine wpAny_Call_Name_kw (thn ((pe_var (pos := p1) (i := i) hN hv hd hcd).run pinsZ sZ σZ HZ (fun v G => v = .ref f ∧ G = HZ) IZ ⟨.ref f, slot, rfl, rfl⟩) fun u z1 ⟨v, G, I1, r1, ev, eG⟩ => ?_)
  subst ev
  rw [eG] at I1
  have eu : u = Value.ref f := r1
  subst eu
  obtain ⟨⟨pm, ctv, fn1⟩, _, _⟩ := I1.hok f _ fo
  refine PySem.W.callWith_F0 ⟨_, _, _, _, fn1⟩ ?_
  have un2 : Un (frs X.stack) [] H1 HZ s1.heap z1.heap := I1.base
  obtain ⟨⟨oc, vs, t, hoc, hdc, hvc⟩, _, _⟩ := I1.hok c' _ code
  have kc : ∀ y c, X.env.cells.lookup y = some c → HZ c = none ∧ ∀ v, s.heap.IsCell c v → z1.heap.IsCell c v := by
    intro y c e
    have n0 := I.freeC y c e
    have nx : c ∉ fp := fun z => hfp c z y c e rfl
    obtain ⟨v0, o0, g0, _⟩ := I.cell y c e
    have n1 := un.free c o0 g0 n0 nx
    obtain ⟨sl, g1⟩ := un.any g0 n0 nx
    refine ⟨un2.free c _ g1 n1 (by simp), fun v ⟨o, ho, hv⟩ => ?_⟩
    obtain ⟨sl1, y1⟩ := un.any ho n0 nx
    obtain ⟨sl2, y2⟩ := un2.any y1 n1 (by simp)
    exact ⟨_, y2, hv⟩
  have rc : codeAny (model X.prog X.w) (X.A.deeper (envOfC qg sg s1.heap.objs.size g cdg)) (.call (.ref f) ⟨[], []⟩) (CR (L2.CX X.prog X.w) (envOfC qg sg s1.heap.objs.size g cdg :: X.stack) X.prog X.w HZ z1 Q E) z1 := by
    refine PySem.W.kla_callFunE hr.depth fn1 rfl L.co L.gen rfl ⟨c', oc, vs, t, rfl, hoc, hdc, hvc⟩ ?_
    rw [hbind]
    refine wpAny_pure (wpAny_newFunctionEnv (fun y hy => (L.own y hy).2) (fun y hy => absurd hy (by simp)) (fun g1 hns hsb => ⟨I1.nolimit.fresh _ hsb, ?_⟩) L.kind)
    show codeAny _ _ (.expr l.body (lamEnv X l.scope z1.heap.objs.size f c')) _ _
    have kp : ∀ b o, z1.heap.get? b = some o → g1.get? b = some o := fun b o e => hsb.extBut b o (Nat.ne_of_lt (Heap.lt_size e)) (Heap.get?_push_of_some _ e)
    have J := lam_start3 (f := f) (c' := c') (E := E) (tk := z1.toks + ([] : List (Str × Value)).length) I L I1.env0 hr.hd kc hns kp
    refine PySem.W.kla_codeExpr (wpAny_mono ((hbody _ _ z1 HZ E f c' (hr.deeper _)).run [] _ _ HZ Q J ht) (fun v z' hq => ?_) fun _ _ hq => hq)
    obtain ⟨w', H', J', rv, q⟩ := hq
    exact ⟨w', H', J'.os, J'.bare, J'.base, J'.hok, rv, q⟩
  refine wpAny_call (codeAny_mono rc fun r z' hq => ?_)
  match r, hq with
  | .error e, hq => exact tk e z' (XE.of_call I1 (fun cls d H' q => hW cls d H' q) hq)
  | .ok (.ret u), hq => exact I1.after hq
  | .ok .next, hq => exact hq.elim
  | .ok .brk, hq => exact hq.elim
  | .ok .cont, hq => exact hq.elim
/-- such a def called in a block of the frame, with a lambda that is held -/
theorem pe_toldv {ι : Type} (fam : ι → Lam) {bs : Scope} {ce : Env} {fp : List Addr} (I0 : Inv X pins σ H s) (f0 : ∀ b ∈ fp, FpOk X pins H b) {TT : (XK → Hp → VK → Prop) → Hp → VK → Prop} {x a : Str} {g : Addr} {k : Nat} {pg : Arguments} {bg : List Stmt} {sg : Scope} {dV kV doc pm cdv ct oc : Value} {an od : Option Addr} {osl : Array (Option Value)} {Ng : List Str}
    {y : Str} {ta : TE} {p py pos : Pos} (hg : Gl (X.blk s H bs ce fp) x) (hm : X.mg x = some (.ref g)) (hk : PySem.W.keepIn X.K (.ref g) = true)
    (lk : X.K.lookup g = some ⟨oc, od, .func (PySem.W.fnOf x x pg bg sg dV kV doc pm an cdv ct), osl⟩) (hcg : PySem.W.codeIn X.K cdv x = true) (hb : L2.Binds X.K (PySem.W.fnOf x x pg bg sg dV kV doc pm an cdv ct) [a] []) (Sg : FnScope Ng [a] sg) (hNg : Ng[0]? = some a) (hva : Vis sg a)
    (hG : Gives2 (X.blk s H bs ce fp) Ng x sg g cdv bg a (X.env.qual ++ "<lambda>") TT) (hTT : ∀ (tl : XK → Hp → VK → Prop) (o : HO) (f : Addr) (G : Hp) (Q : VK), G f = some o → TT tl G Q → TT (fun E G' R => G' f = some o ∧ tl E G' R) G Q)
    (hr : Room (k + 2) X.A) (L : ∀ j, LamS X.env.scope (fam j).scope) (hbind : ∀ (j : ι) (q : Str) (cl : List (Str × Addr)) (pm cv ctv : Value), bindArgs (PySem.W.kla_fn "<lambda>" q (fam j).params (fam j).body (fam j).scope cl pm cv ctv) ⟨[], []⟩ = pure [])
    (hbody : ∀ (j : ι) (A : Around) (outer : List Env) (s : Shared) (H : Hp) (E : XK) (f c' : Addr), Room k (A.deeper (lamEnv X (fam j).scope s.heap.objs.size f c')) → PE (lamCx X A outer s H E (fam j).scope f c') (fam j).body ((fam j).t E)) (ha : PE (X.blk s H bs ce fp) (.Name y py) ta)
    (hdb : (x == ("__debug__" : Str)) = false := by decide) (hd : (a == ("__debug__" : Str)) = false := by decide) (hcd : (a == ("__classdict__" : Str)) = false := by decide) :
    PE (X.blk s H bs ce fp) (.Call (.Name x p) [.Name y py] [] pos) (fun σ' H' Q => ta σ' H' fun v G => ∃ (j : ι) (f c' : Addr), v = .ref f ∧ G f = some ((fam j).o X f c') ∧ G c' = some (CodeO c' (X.env.qual ++ "<lambda>")) ∧ TT (fun E G' R => (fam j).t E σ G' R) G Q) := by
  refine ⟨fun pins1 s1 σ1 H1 Q I1 h => ?_⟩
  refine wpAny_Call_Name_kw (ld_glob I1 hg hm ?_ hdb)
  refine PySem.W.callWith_K (h₀ := X.base) I1.ok.mod.kin hk ?_ (by rfl) (by rfl)
  show wpAny _ _ (spliced ((false, eval (.Name y py) (X.blk s H bs ce fp).env) :: backTo pos (starEach [] (X.blk s H bs ce fp).env))) _ _ s1
  refine Calls.spliced_cons (thn (ha.run pins1 s1 σ1 H1 _ I1 h) fun u z ⟨v, G, I2, rv, j, f, c', ev, fo, co, tt⟩ => Calls.spliced_nil ⟨I2.kIn, ?_⟩)
  subst ev
  have eu : u = Value.ref f := rv
  subst eu
  have un : Un (frs X.stack) fp H G s.heap z.heap := I2.base
  have rc : codeAny (model X.prog X.w) X.A (.call (.ref g) ⟨[.ref f], []⟩) (CR CX0 X.stack X.prog X.w G z Q E0) z := by
    refine run_ofS (N := Ng) (ps := [a]) (us := [.ref f]) (vs := [.ref f]) lk hcg Sg hr I2.env0 (hb z [.ref f] I2.kIn rfl) (.cons rfl .nil) rfl fun hr' => ?_
    obtain ⟨t', ht', hq'⟩ := hG f c' z G Q (fun E G' R => G' f = some ((fam j).o X f c') ∧ (fam j).t E σ G' R) (fun W pn xe p1 p2 tk => pe_imp (pe_act3 (X := X) (i := 0) (fam j) I0 (L j) un (fun b hb => (f0 b hb).2.2.2.2.1) (hbind j) tk hr' (hbody j) hNg hva hd hcd) fun σZ HZ Q' ⟨h0, hc, E, hW, ho, ht⟩ => ⟨f, c', h0, ho, hc, E, hW, ht⟩) co (hTT _ _ _ _ _ fo tt)
    exact ⟨t', ht'.nox, hq'⟩
  refine wpAny_call (codeAny_mono rc fun r z2 hq => ?_)
  match r, hq with
  | .error e, hq => exact (show False from hq).elim
  | .ok (.ret u), hq => exact I2.after hq
  | .ok .next, hq => exact hq.elim
  | .ok .brk, hq => exact hq.elim
  | .ok .cont, hq => exact hq.elim
end
end LG
set_option Elab.async false
set_option linter.all false
set_option maxRecDepth 100000
set_option maxHeartbeats 2000000
/-! A lambda handed on: the def that got it hands it to another def, and that one calls it. -/
namespace LG
open PySem PySem.Spec PyProof.Rows L2 LamX
section
variable {X : Cx} {pins : List (Addr × Obj)} {σ : L2.St} {H : Hp} {s : Shared}
/-- the cells of the frame are as they were -/
def CellsOn (X : Cx) (h : Heap) (H1 : Hp) (h1 : Heap) : Prop := ∀ y c, X.env.cells.lookup y = some c → H1 c = none ∧ ∀ v, h.IsCell c v → h1.IsCell c v
theorem cells_first {fp fr : List Addr} {H1 : Hp} {h1 : Heap} (I : Inv X pins σ H s) (un : Un fr fp H H1 s.heap h1) (hfp : ∀ b ∈ fp, ∀ y c, X.env.cells.lookup y = some c → c ≠ b) : CellsOn X s.heap H1 h1 := by
  intro y c e
  have n0 := I.freeC y c e
  have nx : c ∉ fp := fun z => hfp c z y c e rfl
  obtain ⟨v0, o0, g0, _⟩ := I.cell y c e
  refine ⟨un.free c o0 g0 n0 nx, fun v ⟨o, ho, hv⟩ => ?_⟩
  obtain ⟨sl1, y1⟩ := un.any ho n0 nx
  exact ⟨_, y1, hv⟩
theorem CellsOn.next {fr : List Addr} {H1 H2 : Hp} {h1 h2 : Heap} (I : Inv X pins σ H s) (k : CellsOn X s.heap H1 h1) (un : Un fr [] H1 H2 h1 h2) : CellsOn X s.heap H2 h2 := by
  intro y c e
  obtain ⟨n1, k1⟩ := k y c e
  obtain ⟨v0, q0⟩ := I.cell y c e
  obtain ⟨o1, g1, _⟩ := k1 _ q0
  refine ⟨un.free c _ g1 n1 (by simp), fun v q => ?_⟩
  obtain ⟨o, ho, hv⟩ := k1 v q
  obtain ⟨sl1, y1⟩ := un.any ho n1 (by simp)
  exact ⟨_, y1, hv⟩
/-- the def that got the lambda calls it, whatever frame called that def -/
theorem pe_act4 {A1 : Around} {st1 : List Env} {s1 : Shared} {H1 : Hp} {Ng : List Str} {qg : Str} {sg : Scope} {g : Addr} {cdg : Value} {k i : Nat} {a : Str} {pn : List (Addr × Obj)} {xe : Value → Shared → Prop} {W : WX} {p1 p2 : Pos} (l : Lam)
    (I : Inv X pins σ H s) (L : LamS X.env.scope l.scope) (kc1 : CellsOn X s.heap H1 s1.heap)
    (hbind : ∀ (q : Str) (cl : List (Str × Addr)) (pm cv ctv : Value), bindArgs (PySem.W.kla_fn "<lambda>" q l.params l.body l.scope cl pm cv ctv) ⟨[], []⟩ = pure [])
    (tk : Takes ((cxOf CX0 X.prog X.w X.K X.mg X.base Ng qg sg g cdg A1 st1 s1 H1 E0).tr pn xe) W) (hr : Room (k + 1) (A1.deeper (envOfC qg sg s1.heap.objs.size g cdg)))
    (hbody : ∀ (A : Around) (outer : List Env) (s : Shared) (H : Hp) (E : XK) (f c' : Addr), Room k (A.deeper (lamEnv X l.scope s.heap.objs.size f c')) → PE (lamCx X A outer s H E l.scope f c') l.body (l.t E))
    (hN : Ng[i]? = some a) (hv : Vis sg a) (hd : (a == ("__debug__" : Str)) = false := by decide) (hcd : (a == ("__classdict__" : Str)) = false := by decide) :
    PE ((cxOf CX0 X.prog X.w X.K X.mg X.base Ng qg sg g cdg A1 st1 s1 H1 E0).tr pn xe) (.Call (.Name a p1) [] [] p2)
      (fun σZ HZ Q => ∃ f c' : Addr, σZ[i]? = some (some (.ref f)) ∧ HZ f = some (l.o X f c') ∧ HZ c' = some (CodeO c' (X.env.qual ++ "<lambda>")) ∧ ∃ E : XK, (∀ cls d H', E cls d H' → W cls d σZ H') ∧ l.t E σ HZ Q) := by
  refine ⟨fun pinsZ sZ σZ HZ Q IZ ⟨f, c', slot, fo, code, E, hW, ht⟩ => ?_⟩
  refine wpAny_Call_Name_kw (thn ((pe_var (pos := p1) (i := i) hN hv hd hcd).run pinsZ sZ σZ HZ (fun v G => v = .ref f ∧ G = HZ) IZ ⟨.ref f, slot, rfl, rfl⟩) fun u z1 ⟨v, G, I1, r1, ev, eG⟩ => ?_)
  subst ev
  rw [eG] at I1
  have eu : u = Value.ref f := r1
  subst eu
  obtain ⟨⟨pm, ctv, fn1⟩, _, _⟩ := I1.hok f _ fo
  refine PySem.W.callWith_F0 ⟨_, _, _, _, fn1⟩ ?_
  have un2 : Un (frs st1) [] H1 HZ s1.heap z1.heap := I1.base
  obtain ⟨⟨oc, vs, t, hoc, hdc, hvc⟩, _, _⟩ := I1.hok c' _ code
  have kc : ∀ y c, X.env.cells.lookup y = some c → HZ c = none ∧ ∀ v, s.heap.IsCell c v → z1.heap.IsCell c v := kc1.next I un2
  have rc : codeAny (model X.prog X.w) (A1.deeper (envOfC qg sg s1.heap.objs.size g cdg)) (.call (.ref f) ⟨[], []⟩) (CR (L2.CX X.prog X.w) (envOfC qg sg s1.heap.objs.size g cdg :: st1) X.prog X.w HZ z1 Q E) z1 := by
    refine PySem.W.kla_callFunE hr.depth fn1 rfl L.co L.gen rfl ⟨c', oc, vs, t, rfl, hoc, hdc, hvc⟩ ?_
    rw [hbind]
    refine wpAny_pure (wpAny_newFunctionEnv (fun y hy => (L.own y hy).2) (fun y hy => absurd hy (by simp)) (fun g1 hns hsb => ⟨I1.nolimit.fresh _ hsb, ?_⟩) L.kind)
    show codeAny _ _ (.expr l.body (lamEnv X l.scope z1.heap.objs.size f c')) _ _
    have kp : ∀ b o, z1.heap.get? b = some o → g1.get? b = some o := fun b o e => hsb.extBut b o (Nat.ne_of_lt (Heap.lt_size e)) (Heap.get?_push_of_some _ e)
    have J := lam_start3 (f := f) (c' := c') (E := E) (tk := z1.toks + ([] : List (Str × Value)).length) I L I1.env0 hr.hd kc hns kp
    refine PySem.W.kla_codeExpr (wpAny_mono ((hbody _ _ z1 HZ E f c' (hr.deeper _)).run [] _ _ HZ Q J ht) (fun v z' hq => ?_) fun _ _ hq => hq)
    obtain ⟨w', H', J', rv, q⟩ := hq
    exact ⟨w', H', J'.os, J'.bare, J'.base, J'.hok, rv, q⟩
  refine wpAny_call (codeAny_mono rc fun r z' hq => ?_)
  match r, hq with
  | .error e, hq => exact tk e z' (XE.of_call I1 (fun cls d H' q => hW cls d H' q) hq)
  | .ok (.ret u), hq => exact I1.after hq
  | .ok .next, hq => exact hq.elim
  | .ok .brk, hq => exact hq.elim
  | .ok .cont, hq => exact hq.elim
/-- such a def called by another def Y, that got the lambda from the frame -/
theorem pe_toldw {ι : Type} (fam : ι → Lam) {Y : Cx} (I0 : Inv X pins σ H s) {z0 : Shared} {G0 : Hp} {Nr : List Str} {qr : Str} {sr : Scope} {fr : Addr} {cdr : Value} {A1 : Around} {st1 : List Env}
    (hY : Y = (cxOf CX0 X.prog X.w X.K X.mg X.base Nr qr sr fr cdr A1 st1 z0 G0 E0).nox) (kc0 : CellsOn X s.heap G0 z0.heap)
    {TT : (XK → Hp → VK → Prop) → Hp → VK → Prop} {x a : Str} {g : Addr} {k : Nat} {pg : Arguments} {bg : List Stmt} {sg : Scope} {dV kV doc pm cdv ct oc : Value} {an od : Option Addr} {osl : Array (Option Value)} {Ng : List Str}
    {y : Str} {ta : TE} {p py pos : Pos} (hg : Gl Y x) (hm : X.mg x = some (.ref g)) (hk : PySem.W.keepIn X.K (.ref g) = true)
    (lk : X.K.lookup g = some ⟨oc, od, .func (PySem.W.fnOf x x pg bg sg dV kV doc pm an cdv ct), osl⟩) (hcg : PySem.W.codeIn X.K cdv x = true) (hb : L2.Binds X.K (PySem.W.fnOf x x pg bg sg dV kV doc pm an cdv ct) [a] []) (Sg : FnScope Ng [a] sg) (hNg : Ng[0]? = some a) (hva : Vis sg a)
    (hG : Gives2 Y Ng x sg g cdv bg a (X.env.qual ++ "<lambda>") TT) (hTT : ∀ (tl : XK → Hp → VK → Prop) (o : HO) (f : Addr) (G : Hp) (Q : VK), G f = some o → TT tl G Q → TT (fun E G' R => G' f = some o ∧ tl E G' R) G Q)
    (hr : Room (k + 2) Y.A) (L : ∀ j, LamS X.env.scope (fam j).scope) (hbind : ∀ (j : ι) (q : Str) (cl : List (Str × Addr)) (pm cv ctv : Value), bindArgs (PySem.W.kla_fn "<lambda>" q (fam j).params (fam j).body (fam j).scope cl pm cv ctv) ⟨[], []⟩ = pure [])
    (hbody : ∀ (j : ι) (A : Around) (outer : List Env) (s : Shared) (H : Hp) (E : XK) (f c' : Addr), Room k (A.deeper (lamEnv X (fam j).scope s.heap.objs.size f c')) → PE (lamCx X A outer s H E (fam j).scope f c') (fam j).body ((fam j).t E)) (ha : PE Y (.Name y py) ta)
    (hdb : (x == ("__debug__" : Str)) = false := by decide) (hd : (a == ("__debug__" : Str)) = false := by decide) (hcd : (a == ("__classdict__" : Str)) = false := by decide) :
    PE Y (.Call (.Name x p) [.Name y py] [] pos) (fun σ' H' Q => ta σ' H' fun v G => ∃ (j : ι) (f c' : Addr), v = .ref f ∧ G f = some ((fam j).o X f c') ∧ G c' = some (CodeO c' (X.env.qual ++ "<lambda>")) ∧ TT (fun E G' R => (fam j).t E σ G' R) G Q) := by
  subst hY
  refine ⟨fun pins1 s1 σ1 H1 Q I1 h => ?_⟩
  refine wpAny_Call_Name_kw (ld_glob I1 hg hm ?_ hdb)
  refine PySem.W.callWith_K (h₀ := X.base) I1.ok.mod.kin hk ?_ (by rfl) (by rfl)
  refine Calls.spliced_cons (thn (ha.run pins1 s1 σ1 H1 _ I1 h) fun u z ⟨v, G, I2, rv, j, f, c', ev, fo, co, tt⟩ => Calls.spliced_nil ⟨I2.kIn, ?_⟩)
  subst ev
  have eu : u = Value.ref f := rv
  subst eu
  have un : Un (frs st1) [] G0 G z0.heap z.heap := I2.base
  have kc1 : CellsOn X s.heap G z.heap := kc0.next I0 un
  have rc : codeAny (model X.prog X.w) (A1.deeper (envOfC qr sr z0.heap.objs.size fr cdr)) (.call (.ref g) ⟨[.ref f], []⟩) (CR CX0 (envOfC qr sr z0.heap.objs.size fr cdr :: st1) X.prog X.w G z Q E0) z := by
    refine run_ofS (N := Ng) (ps := [a]) (us := [.ref f]) (vs := [.ref f]) lk hcg Sg hr I2.env0 (hb z [.ref f] I2.kIn rfl) (.cons rfl .nil) rfl fun hr' => ?_
    obtain ⟨t', ht', hq'⟩ := hG f c' z G Q (fun E G' R => G' f = some ((fam j).o X f c') ∧ (fam j).t E σ G' R) (fun W pn xe p1 p2 tk => pe_imp (pe_act4 (X := X) (i := 0) (fam j) I0 (L j) kc1 (hbind j) tk hr' (hbody j) hNg hva hd hcd) fun σZ HZ Q' ⟨h0, hc, E, hW, ho, ht⟩ => ⟨f, c', h0, ho, hc, E, hW, ht⟩) co (hTT _ _ _ _ _ fo tt)
    exact ⟨t', ht'.nox, hq'⟩
  refine wpAny_call (codeAny_mono rc fun r z2 hq => ?_)
  match r, hq with
  | .error e, hq => exact (show False from hq).elim
  | .ok (.ret u), hq => exact I2.after hq
  | .ok .next, hq => exact hq.elim
  | .ok .brk, hq => exact hq.elim
  | .ok .cont, hq => exact hq.elim
/-- a def called in a block of the frame; its body may rest on the frame's cells -/
theorem pe_callD {bs : Scope} {ce : Env} {fp : List Addr} (I0 : Inv X pins σ H s) (f0 : ∀ b ∈ fp, FpOk X pins H b) {x : Str} {g : Addr} {k : Nat} {pg : Arguments} {bg : List Stmt} {sg : Scope} {dV kV doc pm cdv ct oc : Value} {an od : Option Addr} {osl : Array (Option Value)} {Ng ps : List Str}
    {e : Expr} {es : List Expr} {ta : TA} {sp : List V → Hp → VK → Prop} {p pos : Pos} (hg : Gl (X.blk s H bs ce fp) x) (hm : X.mg x = some (.ref g)) (hk : PySem.W.keepIn X.K (.ref g) = true)
    (lk : X.K.lookup g = some ⟨oc, od, .func (PySem.W.fnOf x x pg bg sg dV kV doc pm an cdv ct), osl⟩) (hcg : PySem.W.codeIn X.K cdv x = true) (hb : L2.Binds X.K (PySem.W.fnOf x x pg bg sg dV kV doc pm an cdv ct) ps []) (Sg : FnScope Ng ps sg)
    (hr : Room (k + 1) X.A) (hlen : ∀ vs G Q, sp vs G Q → vs.length = ps.length)
    (hbody : ∀ (z : Shared) (G : Hp) (vs : List V) (Q : VK), CellsOn X s.heap G z.heap → sp vs G Q → Room k (X.A.deeper (envOfC x sg z.heap.objs.size g cdv)) → ∃ t, PSs (cxOf CX0 X.prog X.w X.K X.mg X.base Ng x sg g cdv X.A X.stack z G E0).nox bg t ∧ t { nx := fun _ H' => Q .non H', rt := Q } (L2.start Ng vs) G)
    (ha : PA (X.blk s H bs ce fp) (e :: es) ta) (hdb : (x == ("__debug__" : Str)) = false := by decide)
    (he : starEach (e :: es) (X.blk s H bs ce fp).env = (false, eval e (X.blk s H bs ce fp).env) :: starEach es (X.blk s H bs ce fp).env := by rfl) (hpl : (backTo pos (starEach es (X.blk s H bs ce fp).env)).any (·.1) = false := by rfl) :
    PE (X.blk s H bs ce fp) (.Call (.Name x p) (e :: es) [] pos) (fun σ' H' Q => ta σ' H' fun vs G => sp vs G Q) := by
  refine ⟨fun pins1 s1 σ1 H1 Q I1 h => ?_⟩
  refine wpAny_Call_Name_kw (ld_glob I1 hg hm ?_ hdb)
  refine PySem.W.callWith_K (h₀ := X.base) I1.ok.mod.kin hk (thn (ha.run pos pins1 s1 σ1 H1 _ I1 h) fun us z ⟨vs, G, I2, r, q⟩ => ⟨I2.kIn, ?_⟩) he hpl
  have un : Un (frs X.stack) fp H G s.heap z.heap := I2.base
  have kc := cells_first I0 un (fun b hb => (f0 b hb).2.2.2.2.1)
  have lv := hlen vs G Q q
  have lu : us.length = ps.length := by rw [← r.length]; exact lv
  have rc : codeAny (model X.prog X.w) X.A (.call (.ref g) ⟨us, []⟩) (CR CX0 X.stack X.prog X.w G z Q E0) z := by
    have hb2 := hb z us I2.kIn (by rw [List.append_nil]; exact lu)
    rw [List.append_nil] at hb2
    refine run_ofS (N := Ng) (ps := ps) (us := us) (vs := vs) lk hcg Sg hr I2.env0 hb2 r lv fun hr' => ?_
    obtain ⟨t', ht', hq'⟩ := hbody z G vs Q kc q hr'
    exact ⟨t', ht'.nox, hq'⟩
  refine wpAny_call (codeAny_mono rc fun r z2 hq => ?_)
  match r, hq with
  | .error e, hq => exact (show False from hq).elim
  | .ok (.ret u), hq => exact I2.after hq
  | .ok .next, hq => exact hq.elim
  | .ok .brk, hq => exact hq.elim
  | .ok .cont, hq => exact hq.elim
/-- the lambda called in a block of its own frame -/
theorem pe_actB {ι : Type} (fam : ι → Lam) {bs : Scope} {ce : Env} {fp : List Addr} (I0 : Inv X pins σ H s) (f0 : ∀ b ∈ fp, FpOk X pins H b) {k i : Nat} {a : Str} {p1 p2 : Pos} (hr : Room (k + 1) X.A) (L : ∀ j, LamS X.env.scope (fam j).scope)
    (hbind : ∀ (j : ι) (q : Str) (cl : List (Str × Addr)) (pm cv ctv : Value), bindArgs (PySem.W.kla_fn "<lambda>" q (fam j).params (fam j).body (fam j).scope cl pm cv ctv) ⟨[], []⟩ = pure [])
    (hbody : ∀ (j : ι) (A : Around) (outer : List Env) (s : Shared) (H : Hp) (E : XK) (f c' : Addr), Room k (A.deeper (lamEnv X (fam j).scope s.heap.objs.size f c')) → PE (lamCx X A outer s H E (fam j).scope f c') (fam j).body ((fam j).t E))
    (hpass : Passes (L2.CX X.prog X.w) (X.blk s H bs ce fp) E0)
    (hN : X.N[i]? = some a) (hv : Vis (X.blk s H bs ce fp).env.scope a) (hd : (a == ("__debug__" : Str)) = false := by decide) (hcd : (a == ("__classdict__" : Str)) = false := by decide) :
    PE (X.blk s H bs ce fp) (.Call (.Name a p1) [] [] p2) (fun σZ HZ Q => ∃ (j : ι) (f c' : Addr), σZ[i]? = some (some (.ref f)) ∧ HZ f = some ((fam j).o X f c') ∧ HZ c' = some (CodeO c' (X.env.qual ++ "<lambda>")) ∧ (fam j).t E0 σ HZ Q) := by
  refine ⟨fun pinsZ sZ σZ HZ Q IZ ⟨j, f, c', slot, fo, code, ht⟩ => ?_⟩
  refine wpAny_Call_Name_kw (thn ((pe_var (X := X.blk s H bs ce fp) (pos := p1) (i := i) hN hv hd hcd).run pinsZ sZ σZ HZ (fun v G => v = .ref f ∧ G = HZ) IZ ⟨.ref f, slot, rfl, rfl⟩) fun u z1 ⟨v, G, I1, r1, ev, eG⟩ => ?_)
  subst ev
  rw [eG] at I1
  have eu : u = Value.ref f := r1
  subst eu
  obtain ⟨⟨pm, ctv, fn1⟩, _, _⟩ := I1.hok f _ fo
  refine PySem.W.callWith_F0 ⟨_, _, _, _, fn1⟩ ?_
  have un : Un (frs X.stack) fp H HZ s.heap z1.heap := I1.base
  obtain ⟨⟨oc, vs, t, hoc, hdc, hvc⟩, _, _⟩ := I1.hok c' _ code
  have kc : ∀ y c, X.env.cells.lookup y = some c → HZ c = none ∧ ∀ v, s.heap.IsCell c v → z1.heap.IsCell c v := cells_first I0 un (fun b hb => (f0 b hb).2.2.2.2.1)
  have rc : codeAny (model X.prog X.w) X.A (.call (.ref f) ⟨[], []⟩) (CR (L2.CX X.prog X.w) X.stack X.prog X.w HZ z1 Q E0) z1 := by
    refine PySem.W.kla_callFunE hr.depth fn1 rfl (L j).co (L j).gen rfl ⟨c', oc, vs, t, rfl, hoc, hdc, hvc⟩ ?_
    rw [hbind j]
    refine wpAny_pure (wpAny_newFunctionEnv (fun y hy => ((L j).own y hy).2) (fun y hy => absurd hy (by simp)) (fun g1 hns hsb => ⟨I1.nolimit.fresh _ hsb, ?_⟩) (L j).kind)
    show codeAny _ _ (.expr (fam j).body (lamEnv X (fam j).scope z1.heap.objs.size f c')) _ _
    have kp : ∀ b o, z1.heap.get? b = some o → g1.get? b = some o := fun b o e => hsb.extBut b o (Nat.ne_of_lt (Heap.lt_size e)) (Heap.get?_push_of_some _ e)
    have J := lam_start3 (f := f) (c' := c') (E := E0) (tk := z1.toks + ([] : List (Str × Value)).length) I0 (L j) I1.env0 hr.hd kc hns kp
    refine PySem.W.kla_codeExpr (wpAny_mono ((hbody j _ _ z1 HZ E0 f c' (hr.deeper _)).run [] _ _ HZ Q J ht) (fun v z' hq => ?_) fun _ _ hq => hq)
    obtain ⟨w', H', J', rv, q⟩ := hq
    exact ⟨w', H', J'.os, J'.bare, J'.base, J'.hok, rv, q⟩
  refine wpAny_call (codeAny_mono rc fun r z' hq => ?_)
  match r, hq with
  | .error e, hq => exact hpass _ _ _ _ e z' I1 hq
  | .ok (.ret u), hq => exact I1.after hq
  | .ok .next, hq => exact hq.elim
  | .ok .brk, hq => exact hq.elim
  | .ok .cont, hq => exact hq.elim
end
end LG
set_option Elab.async false
set_option linter.all false
set_option maxRecDepth 100000
set_option maxHeartbeats 1600000
/-! What is raised. -/
namespace LG
open PySem L2 LamX
/-- one look by told: an error of these is caught, with its value; or nothing is raised -/
theorem told_gen {K : PySem.W.Frag} {B : Addr} {T : List (Addr × Str)} {H : Hp} {Q : VK} {tl : XK → Hp → VK → Prop} (Bad : Addr → V → Prop) (Good : Prop) (box : ∀ C y, Bad C y → PySem.W.exmOne K (.ref C) (.ref B) = some true) (hT : Tabs T H)
    (run : ∀ (G : Hp) (E : XK) (R : VK), ExtN H G → (∀ C y d G', Bad C y → Same G G' → G' d = none → E (.ref C) (some d) (upd G' d (.xd (vf y)))) → (Good → ∀ v G', Same G G' → R v G') → tl E G R)
    (qb : ∀ (C : Addr) (y v : V) (p : Addr) (G : Hp), Bad C y → ExtN H G → Tabs T G → Caught G C v y → G p = some (.tup [v, .non]) → Q (.ref p) G)
    (qg : ∀ (v : V) (p : Addr) (G : Hp), Good → ExtN H G → Tabs T G → G p = some (.tup [.non, v]) → Q (.ref p) G) :
    Tabs T H ∧ ∀ H1, ExtN H H1 → Tabs T H1 → TTk K B tl H1 Q := by
  refine ⟨hT, fun H1 e1 T1 H2 E R s2 he hr => ?_⟩
  have e2 : ExtN H H2 := e1.trans (ExtN.of s2)
  have T2 : Tabs T H2 := T1.ext s2
  refine run H2 E R e2 (fun C y d G' bad sG nd => ?_) fun good v G' sG => ?_
  · have s3 := same_new nd (.xd (vf y))
    have hd : (upd G' d (.xd (vf y))) d = some (.xd (vf y)) := upd_same
    refine he _ _ _ (box C y bad) fun a na p np => ?_
    have s4 := same_new na (exq a (.ref C) (some d))
    have s5 := same_new np (.tup [.ref a, V.non])
    have s35 := ((sG.trans s3).trans s4).trans s5
    exact qb C y (.ref a) p _ bad (e2.trans (ExtN.of s35)) (T2.ext s35) ⟨a, d, rfl, s5 _ _ upd_same, (s4.trans s5) _ _ hd⟩ upd_same
  · refine hr _ _ fun p np => ?_
    have s5 := same_new np (.tup [V.non, v])
    exact qg v p _ good (e2.trans (ExtN.of (sG.trans s5))) (T2.ext (sG.trans s5)) upd_same
theorem ext_bt {p : Addr} {H H' : Hp} (np : H p = none) (e : BtR p H H') : ExtN H H' := fun b o h t => e b o h (fun z => by rw [z, np] at h; cases h) t
theorem all_tr (n : Nat) : ((List.replicate n true).all id) = true := by simp
theorem tabs_upd {T : List (Addr × Str)} {H : Hp} {a : Addr} {xs : List V} {o : HO} (h : H a = some (.lst xs)) (t : Tabs T H) : Tabs T (upd H a o) := by
  intro q hq
  obtain ⟨ps, t1, t2, t3⟩ := t q hq
  refine ⟨ps, by rw [upd_ne (fun z => by rw [z, h] at t1; cases t1)]; exact t1, t2, fun pos cv hc => ?_⟩
  obtain ⟨c, e1, e2⟩ := t3 pos cv hc
  exact ⟨c, e1, by rw [upd_ne (fun z => by rw [z, h] at e2; have e3 : HO.lst _ = HO.ext _ := Option.some.inj e2; cases e3)]; exact e2⟩
def forBody : Stmt → List Stmt
  | .For _ _ b _ _ => b
  | _ => []
def stValue : Stmt → Expr
  | .Assign _ v _ => v
  | .Expr v _ => v
  | _ => .Constant .none 0 ⟨0, 0, 0, 0⟩
def exItem : Expr → Expr
  | .List (e :: _) _ => e
  | .Call _ (e :: _) _ _ => e
  | e => e
def lmP : Expr → Arguments
  | .Lambda a _ _ _ => a
  | _ => default
def lmB : Expr → Expr
  | .Lambda _ b _ _ => b
  | e => e
def lmS (d : Scope) : Expr → Scope
  | .Lambda _ _ s _ => s
  | _ => d
theorem ne_self {a : V} : (!decide (a = a)) = false := by simp
theorem pt_imp {X : Cx} {e : Expr} {t t' : TT} (h : PT X e t) (w : ∀ σ H Q, t' σ H Q → t σ H Q) : PT X e t' := ⟨fun pins s σ H Q I q => h.run pins s σ H Q I (w σ H Q q)⟩
theorem PotAt.upd {G : Hp} {p r : Addr} {k : Nat} {o : HO} (h : PotAt G p k) (ne : r ≠ p) : PotAt (upd G r o) p k := by
  obtain ⟨own, sm, n, e1, e2⟩ := h
  exact ⟨own, sm, n, by rw [upd_ne (Ne.symm ne)]; exact e1, e2⟩
theorem TTk.held {K : PySem.W.Frag} {B : Addr} (tl : XK → Hp → VK → Prop) (o : HO) (f : Addr) (G : Hp) (Q : VK) (h : G f = some o) (t : TTk K B tl G Q) : TTk K B (fun E G' R => G' f = some o ∧ tl E G' R) G Q :=
  fun H1 E R s he hr => ⟨s _ _ h, t H1 E R s he hr⟩
theorem caught_upd {H : Hp} {C a : Addr} {v y : V} {xs : List V} {o : HO} (h : H a = some (.lst xs)) (c : Caught H C v y) : Caught (upd H a o) C v y := by
  obtain ⟨b, d, e, er⟩ := c
  refine ⟨b, d, e, ?_, ?_⟩
  · rw [upd_ne (fun z => by
      have q := er.ob
      rw [z, h] at q
      have q2 : HO.lst _ = HO.ext _ := Option.some.inj q
      cases q2)]
    exact er.ob
  · rw [upd_ne (fun z => by
      have q := er.dc
      rw [z, h] at q
      cases q)]
    exact er.dc
theorem isi_str {K : PySem.W.Frag} {H : Hp} {v : V} {n : Nat} (g : Gx K n H v) : ∃ t b, TyX K H v t ∧ PySem.W.kitOne K t (.type "str") = some b ∧ ((b = true ∧ ∃ z, v = .str z) ∨ (b = false ∧ ∀ z, v ≠ .str z)) := by
  rcases g.ty with ⟨z, e, ty⟩ | ⟨T0, hT, ne, ty, no⟩
  · exact ⟨_, true, ty, kit_self, .inl ⟨rfl, z, e⟩⟩
  · exact ⟨_, false, ty, kit_nostr T0 hT ne, .inr ⟨rfl, no⟩⟩
theorem app_step {F G : Hp} {T : List (Addr × Str)} {l : Addr} {xs ys : List V} (nw : ∀ o', F l = some o' → ∃ ps, o' = .tbl ps) (e : ExtN F G) (hl : G l = some (.lst xs)) (t : Tabs T G) :
    ExtN F (upd G l (.lst ys)) ∧ Tabs T (upd G l (.lst ys)) ∧ (upd G l (.lst ys)) l = some (.lst ys) ∧ ∀ b o, G b = some o → (∀ zs, o ≠ .lst zs) → (upd G l (.lst ys)) b = some o := by
  refine ⟨fun b' o' h nt => ?_, tabs_upd hl t, upd_same, fun b o h n => ?_⟩
  · by_cases z : b' = l
    · rw [z] at h
      obtain ⟨ps, e'⟩ := nw o' h
      exact absurd e' (nt ps)
    · rw [upd_ne z]
      exact e _ _ h nt
  · rw [upd_ne (fun z => by rw [z, hl] at h; exact n _ (Option.some.inj h).symm)]
    exact h
theorem new_tbl {F G : Hp} {l : Addr} (e : ExtN F G) (n : G l = none) : ∀ o', F l = some o' → ∃ ps, o' = .tbl ps := fun o' h => by
  by_cases z : ∃ ps, o' = .tbl ps
  · exact z
  · have := e _ _ h (fun ps y => z ⟨ps, y⟩)
    rw [n] at this
    cases this
theorem notlst_ext {w : Heap → Prop} : ∀ zs, (HO.ext w) ≠ .lst zs := fun zs z => by cases z
theorem TTk.mono {K : PySem.W.Frag} {B : Addr} {tl : XK → Hp → VK → Prop} {G : Hp} {Q Q' : VK} (t : TTk K B tl G Q) (w : ∀ v G, Q v G → Q' v G) : TTk K B tl G Q' :=
  fun H1 E R s he hr => t H1 E R s (fun cls d H' e q => he cls d H' e fun a na p np => w _ _ (q a na p np)) fun v H' q => hr v H' fun p np => w _ _ (q p np)
end LG
namespace K56
open PySem L2 LG LamX
section
variable {P : Program} {w : World} {K : PySem.W.Frag} {mg : Str → Option Value} {base : Heap} {fI CL B : Addr}
def spIsOf (CL : Addr) : Sp := fun vs H Q _ => ∃ (cv v : V), vs = [cv, .str "log"] ∧ Caught H CL cv v ∧ ∀ G, Same H G → Q (.bl true) G
abbrev nIo : List Str := ["_law_caught", "_law_kind"]
theorem scIo : FnScope nIo nIo (defScope sIsOf) := ⟨rfl, rfl, rfl, by decide +kernel, rfl, by decide +kernel, by decide +kernel⟩
theorem ok_isof {f : Addr} {fd : FuncData} (F : Fun K "_law_is_of" "_law_is_of" sIsOf f fd) (T : Bltn mg) (dsc : ClsD K) (es : EQl K mg fI B "BadLog" CL) : FnOk P w K mg base CX0 1 f fd nIo (spIsOf CL) := by
  refine F.ok scIo (fun vs H Q E h => ?_) (fun cdv A0 outer st H vs Q E hr h => ?_)
  · obtain ⟨cv, v, rfl, _⟩ := h
    rfl
  obtain ⟨cv, v, rfl, ⟨a, d, rfl, er⟩, q⟩ := h
  have hu := hu_of hr
  refine' ⟨_, pss_one (ps_ret (pe_dget hu (pe_disp (pps_cons pe_str (pe_callB (call_isErrQ dsc) rfl T.isinstance (by decide +kernel) (pa_cons (pv 0) (pa_cons (pe_glob (v := .ref CL) rfl es.ec.mg rfl) pa_nil))) pps_nil) (by rfl) (by rfl) (fun z => by cases z) (by show 1 ≤ 15; decide)) (pv 1) (fun _ _ => rfl))), ?main⟩
  case main =>
    intro p np
    have s1 := same_new np (.dK [])
    refine ⟨_, rfl, a, CL, d, _, _, _, true, rfl, .own CL, es.ec.er, er.ext (ExtN.of s1), kit_self, upd_same, [(.inr ("log" : Str), .bl true)], rfl, (by show 1 ≤ 15; decide), ?_⟩
    have em : mergeK [] [((.inr ("log" : Str) : Key), V.bl true)] = [(.inr ("log" : Str), .bl true)] := by rfl
    rw [upd_upd, em]
    have s2 := same_new np (.dK [((.inr ("log" : Str) : Key), V.bl true)])
    exact ⟨_, rfl, p, _, rfl, DGet.k (k := Sum.inr ("log" : Str)) upd_same, q _ s2⟩
/-- what the frame's lambda, handed to `_law_is_raised`, must bring about -/
def spRz (K : PySem.W.Frag) (B CL : Addr) {ι : Type} (X : Cx) (fam : ι → Lam) (σ : L2.St) : List V → Hp → VK → Prop := fun vs G Q => ∃ (j : ι) (f c' : Addr) (v : V), vs = [.ref f, .str "log", v] ∧ G f = some ((fam j).o X f c') ∧ G c' = some (CodeO c' (X.env.qual ++ "<lambda>")) ∧
  TTk K B (fun E G' R => (fam j).t E σ G' R) G (fun u Gz => ∃ (cv w2 : V) (pp : Addr), u = .ref pp ∧ Gz pp = some (.tup [cv, w2]) ∧ Caught Gz CL cv v ∧ Gx K 3 Gz v ∧ ∀ G2, Same Gz G2 → Q (.bl true) G2)
abbrev nRz : List Str := ["_law_look", "_law_kind", "_law_value", "_law_caught"]
theorem scRz : FnScope nRz ["_law_look", "_law_kind", "_law_value"] (defScope sRaised) := ⟨rfl, rfl, rfl, by decide +kernel, rfl, by decide +kernel, by decide +kernel⟩
structure KitZ (P : Program) (w : World) (K : PySem.W.Frag) (mg : Str → Option Value) (base : Heap) (fI CL B : Addr) : Prop where
  isof : ∃ g gd, FnOk P w K mg base CX0 1 g gd nIo (spIsOf CL) ∧ mg "_law_is_of" = some (.ref g) ∧ PySem.W.keepIn K (.ref g) = true ∧ L2.Binds K gd nIo []
  told : ∃ (g : Addr) (kV dc pm cd ct oc : Value) (an od : Option Addr) (sl : Array (Option Value)), mg "_law_heard_of" = some (.ref g) ∧ PySem.W.keepIn K (.ref g) = true ∧ K.lookup g = some ⟨oc, od, .func (PySem.W.fnOf "_law_heard_of" "_law_heard_of" (defArgs sTold) (defBody sTold) (defScope sTold) .none kV dc pm an cd ct), sl⟩ ∧
    PySem.W.codeIn K cd "_law_heard_of" = true ∧ L2.Binds K (PySem.W.fnOf "_law_heard_of" "_law_heard_of" (defArgs sTold) (defBody sTold) (defScope sTold) .none kV dc pm an cd ct) ["_law_look"] []
  box : mg "BoxError" = some (.ref B)
  es : EQl K mg fI B "BadLog" CL
  dsc : ClsD K
theorem raised_goes {ι : Type} (fam : ι → Lam) {X : Cx} {k : Nat} (T : Bltn X.mg) (Z : KitZ X.prog X.w X.K X.mg X.base fI CL B) {pins : List (Addr × Obj)} {σ : L2.St} {H : Hp} {s : Shared} (I0 : Inv X pins σ H s) {g : Addr} {cdv : Value} {z : Shared} {G : Hp} {vs : List V} {Q : VK} (kc : CellsOn X s.heap G z.heap)
    (hG : X.A.guards = some []) (h : spRz X.K B CL X fam σ vs G Q) (hr : Room (k + 2) (X.A.deeper (PyProof.Rows.envOfC "_law_is_raised" (defScope sRaised) z.heap.objs.size g cdv)))
    (L : ∀ j, LamS X.env.scope (fam j).scope) (hbind : ∀ (j : ι) (q : Str) (cl : List (Str × Addr)) (pm cv ctv : Value), bindArgs (PySem.W.kla_fn "<lambda>" q (fam j).params (fam j).body (fam j).scope cl pm cv ctv) ⟨[], []⟩ = pure [])
    (hbody : ∀ (j : ι) (A : Around) (outer : List Env) (s : Shared) (H : Hp) (E : XK) (f c' : Addr), Room k (A.deeper (lamEnv X (fam j).scope s.heap.objs.size f c')) → PE (lamCx X A outer s H E (fam j).scope f c') (fam j).body ((fam j).t E)) :
    ∃ t, PSs (cxOf CX0 X.prog X.w X.K X.mg X.base nRz "_law_is_raised" (defScope sRaised) g cdv X.A X.stack z G E0).nox (defBody sRaised) t ∧ t { nx := fun _ H' => Q .non H', rt := Q } (L2.start nRz vs) G := by
  obtain ⟨gi, gid, GI, mI, kI, bI⟩ := Z.isof
  obtain ⟨gt, kVt, dct, pmt, cdt, ctt, oct, ant, odt, slt, mT, kT_, lT, cT, bT⟩ := Z.told
  obtain ⟨j, f, c', v, rfl, fo, co, tt⟩ := h
  have r1 : Room 1 _ := hr.mono (by omega)
  have hu := hr.units
  refine' ⟨_, pss_cons (ps_set (i := 3) scRz.nd rfl (Or.inl rfl) (pe_ix ix_tup (pe_toldw (X := X) fam I0 rfl kc (Ng := nT) (TT := TTk X.K B) rfl mT kT_ lT cT bT scTold rfl (Or.inl rfl) (told_gives Z.box) TTk.held hr L hbind hbody (pv 0)) pe_int (fun _ _ => rfl)))
    (pss_one (ps_ret (pe_and (pe_call GI r1 rfl mI kI bI .nil pass0 (pa_cons (pv 3) (pa_cons (pv 1) pa_nil))) (pe_one (pe_cmpR op_eq (pe_callB (call_repr hG hu) rfl T.repr (by decide +kernel) (pa_cons (pe_errq (pv 3)) pa_nil)) (pe_callB (call_repr hG hu) rfl T.repr (by decide +kernel) (pa_cons (pv 2) pa_nil)) (nomark _)))))), ?main⟩
  case main =>
    refine ⟨_, rfl, j, f, c', rfl, fo, co, tt.mono fun u Gz ⟨cv, w2, pp, eu, hpp, cg, gx, q⟩ => ?_⟩
    subst eu
    refine ⟨pp, _, 0, _, rfl, rfl, .inl (.inl hpp), rfl, ?_⟩
    refine ⟨_, rfl, _, rfl, cv, v, rfl, cg, fun G2 s2 => ?_⟩
    obtain ⟨a, d, rfl, er⟩ := cg
    have er2 := er.ext (ExtN.of s2)
    obtain ⟨dv, hdv, sdv⟩ := gx.same s2
    refine ⟨true, rfl, iteT ⟨_, rfl, a, CL, d, _, _, rfl, Z.es.ec.er, Z.es.ec.no, er2, vf_get _, _, dv, 3, rfl, hdv, by decide, sdv, signs3, _, rfl, _, dv, 3, rfl, hdv, by decide, sdv, signs3, rfl, ?_⟩⟩
    have e1 : (V.bl (decide (V.str dv.shown = V.str dv.shown))) = V.bl true := by simp
    rw [e1]
    exact q G2 s2
end
end K56
set_option Elab.async false
set_option linter.all false
set_option maxRecDepth 100000
set_option maxHeartbeats 4000000
/-! What is due. -/
namespace LG
open PySem L2 LamX
theorem WatOwn.ext {H H' : Hp} {o : Addr} {W : Wat} (e : ExtN H H') (h : WatOwn H o W) : WatOwn H' o W := by
  obtain ⟨c, a, m, r, h1, h2, h3, h4, h5⟩ := h
  exact ⟨c, a, m, r, e _ _ h1 (fun ps z => by cases z), e _ _ h2 (fun ps z => by cases z), e _ _ h3 (fun ps z => by cases z), e _ _ h4 (fun ps z => by cases z), e _ _ h5 (fun ps z => by cases z)⟩
theorem two_shaped {a b : Str} (h1 : ∀ c ∈ TL.tl a, c < 128) (h2 : ∀ c ∈ TL.tl b, c < 128) : SeqAt.shaped (.list [.str a, .str b]) = true := by
  have s1 := name_strOk h1
  have s2 := name_strOk h2
  unfold SeqAt.shaped
  simp only [PyData.canLay0, PyData.canLayAll0, PyData.depth, PyData.depthAll] at s1 s2 ⊢
  rw [s1, s2]
  rfl
theorem two_eqv {a b : Str} : PyData.eqv (.list [.str a, .str b]) (.list [.str a, .str b]) = true := by
  simp [PyData.eqv, PyData.eqvAll]
theorem pairs_inj : ∀ {a b : List (Str × Str)}, a.map pairD = b.map pairD → a = b
  | [], [], _ => rfl
  | [], _ :: _, h => by cases h
  | _ :: _, [], h => by cases h
  | x :: r, y :: s, h => by
    rw [List.map_cons, List.map_cons] at h
    obtain ⟨h1, h2⟩ := List.cons.inj h
    obtain ⟨x1, x2⟩ := x
    obtain ⟨y1, y2⟩ := y
    cases h1
    rw [pairs_inj h2]
theorem mark_asc {W : Wat} (d : DrawnW W) {m : Str} (h : m ∈ W.marks ++ [BRK]) : ∀ c ∈ TL.tl m, c < 128 := by
  rcases List.mem_append.mp h with h | h
  · exact name_asc (d.mw _ h)
  · rw [List.mem_singleton.mp h]
    exact name_asc brk_name
theorem word_asc {W : Wat} {m : Str} : ∀ c ∈ TL.tl (wordW W m), c < 128 := by
  unfold wordW
  split
  · decide +kernel
  · split
    · decide +kernel
    · decide +kernel
end LG
namespace K56
open PySem L2 LG LamX
section
variable {P : Program} {w : World} {K : PySem.W.Frag} {mg : Str → Option Value} {base : Heap}
abbrev qDu : Str := "_law_is_due" ++ ".<locals>." ++ "<lambda>"
abbrev tTab (P1 : Addr) : List (Addr × Str) := [(P1, qDu)]
abbrev nDu : List Str := ["_law_made", "_law_watch_here", "_law_device", "_law_value", "_law_looks", "_law_mark", "_law_word", "_law_look"]
abbrev psDu : List Str := ["_law_made", "_law_watch_here", "_law_device", "_law_value"]
theorem scDu : FnScope nDu psDu (defScope sDue) := ⟨rfl, rfl, rfl, by decide +kernel, rfl, by decide +kernel, by decide +kernel⟩
abbrev dLam1 : Expr := exItem (stValue ((defBody sDue).getD 0 (.Pass ⟨0, 0, 0, 0⟩)))
abbrev dLam2 : Expr := exItem (stValue ((defBody sDue).getD 1 (.Pass ⟨0, 0, 0, 0⟩)))
abbrev cxR (P : Program) (w : World) (K : PySem.W.Frag) (mg : Str → Option Value) (base : Heap) (f c : Addr) (A : Around) (outer : List Env) (s : Shared) (H : Hp) : Cx := (cxOf CX0 P w K mg base nDu "_law_is_due" (defScope sDue) f (.ref c) A outer s H E0).nox
inductive Two where
  | a
  | b
def famD (K : PySem.W.Frag) (C CL : Addr) : Two → Lam
  | .a => ⟨lmP dLam1, lmB dLam1, lmS (defScope sDue) dLam1, fun E => tMeth C "behind" (spBehind K C CL) [] E (tVar 0) (tCons (tVar 3) tNil)⟩
  | .b => ⟨lmP dLam2, lmB dLam2, lmS (defScope sDue) dLam2, fun E => tCall (spVerdict K C CL) [] E (tCons (tVar 0) (tCons (tVar 3) tNil))⟩
def spDue (K : PySem.W.Frag) (C P1 : Addr) : Sp := fun vs H Q _ => ∃ (x ow o : Addr) (v : V) (T : Str) (W : Wat) (D : Dev), vs = [.ref x, .ref ow, .ref o, v] ∧ Tabs (tTab P1) H ∧ DevAt K H x C T W ∧ DrawnW W ∧ WatOwn H ow W ∧ OwnAt K H o D ∧ W.calls = D.calls ∧ W.answers = D.answers ∧ Gx K 3 H v ∧
  ∀ H', Tabs (tTab P1) H' → ExtN H H' → Q (.bl true) H'
structure KitU (P : Program) (w : World) (K : PySem.W.Frag) (mg : Str → Option Value) (base : Heap) (fI C CL B : Addr) : Prop where
  z : KitZ P w K mg base fI CL B
  isl : ∃ g gd, FnOk P w K mg base CX0 1 g gd ["_law_device", "_law_value"] (spIsLog K) ∧ mg "_law_is_log" = some (.ref g) ∧ PySem.W.keepIn K (.ref g) = true ∧ L2.Binds K gd ["_law_device", "_law_value"] []
  behind : ∃ g gd, FnOk P w K mg base (L2.CX P w) 4 g gd ["self", "log"] (spBehind K C CL) ∧ Meth K C "behind" g ∧ L2.Binds K gd ["self", "log"] []
  verdict : ∃ g gd, FnOk P w K mg base (L2.CX P w) 5 g gd ["watch", "log"] (spVerdict K C CL) ∧ mg "verdict" = some (.ref g) ∧ PySem.W.keepIn K (.ref g) = true ∧ L2.Binds K gd ["watch", "log"] []
  logged : ∃ g gd, FnOk P w K mg base CX0 2 g gd ["_law_watch_here", "_law_log_here"] (spLogged K) ∧ mg "_law_logged" = some (.ref g) ∧ PySem.W.keepIn K (.ref g) = true ∧ L2.Binds K gd ["_law_watch_here", "_law_log_here"] []
  safe : ∃ g gd, FnOk P w K mg base CX0 1 g gd ["_law_watch_here"] (spSafeL K) ∧ mg "_law_safe" = some (.ref g) ∧ PySem.W.keepIn K (.ref g) = true ∧ L2.Binds K gd ["_law_watch_here"] []
  raised : ∃ (g : Addr) (kV dc pm cd ct oc : Value) (an od : Option Addr) (sl : Array (Option Value)), mg "_law_is_raised" = some (.ref g) ∧ PySem.W.keepIn K (.ref g) = true ∧ K.lookup g = some ⟨oc, od, .func (PySem.W.fnOf "_law_is_raised" "_law_is_raised" (defArgs sRaised) (defBody sRaised) (defScope sRaised) .none kV dc pm an cd ct), sl⟩ ∧
    PySem.W.codeIn K cd "_law_is_raised" = true ∧ L2.Binds K (PySem.W.fnOf "_law_is_raised" "_law_is_raised" (defArgs sRaised) (defBody sRaised) (defScope sRaised) .none kV dc pm an cd ct) ["_law_look", "_law_kind", "_law_value"] []
  dev : DevCl K mg C
theorem ok_due {f c P1 fI C CL B : Addr} {oc kV doc pm ct : Value} {od an : Option Addr} {osl : Array (Option Value)} (T : Bltn mg) (Z : KitU P w K mg base fI C CL B)
    (lk : K.lookup f = some ⟨oc, od, .func (PySem.W.fnOf "_law_is_due" "_law_is_due" (defArgs sDue) (defBody sDue) (defScope sDue) .none kV doc pm an (.ref c) ct), osl⟩) (hcd : PySem.W.codeIn K (.ref c) "_law_is_due" = true) (TB : TabB base mg c P1) :
    GnOk P w K mg base 9 f (PySem.W.fnOf "_law_is_due" "_law_is_due" (defArgs sDue) (defBody sDue) (defScope sDue) .none kV doc pm an (.ref c) ct) psDu (spDue K C P1) := by
  obtain ⟨gi, gid, GI, mI, kI, bI⟩ := Z.isl
  obtain ⟨gb, gbd, GB, MB, bB⟩ := Z.behind
  obtain ⟨gv, gvd, GV, mV, kV_, bV⟩ := Z.verdict
  obtain ⟨gl, gld, GL, mL, kL, bL⟩ := Z.logged
  obtain ⟨gs, gsd, GS, mS, kS, bS⟩ := Z.safe
  obtain ⟨gr, kVr, dcr, pmr, cdr, ctr, ocr, anr, odr, slr, mR, kR, lR, cR, bR⟩ := Z.raised
  refine gn_ofL lk hcd scDu (fun vs H Q E h => ?_) (fun A0 outer s H vs Q hG hr h => ?_)
  · obtain ⟨x, ow, o, v, T, W, D, rfl, _⟩ := h
    rfl
  obtain ⟨x, ow, o, v, T', W, D, rfl, hT, hD, dr, hW, hO, ec, ea, gv0, q⟩ := h
  have r1 : Room 1 _ := hr.mono (by decide)
  have r2 : Room 2 _ := hr.mono (by decide)
  have r6 : Room 6 _ := hr.mono (by decide)
  have hu := hu_of hr
  have hmT : ((P1, qDu) : Addr × Str) ∈ tTab P1 := List.mem_cons_self
  have huT : ∀ q ∈ tTab P1, q.1 = P1 → q.2 = qDu := by
    intro q hq e
    rw [List.mem_singleton.mp hq]
  have famL : ∀ j, LamS (cxR P w K mg base f c A0 outer s H).env.scope (famD K C CL j).scope := by
    intro j
    cases j
    · exact lamS_by (by show lamSB (defScope sDue) (lmS (defScope sDue) dLam1) = true; decide +kernel)
    · exact lamS_by (by show lamSB (defScope sDue) (lmS (defScope sDue) dLam2) = true; decide +kernel)
  have famB : ∀ (j : Two) (q : Str) (cl : List (Str × Addr)) (pm cv ctv : Value), bindArgs (PySem.W.kla_fn "<lambda>" q (famD K C CL j).params (famD K C CL j).body (famD K C CL j).scope cl pm cv ctv) ⟨[], []⟩ = pure [] := by
    intro j q cl pm cv ctv
    cases j
    all_goals rfl
  have famO : ∀ (j : Two) (A : Around) (outer' : List Env) (s' : Shared) (H' : Hp) (E : XK) (f' c' : Addr), Room 5 (A.deeper (lamEnv (cxR P w K mg base f c A0 outer s H) (famD K C CL j).scope s'.heap.objs.size f' c')) →
      PE (lamCx (cxR P w K mg base f c A0 outer s H) A outer' s' H' E (famD K C CL j).scope f' c') (famD K C CL j).body ((famD K C CL j).t E) := by
    intro j A outer' s' H' E f' c' hr4
    cases j
    · exact pe_meth (pv 0) Z.dev.cl MB GB (hr4.mono (by decide)) bB .nil (by exact passes_call (takes_of (E := E) rfl rfl rfl rfl) (fun _ _ _ _ h => h)) (pa_cons (pv 3) pa_nil)
    · exact pe_call GV hr4 (by rfl) mV kV_ bV .nil (by exact passes_call (takes_of (E := E) rfl rfl rfl rfl) (fun _ _ _ _ h => h)) (pa_cons (pv 0) (pa_cons (pv 3) pa_nil))
  refine' ⟨_, pss_cons ?mk1 (pss_cons ?mk2 (pss_cons (ps_if (pt_not (pt_val (pe_call GI r1 rfl mI kI bI .nil pass0 (pa_cons (pv 2) (pa_cons (pv 3) pa_nil))))) (pss_one (ps_ret ?bad)) pss_nil)
    (pss_cons (ps_set (i := 5) scDu.nd rfl (Or.inl rfl) (pe_call GL r2 rfl mL kL bL .nil pass0 (pa_cons (pv 1) (pa_cons (pv 3) pa_nil))))
    (pss_cons (ps_set (i := 6) scDu.nd rfl (Or.inl rfl) (pe_ifExp (pt_cmpR op_eq (pv 5) pe_str (nomark _)) pe_str (pe_ifExp (pt_cmpR op_in_txt (pv 5) (pe_call GS r1 rfl mS kS bS .nil pass0 (pa_cons (pv 1) pa_nil)) (by rfl)) pe_str pe_str)))
    (pss_imp (t' := fun Ds σ G => ∃ (lw f1 c1 f2 c2 : Addr) (st : List (Str × Str)), σ = [some (.ref x), some (.ref ow), some (.ref o), some v, some (.ref lw), some (.str (loggedW W (W.marks.headD Str.empty) st)), some (.str (wordW W (loggedW W (W.marks.headD Str.empty) st))), none] ∧ Dx K G v (.tuple (st.map pairD)) ∧ isLogD W.calls W.answers (.tuple (st.map pairD)) = true ∧ DevAt K G x C T' W ∧ Tabs (tTab P1) G ∧
        G lw = some (.lst [.ref f1, .ref f2]) ∧ G f1 = some ((famD K C CL .a).o (cxR P w K mg base f c A0 outer s H) f1 c1) ∧ G c1 = some (CodeO c1 qDu) ∧ G f2 = some ((famD K C CL .b).o (cxR P w K mg base f c A0 outer s H) f2 c2) ∧ G c2 = some (CodeO c2 qDu) ∧ ∀ G', Same G G' → Ds.rt (.bl true) G')
      (pss_one (ps_ret (pe_cmpR (op_eqD hr.units) ?good (pe_lst (pa_cons (pv 5) (pa_cons (pv 6) pa_nil))) (nomark _)))) ?fin))))), ?main⟩
  case mk1 =>
    exact ps_set (i := 4) scDu.nd rfl (Or.inl rfl) (pe_lst (pa_cons (pe_lamv (params := lmP dLam1) (body := lmB dLam1) (scope := lmS (defScope sDue) dLam1) TB rfl hmT huT (lamS_by (by show lamSB (defScope sDue) _ = true; decide +kernel)) (by rfl)) pa_nil))
  case mk2 =>
    exact ps_expr (pe_bm PySem.F.plainAttrs_list PySem.F.slot_list_append PySem.F.type_list_append mt_append (pv 4) (pa_cons (pe_lamv (params := lmP dLam2) (body := lmB dLam2) (scope := lmS (defScope sDue) dLam2) TB rfl hmT huT (lamS_by (by show lamSB (defScope sDue) _ = true; decide +kernel)) (by rfl)) pa_nil))
  case bad =>
    exact pe_callB (cr_all rfl) rfl T.all (by decide +kernel) (pa_cons (pe_lcS (te := fun σ0 => fun σ' H' Q => tCons (tVar 7) (tCons (tC (.str "log")) (tCons (tVar 3) tNil)) σ' H' fun vs G => spRz K B CL (cxR P w K mg base f c A0 outer s H) (famD K C CL) σ0 vs G Q) (own := [("_law_look", 7)]) (g := gName 7) (tt := tYes) rfl scDu.nd (pi_list (pv 4)) (blkOk_by (own := [("_law_look", 7)]) (N := nDu) (sc := defScope sDue) (by decide +kernel))
      (fun _ _ _ _ _ => pg_name (i := 7) scDu.nd rfl (Or.inl rfl)) (fun _ _ _ _ _ => pts_nil)
      (fun pins σ s1 H1 C' cl fp I0 f0 => by exact pe_callD I0 f0 (k := 7) (sp := spRz K B CL (cxR P w K mg base f c A0 outer s H) (famD K C CL) σ) rfl mR kR lR cR bR scRz hr (fun vs G Q h => by obtain ⟨_, _, _, _, rfl, _⟩ := h; rfl) (fun z G vs Q kc h hr' => raised_goes (famD K C CL) T Z.z I0 kc hG h hr' famL famB famO) (pa_cons (pv 7) (pa_cons pe_str (pa_cons (pv 3) pa_nil))))) pa_nil)
  case good =>
    exact pe_lcS (te := fun σ0 => fun σ' H' Q => ∃ (j : Two) (f' c' : Addr), σ'[7]? = some (some (.ref f')) ∧ H' f' = some ((famD K C CL j).o (cxR P w K mg base f c A0 outer s H) f' c') ∧ H' c' = some (CodeO c' qDu) ∧ (famD K C CL j).t E0 σ0 H' Q) (own := [("_law_look", 7)]) (g := gName 7) (tt := tYes) rfl scDu.nd (pi_list (pv 4)) (blkOk_by (own := [("_law_look", 7)]) (N := nDu) (sc := defScope sDue) (by decide +kernel))
      (fun _ _ _ _ _ => pg_name (i := 7) scDu.nd rfl (Or.inl rfl)) (fun _ _ _ _ _ => pts_nil)
      (fun pins σ s1 H1 C' cl fp I0 f0 => by exact pe_actB (famD K C CL) I0 f0 (k := 5) r6 famL famB famO passF rfl (Or.inl rfl))
  case fin =>
    rintro Ds σ G ⟨lw, f1, c1, f2, c2, st, rfl, hdG, eW, dG, tG, hwG, hf1, hc1, hf2, hc2, q⟩
    have mm := logged_mem dr st (head_mem dr)
    have mA := mark_asc dr mm
    refine ⟨_, rfl, lw, rfl, ⟨_, SqL.of hwG⟩, fun DL nDL => ?_⟩
    refine loop_it (walk_list (xs := [V.ref f1, V.ref f2])) (fun j Fz => Same G Fz ∧ Fz DL = some (.lst ([V.str (loggedW W (W.marks.headD Str.empty) st), .str (wordW W (loggedW W (W.marks.headD Str.empty) st))].take j))) ⟨same_new nDL _, upd_same⟩ (fun j Fz _ ⟨e6, _⟩ => SqL.of (e6 _ _ hwG)) ?_ ?_
    · rintro j y F6 F7 hj ⟨e6, d6⟩ ⟨rfl, hy⟩
      refine ⟨rfl, ?_⟩
      have hj2 : j < 2 := hj
      have dz := dG.same e6
      have hdz := Dx_same e6 hdG
      obtain ⟨dx, _, _, _, _, hx, _⟩ := id dz
      match j, hj2, hy, d6 with
      | 0, _, hy, d6 =>
        obtain rfl := (Option.some.inj hy).symm
        refine ⟨.a, f1, c1, rfl, e6 _ _ hf1, e6 _ _ hc1, _, rfl, x, dx, _, rfl, hx, rfl, _, rfl, x, v, _, T', W, rfl, dz, dr.m1.1, hdz, (fun z => by rw [eW] at z; cases z), fun st' e1 e2 G' s' => ?_⟩
        have es : st = st' := pairs_inj (PyData.tuple.inj e1)
        subst es
        exact ⟨_, s' _ _ d6, by show 0 < sizeLine; decide, same_upd_new (e6.trans s') nDL, upd_same⟩
      | 1, _, hy, d6 =>
        obtain rfl := (Option.some.inj hy).symm
        refine ⟨.b, f2, c2, rfl, e6 _ _ hf2, e6 _ _ hc2, _, rfl, _, rfl, x, v, _, T', W, rfl, dz, dr, hdz, (fun z => by rw [eW] at z; cases z), fun st' e1 e2 G' s' => ?_⟩
        have es : st = st' := pairs_inj (PyData.tuple.inj e1)
        subst es
        exact ⟨_, s' _ _ d6, by show 1 < sizeLine; decide, same_upd_new (e6.trans s') nDL, upd_same⟩
    · rintro Fz ⟨e6, d6⟩
      refine ⟨_, rfl, _, rfl, (by show 2 ≤ sizeLine; decide), fun l2 nl2 => ?_⟩
      have s2 := same_new nl2 (.lst [V.str (loggedW W (W.marks.headD Str.empty) st), .str (wordW W (loggedW W (W.marks.headD Str.empty) st))])
      refine ⟨.list [.str (loggedW W (W.marks.headD Str.empty) st), .str (wordW W (loggedW W (W.marks.headD Str.empty) st))], .list [.str (loggedW W (W.marks.headD Str.empty) st), .str (wordW W (loggedW W (W.marks.headD Str.empty) st))], .lst (SqL.of (s2 _ _ d6)) (.cons (.str _) (.cons (.str _) .nil)), .lst (SqL.of upd_same) (.cons (.str _) (.cons (.str _) .nil)), two_shaped mA word_asc, two_shaped mA word_asc, ?_⟩
      rw [two_eqv]
      exact q _ (e6.trans s2)
  case main =>
    obtain ⟨d, hd, sd⟩ := gv0
    refine ⟨hT, fun f1 c1 G5 e5 t5 nf1 hf1 hc1 => ⟨(by show 1 ≤ sizeLine; decide), fun lw nlw => ?_⟩⟩
    have nwF := new_tbl e5 nlw
    have u6 := same_new nlw (.lst [V.ref f1])
    have e6 := e5.trans (ExtN.of u6)
    have t6 := t5.ext u6
    have hw6 : (upd G5 lw (.lst [V.ref f1])) lw = some (.lst [V.ref f1]) := upd_same
    have hf1 := u6 _ _ hf1
    have hc1 := u6 _ _ hc1
    show _
    generalize upd G5 lw (.lst [V.ref f1]) = G6 at e6 t6 hw6 hf1 hc1 ⊢
    clear u6 e5 t5
    refine ⟨_, rfl, .inl ⟨rfl, _, SqL.of hw6⟩, t6, fun f2 c2 G7 e7 t7 nf2 hf2 hc2 => ⟨lw, _, _, rfl, rfl, e7 _ _ hw6 (fun ps z => by cases z), (by show 1 + 1 ≤ sizeLine; decide), ?_⟩⟩
    obtain ⟨e8, t8, hw8, st8⟩ := app_step (ys := [V.ref f1] ++ [V.ref f2]) nwF (e6.trans e7) (e7 _ _ hw6 (fun ps z => by cases z)) t7
    have hf1 := st8 _ _ (e7 _ _ hf1 (Lam.o_tbl (famD K C CL .a) (cxR P w K mg base f c A0 outer s H) f1 c1)) (fun xs z => by
      have z' : HO.ext _ = HO.lst xs := z
      cases z')
    have hc1 := st8 _ _ (e7 _ _ hc1 codeO_ne) (fun xs z => by
      have z' : HO.ext _ = HO.lst xs := z
      cases z')
    have hf2 := st8 _ _ hf2 (fun xs z => by
      have z' : HO.ext _ = HO.lst xs := z
      cases z')
    have hc2 := st8 _ _ hc2 (fun xs z => by
      have z' : HO.ext _ = HO.lst xs := z
      cases z')
    clear st8
    show _
    generalize upd G7 lw (.lst ([V.ref f1] ++ [V.ref f2])) = G8 at e8 t8 hw8 hf1 hc1 hf2 hc2 ⊢
    clear e6 t6 hw6 e7 t7
    have dz := hD.ext e8
    have hWz := hW.ext e8
    have hOz := hO.ext e8
    have hdz : Dx K G8 v d := hd.ext e8
    refine ⟨_, rfl, _, rfl, o, v, d, D, rfl, hOz, hdz, fun G sG => ⟨_, rfl, ?_⟩⟩
    have eG := e8.trans (ExtN.of sG)
    have tG := t8.ext sG
    have hwG := sG _ _ hw8
    have hf1 := sG _ _ hf1
    have hc1 := sG _ _ hc1
    have hf2 := sG _ _ hf2
    have hc2 := sG _ _ hc2
    have dG := dz.same sG
    have hWG := hWz.same sG
    have hdG := Dx_same sG hdz
    have gvG : Gx K 3 G v := ⟨d, hdG, sd⟩
    clear e8 t8 hw8 dz hWz hOz hdz
    cases e : isLogD D.calls D.answers d with
    | false =>
      refine iteT ?_
      refine ⟨_, rfl, lw, rfl, ⟨_, SqL.of hwG⟩, fun DL nDL => ?_⟩
      refine loop_it (walk_list (xs := [V.ref f1, V.ref f2])) (fun j Fz => ExtN G Fz ∧ Tabs (tTab P1) Fz ∧ Fz DL = some (.lst ((List.replicate j true).map V.bl)))
        ⟨ExtN.of (same_new nDL _), tG.ext (same_new nDL _), upd_same⟩ (fun j Fz _ ⟨e6, _⟩ => SqL.of (e6 _ _ hwG (fun ps z => by cases z))) ?_ ?_
      · rintro j y F6 F7 hj ⟨e6, t6, d6⟩ ⟨rfl, hy⟩
        have key : ∀ (jj : Two) (Q' : VK), (∀ (cv w2 : V) (pp : Addr) (Gz : Hp), Caught Gz CL cv v → Gx K 3 Gz v → ExtN F7 Gz → Tabs (tTab P1) Gz → Gz pp = some (.tup [cv, w2]) → Q' (.ref pp) Gz) →
            TTk K B (fun E G' R => (famD K C CL jj).t E [some (.ref x), some (.ref ow), some (.ref o), some v, some (.ref lw), none, none, none] G' R) F7 Q' := by
          intro jj Q' hq
          refine (told_gen (fun C' y' => C' = CL ∧ y' = v) False (fun C' y' h => by rw [h.1]; exact Z.z.es.box) t6 (fun Gz E R eG2 er rt => ?_) (fun C' y' u pp Gz hb eG2 tG2 cG hp => ?_) (fun u pp Gz z eG2 tG2 hp => z.elim)).2 _ (ExtN.refl _) t6
          · have eAll := e6.trans eG2
            have dz := dG.ext eAll
            have hdz : Dx K Gz v d := hdG.ext eAll
            have no_ : isLogD W.calls W.answers d = false → ∀ a G', Same Gz G' → G' a = none → E (.ref CL) (some a) (upd G' a (.xd (vf v))) := fun _ a G' s' na => er CL v a G' ⟨rfl, rfl⟩ s' na
            have bfR : isLogD W.calls W.answers d = false := by rw [ec, ea]; exact e
            obtain ⟨dx, _, _, _, _, hx, _⟩ := id dz
            cases jj
            · exact ⟨_, rfl, x, dx, _, rfl, hx, rfl, _, rfl, x, v, d, T', W, rfl, dz, dr.m1.1, hdz, no_, fun st' e1 e2 => by rw [bfR] at e2; cases e2⟩
            · exact ⟨_, rfl, _, rfl, x, v, d, T', W, rfl, dz, dr, hdz, no_, fun st' e1 e2 => by rw [bfR] at e2; cases e2⟩
          · obtain ⟨hC, hy'⟩ := hb
            rw [hC, hy'] at cG
            exact hq u _ pp Gz cG (gvG.ext (e6.trans eG2)) eG2 tG2 hp
        have fin : ∀ (Gz G2 : Hp), ExtN F7 Gz → Tabs (tTab P1) Gz → Same Gz G2 → ∃ acc, G2 DL = some (.lst acc) ∧ acc.length < sizeLine ∧ ExtN G (upd G2 DL (.lst (acc ++ [V.bl true]))) ∧ Tabs (tTab P1) (upd G2 DL (.lst (acc ++ [V.bl true]))) ∧ (upd G2 DL (.lst (acc ++ [V.bl true]))) DL = some (.lst ((List.replicate (j + 1) true).map V.bl)) := by
          intro Gz G2 eZ tZ s2
          have dG2 := s2 _ _ (eZ _ _ d6 (fun ps z => by cases z))
          have hj2 : j < 2 := hj
          refine ⟨_, dG2, by rw [List.length_map, List.length_replicate, sizeLine_eq]; omega, fun b' o' h nt => ?_, tabs_upd dG2 (tZ.ext s2), ?_⟩
          · rw [upd_ne (fun z => by rw [z, nDL] at h; cases h)]
            exact s2 _ _ (eZ _ _ (e6 _ _ h nt) nt)
          · rw [upd_same, List.replicate_succ', List.map_append]
            rfl
        refine ⟨rfl, ?_⟩
        have hj2 : j < 2 := hj
        match j, hj2, hy with
        | 0, _, hy =>
          obtain rfl := (Option.some.inj hy).symm
          exact ⟨_, rfl, _, rfl, .a, f1, c1, v, rfl, e6 _ _ hf1 (Lam.o_tbl (famD K C CL .a) (cxR P w K mg base f c A0 outer s H) f1 c1), e6 _ _ hc1 codeO_ne, key .a _ fun cv w2 pp Gz cG gz eZ tZ hp => ⟨cv, w2, pp, rfl, hp, cG, gz, fun G2 s2 => fin Gz G2 eZ tZ s2⟩⟩
        | 1, _, hy =>
          obtain rfl := (Option.some.inj hy).symm
          exact ⟨_, rfl, _, rfl, .b, f2, c2, v, rfl, e6 _ _ hf2 (Lam.o_tbl (famD K C CL .b) (cxR P w K mg base f c A0 outer s H) f2 c2), e6 _ _ hc2 codeO_ne, key .b _ fun cv w2 pp Gz cG gz eZ tZ hp => ⟨cv, w2, pp, rfl, hp, cG, gz, fun G2 s2 => fin Gz G2 eZ tZ s2⟩⟩
      · rintro Fz ⟨e6, t6, d6⟩
        refine ⟨DL, _, rfl, SqL.of d6, ?_⟩
        rw [all_tr]
        exact q Fz t6 (eG.trans e6)
    | true =>
      refine iteF ?_
      obtain ⟨st, rfl, l24, mst⟩ := steps_of e
      obtain ⟨t, rfl, hL⟩ := log_dp hdG
      have eW : isLogD W.calls W.answers (.tuple (st.map pairD)) = true := by rw [ec, ea]; exact e
      have mm := logged_mem dr st (head_mem dr)
      refine ⟨_, rfl, _, rfl, ow, t, W, st, rfl, hWG, dr, hL, fun G1 s1 => ?_⟩
      have last : ∀ G2, Same G G2 → ∃ (lw_ f1 c1 f2 c2 : Addr) (st_ : List (Str × Str)), [some (V.ref x), some (V.ref ow), some (V.ref o), some (V.ref t), some (V.ref lw), some (V.str (loggedW W (W.marks.headD Str.empty) st)), some (V.str (wordW W (loggedW W (W.marks.headD Str.empty) st))), none] = [some (V.ref x), some (V.ref ow), some (V.ref o), some (V.ref t), some (V.ref lw_), some (V.str (loggedW W (W.marks.headD Str.empty) st_)), some (V.str (wordW W (loggedW W (W.marks.headD Str.empty) st_))), none] ∧ Dx K G2 (.ref t) (.tuple (st_.map pairD)) ∧ isLogD W.calls W.answers (.tuple (st_.map pairD)) = true ∧ DevAt K G2 x C T' W ∧ Tabs (tTab P1) G2 ∧
          G2 lw_ = some (.lst [.ref f1, .ref f2]) ∧ G2 f1 = some ((famD K C CL .a).o (cxR P w K mg base f c A0 outer s H) f1 c1) ∧ G2 c1 = some (CodeO c1 qDu) ∧ G2 f2 = some ((famD K C CL .b).o (cxR P w K mg base f c A0 outer s H) f2 c2) ∧ G2 c2 = some (CodeO c2 qDu) ∧ ∀ G', Same G2 G' → Q (.bl true) G' :=
        fun G2 s2 => ⟨lw, f1, c1, f2, c2, st, rfl, Dx_same s2 hdG, eW, dG.same s2, tG.ext s2, s2 _ _ hwG, s2 _ _ hf1, s2 _ _ hc1, s2 _ _ hf2, s2 _ _ hc2, fun G' s3 => q G' ((tG.ext s2).ext s3) (eG.trans (ExtN.of (s2.trans s3)))⟩
      have hW1 := hWG.same s1
      refine ⟨_, rfl, rfl, _, rfl, ?_⟩
      by_cases hb : loggedW W (W.marks.headD Str.empty) st = BRK
      · refine iteC (by simp only [decide_eq_true_eq]; rw [hb]; rfl) ?_
        have ew : wordW W (loggedW W (W.marks.headD Str.empty) st) = "broken" := by unfold wordW; rw [if_pos hb]
        have l := last G1 s1
        rw [ew] at l
        exact l
      refine iteN (by simp only [decide_eq_false_iff_not]; exact fun z => hb (V.str.inj z)) ?_
      refine ⟨_, rfl, _, rfl, ow, W, rfl, hW1, dr, fun qq G2 s2 hqq => ?_⟩
      refine ⟨_, qq, safeL W, rfl, rfl, .inr (.inl (.inl hqq)), _, rfl, ?_⟩
      have l := last G2 (s1.trans s2)
      by_cases hs : loggedW W (W.marks.headD Str.empty) st ∈ safeL W
      · refine iteC (List.contains_iff_mem.mpr hs) ?_
        have ew : wordW W (loggedW W (W.marks.headD Str.empty) st) = "safe" := by unfold wordW; rw [if_neg hb, if_pos hs]
        rw [ew] at l
        exact l
      · refine iteN (by rw [← Bool.not_eq_true]; exact fun z => hs (List.contains_iff_mem.mp z)) ?_
        have ew : wordW W (loggedW W (W.marks.headD Str.empty) st) = "held" := by unfold wordW; rw [if_neg hb, if_neg hs]
        rw [ew] at l
        exact l
end
end K56
set_option Elab.async false
set_option linter.all false
set_option maxRecDepth 100000
set_option maxHeartbeats 4000000
/-! All is right. -/
namespace LG
open PySem L2 LamX
theorem signs1 : signs 1 ≤ sizeLine := by decide +kernel
/-- a log among others -/
def Lg (K : PySem.W.Frag) (p : Addr) (H : Hp) (D : Dev) (v : V) : Prop := ∃ t st, v = .ref t ∧ LogAt K (mk p H) t st ∧ st.length ≤ 24 ∧ ∀ k ∈ st, k.1 ∈ D.calls ∧ k.2 ∈ D.answers
theorem Lg.but {K : PySem.W.Frag} {p : Addr} {H H' : Hp} {D : Dev} {v : V} (e : But p H H') (h : Lg K p H D v) : Lg K p H' D v := by
  obtain ⟨t, st, h1, h2, h3, h4⟩ := h
  exact ⟨t, st, h1, h2.same (mk_but e), h3, h4⟩
theorem LogAt.dp {K : PySem.W.Frag} {H : Hp} {t : Addr} {st : List (Str × Str)} (h : LogAt K H t st) : Dp K H (.ref t) (.tuple (st.map pairD)) := by
  obtain ⟨xs, h1, h2⟩ := h
  exact .tup h1 h2
theorem btr_ext {p : Addr} {H G : Hp} (e : BtR p H G) : ExtN (mk p H) (mk p G) := fun b o h nt => by
  obtain ⟨ne, h⟩ := mk_some h
  exact mk_of ne (e b o h ne nt)
theorem dev_mk {K : PySem.W.Frag} {H : Hp} {p b : _} {x C : Addr} {T : Str} {D : Wat} (hp : PotAt H p b) (h : DevAt K H x C T D) : DevAt K (mk p H) x C T D := by
  obtain ⟨own, sm, n, e0, _⟩ := id hp
  obtain ⟨dx, c, a, s, g, h1, h2, h3, h4, h5⟩ := h
  have ne : ∀ {b : Addr} {o : HO}, H b = some o → (∀ xs, o ≠ .lst xs) → b ≠ p := fun {b o} hb n z => by
    rw [z, e0] at hb
    exact n _ (Option.some.inj hb).symm
  have tup : ∀ {a : Addr} {xs : List V}, SqT K H a xs → SqT K (mk p H) a xs := fun {a xs} h => by
    rcases h with (h | ⟨o, h⟩) | h
    · exact .inl (.inl (mk_of (ne h fun xs z => by cases z) h))
    · exact .inl (.inr ⟨o, mk_of (ne h fun xs z => by cases z) h⟩)
    · exact .inr h
  exact ⟨dx, c, a, s, g, mk_of (ne h1 fun xs z => by cases z) h1, tup h2, tup h3, tup h4, h5.elim (fun q => .inl (mk_of (ne q fun xs z => by cases z) q)) (fun ⟨o, q⟩ => .inr ⟨o, mk_of (ne q fun xs z => by cases z) q⟩)⟩
theorem sqT_updl {K : PySem.W.Frag} {p L a : Addr} {H : Hp} {ys xs : List V} {o : HO} (hL : H L = some (.lst ys)) (h : SqT K (mk p H) a xs) : SqT K (mk p (upd H L o)) a xs := by
  have ne : ∀ {u : HO}, mk p H a = some u → (∀ zs, u ≠ .lst zs) → mk p (upd H L o) a = some u := fun {u} h n => by
    obtain ⟨e1, e2⟩ := mk_some h
    exact mk_of e1 (by rw [upd_ne (fun z => by rw [z, hL] at e2; exact n _ (Option.some.inj e2).symm)]; exact e2)
  rcases h with (h | ⟨o', h⟩) | h
  · exact .inl (.inl (ne h fun zs z => by cases z))
  · exact .inl (.inr ⟨o', ne h fun zs z => by cases z⟩)
  · exact .inr h
theorem log_move {K : PySem.W.Frag} {H H' : Hp} {t : Addr} (f : ∀ {a : Addr} {xs : List V}, SqT K H a xs → SqT K H' a xs) : ∀ {st : List (Str × Str)}, LogAt K H t st → LogAt K H' t st := by
  rintro st ⟨xs, h1, h2⟩
  refine ⟨xs, f h1, ?_⟩
  clear h1
  induction st generalizing xs with
  | nil => cases h2; exact .nil
  | cons k r ih =>
    cases h2 with
    | cons a b =>
      obtain ⟨q, rfl, hq⟩ := pair_dp_inv a
      exact .cons (.tup (f hq) (.cons (.str _) (.cons (.str _) .nil))) (ih _ b)
theorem Lg.updl {K : PySem.W.Frag} {p L : Addr} {H : Hp} {ys : List V} {o : HO} {D : Dev} {v : V} (hL : H L = some (.lst ys)) (h : Lg K p H D v) : Lg K p (upd H L o) D v := by
  obtain ⟨t, st, h1, h2, h3, h4⟩ := h
  exact ⟨t, st, h1, log_move (sqT_updl hL) h2, h3, h4⟩
theorem mq_upd {l p : Addr} {H : Hp} {o : HO} : Same (mq l p H) (mq l p (upd H l o)) := fun b u h => by
  obtain ⟨e1, e2⟩ := mk_some h
  obtain ⟨e3, e4⟩ := mk_some e2
  exact mk_of e1 (mk_of e3 (by rw [upd_ne e1]; exact e4))
/-- device, watch and package's watch of one lap -/
structure RS (K : PySem.W.Frag) (T1 : List (Addr × Str)) (C p : Addr) (F : Hp) (B : Nat) (o ow x : Addr) (D : Dev) (W : Wat) (T' : Str) : Prop where
  tab : Tabs T1 F
  pot : PotAt F p B
  own : OwnAt K (mk p F) o D
  wat : WatOwn (mk p F) ow W
  dev : DevAt K (mk p F) x C T' W
  dr : Drawn D
  dw : DrawnW W
  ec : W.calls = D.calls
  ea : W.answers = D.answers
theorem RS.but {K : PySem.W.Frag} {T1 : List (Addr × Str)} {C p : Addr} {F F' : Hp} {B B' : Nat} {o ow x : Addr} {D : Dev} {W : Wat} {T' : Str} (h : RS K T1 C p F B o ow x D W T') (e : But p F F') (pt : PotAt F' p B') : RS K T1 C p F' B' o ow x D W T' :=
  ⟨Tabs.but e h.pot h.tab, pt, h.own.same (mk_but e), h.wat.same (mk_but e), h.dev.same (mk_but e), h.dr, h.dw, h.ec, h.ea⟩
end LG
namespace K56
open PySem L2 LG LamX
theorem bd_pairs {D : Dev} (d : Drawn D) : ∀ {st : List (Str × Str)}, (∀ k ∈ st, k.1 ∈ D.calls ∧ k.2 ∈ D.answers) → bds 1 (st.map pairD) = true
  | [], _ => by simp only [List.map_nil, bds]
  | k :: r, h => by
    have ih := bd_pairs d (st := r) fun x hx => h x (List.mem_cons_of_mem _ hx)
    obtain ⟨h1, h2⟩ := h k List.mem_cons_self
    have n1 := d.cw _ h1
    have n2 := d.aw _ h2
    simp only [List.map_cons, bds, ih, Bool.and_true]
    show bd 1 (.tuple [.str k.1, .str k.2]) = true
    simp [bd, bds, n1, n2]
theorem bd_log {D : Dev} (d : Drawn D) {st : List (Str × Str)} (hl : st.length ≤ 24) (h : ∀ k ∈ st, k.1 ∈ D.calls ∧ k.2 ∈ D.answers) : bd 2 (.tuple (st.map pairD)) = true := by
  simp only [bd, bd_pairs d h, Bool.and_true, decide_eq_true_eq, List.length_map]
  exact hl
section
variable {P : Program} {w : World} {K : PySem.W.Frag} {mg : Str → Option Value} {base : Heap}
structure KitR (P : Program) (w : World) (K : PySem.W.Frag) (mg : Str → Option Value) (base : Heap) (C CB P1 : Addr) : Prop where
  any : ∃ g gd, FnOk P w K mg base CX0 3 g gd ["_law_pot_here", "_law_many", "_law_sizes"] (spAny K) ∧ mg "_law_any_device" = some (.ref g) ∧ PySem.W.keepIn K (.ref g) = true ∧ L2.Binds K gd ["_law_pot_here", "_law_many", "_law_sizes"] []
  take : ∃ g gd, FnOk P w K mg base CX0 1 g gd ["_law_pot_here", "_law_upto"] spTake ∧ mg "_law_take" = some (.ref g) ∧ PySem.W.keepIn K (.ref g) = true ∧ L2.Binds K gd ["_law_pot_here", "_law_upto"] []
  of : ∃ g gd, FnOk P w K mg base CX0 2 g gd ["_law_pot_here", "_law_some_here"] (spOf K) ∧ mg "_law_of" = some (.ref g) ∧ PySem.W.keepIn K (.ref g) = true ∧ L2.Binds K gd ["_law_pot_here", "_law_some_here"] []
  watch : ∃ g gd, FnOk P w K mg base CX0 3 g gd ["_law_pot_here", "_law_device"] (spWatch K) ∧ mg "_law_watch" = some (.ref g) ∧ PySem.W.keepIn K (.ref g) = true ∧ L2.Binds K gd ["_law_pot_here", "_law_device"] []
  text : ∃ g gd, FnOk P w K mg base CX0 1 g gd ["_law_watch_here"] (spWText K) ∧ mg "_law_watch_text" = some (.ref g) ∧ PySem.W.keepIn K (.ref g) = true ∧ L2.Binds K gd ["_law_watch_here"] []
  init : ∃ g gd, FnOk P w K mg base (L2.CX P w) 4 g gd ["self", "text"] (spDInit K C CB) ∧ Mk K C g ∧ L2.Binds K gd ["self", "text"] []
  safe : ∃ g gd, FnOk P w K mg base CX0 3 g gd ["watch"] (spSafe K C) ∧ mg "safe" = some (.ref g) ∧ PySem.W.keepIn K (.ref g) = true ∧ L2.Binds K gd ["watch"] []
  safeL : ∃ g gd, FnOk P w K mg base CX0 1 g gd ["_law_watch_here"] (spSafeL K) ∧ mg "_law_safe" = some (.ref g) ∧ PySem.W.keepIn K (.ref g) = true ∧ L2.Binds K gd ["_law_watch_here"] []
  log : ∃ g gd, FnOk P w K mg base CX0 4 g gd ["_law_pot_here", "_law_device", "_law_many"] (spLog K) ∧ mg "_law_log" = some (.ref g) ∧ PySem.W.keepIn K (.ref g) = true ∧ L2.Binds K gd ["_law_pot_here", "_law_device", "_law_many"] []
  bent : ∃ g gd, FnOk P w K mg base CX0 7 g gd ["_law_pot_here", "_law_value"] (spBent K 3) ∧ mg "_law_bent" = some (.ref g) ∧ PySem.W.keepIn K (.ref g) = true ∧ L2.Binds K gd ["_law_pot_here", "_law_value"] []
  odd : ∃ g gd, FnOk P w K mg base CX0 3 g gd ["_law_pot_here"] (spOdd K) ∧ mg "_law_odd" = some (.ref g) ∧ PySem.W.keepIn K (.ref g) = true ∧ L2.Binds K gd ["_law_pot_here"] []
  due : ∃ g gd, GnOk P w K mg base 9 g gd psDu (spDue K C P1) ∧ mg "_law_is_due" = some (.ref g) ∧ PySem.W.keepIn K (.ref g) = true ∧ L2.Binds K gd psDu []
  dev : DevCl K mg C
def spRight (P1 : Addr) : Sp := fun vs H Q _ => ∃ (p : Addr) (b : Nat), vs = [.ref p] ∧ Tabs (tTab P1) H ∧ PotAt H p b ∧ b ≤ 20000 ∧ ∀ H', Tabs (tTab P1) H' → BtR p H H' → PotAt H' p (b + 1800) → Q (.bl true) H'
abbrev nRt : List Str := ["_law_pot_here", "_law_lap", "_law_device", "_law_watch_here", "_law_made", "_law_logs", "_law_near", "_law_turn", "_law_log_here", "_law_value"]
theorem scRt : FnScope nRt ["_law_pot_here"] (defScope sRight) := ⟨rfl, rfl, rfl, by decide +kernel, rfl, by decide +kernel, by decide +kernel⟩
/-- from the last two lists on -/
def tR3 (K : PySem.W.Frag) (C P1 : Addr) : TS := fun Ds σ F => ∃ (p o ow x : Addr) (v1 : Option V) (D : Dev) (W : Wat) (T' : Str) (B : Nat) (L5 L6 : Addr) (xs ys : List V), σ = [some (.ref p), v1, some (.ref o), some (.ref ow), some (.ref x), some (.ref L5), some (.ref L6), none, none, none] ∧ RS K (tTab P1) C p F B o ow x D W T' ∧ F L5 = some (.lst xs) ∧ F L6 = some (.lst ys) ∧ xs.length + ys.length ≤ 30 ∧ (∀ v ∈ xs, Gx K 3 F v) ∧ (∀ v ∈ ys, Gx K 3 F v) ∧
  ∀ (F' : Hp), ExtN F F' → Tabs (tTab P1) F' → Ds.nx [some (.ref p), v1, some (.ref o), some (.ref ow), some (.ref x), some (.ref L5), some (.ref L6), none, none, none] F'
/-- from the logs on -/
def tR2 (K : PySem.W.Frag) (C P1 : Addr) : TS := fun Ds σ F => ∃ (p o ow x : Addr) (v1 v5 v6 : Option V) (D : Dev) (W : Wat) (T' : Str) (B : Nat) , σ = [some (.ref p), v1, some (.ref o), some (.ref ow), some (.ref x), v5, v6, none, none, none] ∧ RS K (tTab P1) C p F B o ow x D W T' ∧ B ≤ 40000 ∧
  ∀ (v5 v6 : Option V) (F' : Hp), BtR p F F' → Tabs (tTab P1) F' → PotAt F' p (B + 440) → Ds.nx [some (.ref p), v1, some (.ref o), some (.ref ow), some (.ref x), v5, v6, none, none, none] F'
theorem ok_right {f C CB P1 : Addr} {fd : FuncData} (F : Fun K "_law_right" "_law_right" sRight f fd) (T : Bltn mg) (Z : KitR P w K mg base C CB P1) : GnOk P w K mg base 10 f fd ["_law_pot_here"] (spRight P1) := by
  obtain ⟨ga, gad, GA, mA, kA, bA⟩ := Z.any
  obtain ⟨gt, gtd, GT, mT, kT_, bT⟩ := Z.take
  obtain ⟨gz, gzd, GZ, mZ, kZ, bZ⟩ := Z.of
  obtain ⟨gw, gwd, GW, mW, kW, bW⟩ := Z.watch
  obtain ⟨gx, gxd, GX, mX, kX, bX⟩ := Z.text
  obtain ⟨gi, gid, GI, MI, bI⟩ := Z.init
  obtain ⟨gs, gsd, GS, mS, kS, bS⟩ := Z.safe
  obtain ⟨gf, gfd, GF, mF, kF, bF⟩ := Z.safeL
  obtain ⟨gl, gld, GL, mL, kL, bL⟩ := Z.log
  obtain ⟨gb, gbd, GB, mB, kB, bB⟩ := Z.bent
  obtain ⟨go, god, GO, mO, kO, bO⟩ := Z.odd
  obtain ⟨gq, gqd, GQ, mQ, kQ, bQ⟩ := Z.due
  refine gn_of F scRt (fun vs H Q E h => ?_) (fun cdv A0 outer s H vs Q hG hr h => ?_)
  · obtain ⟨p, b, rfl, _⟩ := h
    rfl
  obtain ⟨p, b, rfl, hT, hp, hb, q⟩ := h
  have r7 : Room 7 _ := hr.mono (by decide)
  have r4 : Room 4 _ := hr.mono (by decide)
  have r5 : Room 5 _ := hr.mono (by decide)
  have r3 : Room 3 _ := hr.mono (by decide)
  have r2 : Room 2 _ := hr.mono (by decide)
  have r1 : Room 1 _ := hr.mono (by decide)
  have hu := hu_of hr
  refine' ⟨_, pss_cons (ps_for PassesOwn.never rfl (pi_range1 rfl T.range (pa_cons pe_int pa_nil)) (pg_name (i := 1) scRt.nd rfl (Or.inl rfl)) (pss_cons ?dev (pss_cons ?watch (pss_cons ?made (pss_cons ?cmp (pss_imp (t' := tR2 K C P1) (pss_cons ?logs (pss_cons ?near (pss_imp (t' := tR3 K C P1) (pss_one ?all) ?i3))) ?i2)))))) (pss_one (ps_ret pe_bl)), ?main⟩
  case dev =>
    exact ps_set (i := 2) scRt.nd rfl (Or.inr rfl) (pe_call GA r3 rfl mA kA bA .nil pass0 (pa_cons (pv 0) (pa_cons (pe_op op_add pe_int (pe_call GT r1 rfl mT kT_ bT .nil pass0 (pa_cons (pv 0) (pa_cons pe_int pa_nil)))) (pa_cons (pe_call GZ r2 rfl mZ kZ bZ .nil pass0 (pa_cons (pv 0) (pa_cons (pe_lst (sz_cons (sz_item (i := 1) (j := 2)) (sz_cons (sz_item (i := 2) (j := 2)) (sz_cons (sz_item (i := 3) (j := 3)) (sz_cons (sz_item (i := 2) (j := 3)) sz_nil))))) pa_nil))) pa_nil))))
  case watch => exact ps_set (i := 3) scRt.nd rfl (Or.inr rfl) (pe_call GW r3 rfl mW kW bW .nil pass0 (pa_cons (pv 0) (pa_cons (pv 2) pa_nil)))
  case made => exact ps_set (i := 4) scRt.nd rfl (Or.inr rfl) (pe_make MI GI r5 rfl Z.dev.mg bI .nil passF (pa_cons (pe_call GX r1 rfl mX kX bX .nil pass0 (pa_cons (pv 3) pa_nil)) pa_nil))
  case cmp =>
    exact ps_if (pt_cmpR op_ne (pe_callB (call_repr hG hr.units) rfl T.repr (by decide +kernel) (pa_cons (pe_call GS r3 rfl mS kS bS .nil pass0 (pa_cons (pv 4) pa_nil)) pa_nil)) (pe_callB (call_repr hG hr.units) rfl T.repr (by decide +kernel) (pa_cons (pe_call GF r1 rfl mF kF bF .nil pass0 (pa_cons (pv 3) pa_nil)) pa_nil)) (nomark _)) (pss_one (ps_ret pe_bl)) pss_nil
  case logs =>
    exact ps_set (i := 5) scRt.nd rfl (Or.inl rfl) (pe_op op_cat (pe_lc (te := tCall (spLog K) [] E0 (tCons (tVar 0) (tCons (tVar 2) (tCons (tCall spTake [] E0 (tCons (tVar 0) (tCons (tC (.int 13)) tNil))) tNil)))) (own := [("_law_turn", 7)]) (g := gName 7) (tt := tYes) rfl scRt.nd (pi_range1 rfl T.range (pa_cons pe_int pa_nil))
      (blkOk_by (own := [("_law_turn", 7)]) (N := nRt) (sc := defScope sRight) (by decide +kernel)) (fun _ _ _ _ _ => pg_name (i := 7) scRt.nd rfl (Or.inl rfl)) (fun _ _ _ _ _ => pts_nil)
      (fun _ _ _ _ _ => by exact pe_call GL r4 rfl mL kL bL .nil pass0 (pa_cons (pv 0) (pa_cons (pv 2) (pa_cons (pe_call GT r1 rfl mT kT_ bT .nil pass0 (pa_cons (pv 0) (pa_cons pe_int pa_nil))) pa_nil))))) (pe_lst (pa_cons (pe_call GL r4 rfl mL kL bL .nil pass0 (pa_cons (pv 0) (pa_cons (pv 2) (pa_cons pe_int pa_nil)))) (pa_cons (pe_tup pa_nil) pa_nil))))
  case near =>
    exact ps_set (i := 6) scRt.nd rfl (Or.inl rfl) (pe_op op_cat (pe_lc (te := tCall (spBent K 3) [] E0 (tCons (tVar 0) (tCons (tVar 8) tNil))) (own := [("_law_log_here", 8)]) (g := gName 8) (tt := tYes) rfl scRt.nd (pi_list (pv 5))
      (blkOk_by (own := [("_law_log_here", 8)]) (N := nRt) (sc := defScope sRight) (by decide +kernel)) (fun _ _ _ _ _ => pg_name (i := 8) scRt.nd rfl (Or.inl rfl)) (fun _ _ _ _ _ => pts_nil)
      (fun _ _ _ _ _ => by exact pe_call GB r7 rfl mB kB bB .nil pass0 (pa_cons (pv 0) (pa_cons (pv 8) pa_nil)))) (pe_lst (pa_cons (pe_op op_catM (pe_ix ix_list (pv 5) pe_int (fun _ _ => rfl)) (pe_slice sl_tupM (pe_ix ix_list (pv 5) pe_int (fun _ _ => rfl)) po_none (po_some pe_int))) (pa_cons (pe_callTy call_list_of rfl T.list (by decide +kernel) (pa_cons (pe_ix ix_list (pv 5) pe_int (fun _ _ => rfl)) pa_nil)) (pa_cons pe_non (pa_cons (pe_call GO r3 rfl mO kO bO .nil pass0 (pa_cons (pv 0) pa_nil)) pa_nil))))))
  case all =>
    exact ps_if (pt_not (pt_val (pe_callB (cr_all rfl) rfl T.all (by decide +kernel) (pa_cons (pe_lc (te := fun σ H Q => tCons (tVar 4) (tCons (tVar 3) (tCons (tVar 2) (tCons (tVar 9) tNil))) σ H fun vs H1 => spDue K C P1 vs H1 Q E0) (own := [("_law_value", 9)]) (g := gName 9) (tt := tYes) rfl scRt.nd (pi_list (pe_op op_cat (pv 5) (pv 6)))
      (blkOk_by (own := [("_law_value", 9)]) (N := nRt) (sc := defScope sRight) (by decide +kernel)) (fun _ _ _ _ _ => pg_name (i := 9) scRt.nd rfl (Or.inl rfl)) (fun _ _ _ _ _ => pts_nil)
      (fun _ _ _ _ _ => by exact pe_gcall GQ hG hr rfl mQ kQ bQ (pa_cons (pv 4) (pa_cons (pv 3) (pa_cons (pv 2) (pa_cons (pv 9) pa_nil)))))) pa_nil)))) (pss_one (ps_ret pe_bl)) pss_nil
  case i3 =>
    clear q hT hp hb
    rintro Ds σ F ⟨p, o, ow, x, v1, D, W, T', B, L5, L6, xs, ys, rfl, R, h5, h6, ln, gx_, gy_, q⟩
    refine ⟨_, rfl, _, rfl, L5, L6, xs, ys, rfl, rfl, h5, h6, by rw [sizeLine_eq]; omega, fun lv nlv => ?_⟩
    have s1 := same_new nlv (.lst (xs ++ ys))
    have hlv : (upd F lv (.lst (xs ++ ys))) lv = some (.lst (xs ++ ys)) := upd_same
    have gall : ∀ v ∈ xs ++ ys, Gx K 3 (upd F lv (.lst (xs ++ ys))) v := fun v hv => (List.mem_append.mp hv).elim (fun h => (gx_ v h).same s1) (fun h => (gy_ v h).same s1)
    have lvl : (xs ++ ys).length ≤ 30 := by rw [List.length_append]; exact ln
    have dv := (R.dev.same (mk_self p F)).same s1
    have wt := (R.wat.same (mk_self p F)).same s1
    have ow_ := (R.own.same (mk_self p F)).same s1
    have tb := R.tab.ext s1
    have eF : ExtN F (upd F lv (.lst (xs ++ ys))) := ExtN.of s1
    show _
    generalize upd F lv (.lst (xs ++ ys)) = F1 at hlv gall dv wt ow_ tb eF ⊢
    generalize xs ++ ys = zs at hlv gall lvl
    refine ⟨lv, rfl, ⟨_, SqL.of hlv⟩, fun DL nDL => ?_⟩
    refine loop_it (walk_list (xs := zs)) (fun j Fz => ExtN F1 Fz ∧ Tabs (tTab P1) Fz ∧ Fz DL = some (.lst ((List.replicate j true).map V.bl))) ⟨ExtN.of (same_new nDL _), tb.ext (same_new nDL _), upd_same⟩ (fun j Fz _ ⟨e6, _⟩ => SqL.of (e6 _ _ hlv (fun ps z => by cases z))) ?_ ?_
    · rintro j v F6 F7 hj ⟨e6, t6, d6⟩ ⟨rfl, hv⟩
      refine ⟨rfl, _, rfl, _, rfl, _, rfl, _, rfl, x, ow, o, v, T', W, D, rfl, t6, dv.ext e6, R.dw, wt.ext e6, ow_.ext e6, R.ec, R.ea, (gall v (List.mem_of_getElem? hv)).ext e6, fun H' t' e' => ?_⟩
      have d7 := e' _ _ d6 (fun ps z => by cases z)
      refine ⟨_, d7, by rw [List.length_map, List.length_replicate, sizeLine_eq]; omega, fun b' o' h nt => ?_, tabs_upd d7 t', ?_⟩
      · rw [upd_ne (fun z => by rw [z, nDL] at h; cases h)]
        exact e' _ _ (e6 _ _ h nt) nt
      · rw [upd_same, List.replicate_succ', List.map_append]
        rfl
    · rintro Fz ⟨e6, t6, d6⟩
      refine ⟨DL, _, rfl, SqL.of d6, ?_⟩
      rw [all_tr]
      exact ⟨_, rfl, iteF (q Fz (eF.trans e6) t6)⟩
  case i2 =>
    clear q hT hp hb
    rintro Ds σ F ⟨p, o, ow, x, v1, v5, v6, D, W, T', B, rfl, R, lB, q⟩
    refine ⟨5, rfl, by decide, by decide, fun D1 nD1 => ?_⟩
    have nD1p : D1 ≠ p := new_ne R.pot.there nD1
    refine lc_it (walk_range (lo := 0) (n := 5)) (fun i G => ∃ vs : List V, But p F G ∧ PotAt G p (B + 61 * i) ∧ G D1 = some (.lst vs) ∧ vs.length = i ∧ ∀ v ∈ vs, Lg K p G D v)
      ⟨[], But.of (same_new nD1 _), R.pot.same (same_new nD1 _), upd_same, rfl, fun _ h => nomatch h⟩ (fun _ _ _ _ => trivial) ?_ ?_
    · rintro i y G4 G5 hi ⟨vs, b4, p4, d4, l4, m4⟩ ⟨rfl, rfl⟩
      refine ⟨rfl, _, rfl, _, rfl, _, rfl, p, 13, _, rfl, p4, by omega, by decide, by decide, fun k G6 k0 k13 b6 p6 => ?_⟩
      obtain ⟨k', rfl⟩ := Int.eq_ofNat_of_zero_le k0
      refine ⟨p, o, k', _, D, rfl, p6, by omega, by omega, R.own.same (mk_but (b4.trans b6)), R.dr, fun t st G7 b7 p7 lt ln mst => ?_⟩
      have d7 := b7 _ _ (b6 _ _ d4 nD1p) nD1p
      refine ⟨vs, d7, by rw [sizeLine_eq]; omega, vs ++ [.ref t], (b4.trans (b6.trans b7)).put nD1, ?_, upd_same, by rw [List.length_append, l4]; rfl, fun v hv => ?_⟩
      · obtain ⟨own, sm, n, e, r⟩ := p7
        exact ⟨own, sm, n, by rw [upd_ne nD1p.symm]; exact e, by omega⟩
      · rcases List.mem_append.mp hv with h | h
        · exact ((m4 v h).but (b6.trans b7)).updl d7
        · rw [List.mem_singleton.mp h]
          exact Lg.updl d7 ⟨t, st, rfl, lt, by omega, mst⟩
    rintro G4 ⟨vs, b4, p4, d4, l4, m4⟩
    refine ⟨_, rfl, _, rfl, p, o, 24, _, D, rfl, p4, by omega, by decide, R.own.same (mk_but b4), R.dr, fun t st G7 b7 p7 lt ln mst => ⟨(by show 0 ≤ sizeLine; decide), fun e0 ne0 => ⟨(by show 2 ≤ sizeLine; decide), fun q1 nq1 => ?_⟩⟩⟩
    have s1 := same_new ne0 (.tup [])
    have s2 := same_new nq1 (.lst [V.ref t, .ref e0])
    have he0 := s2 _ _ (show (upd G7 e0 (.tup [])) e0 = _ from upd_same)
    have hq1 : (upd (upd G7 e0 (.tup [])) q1 (.lst [V.ref t, .ref e0])) q1 = some (.lst [V.ref t, .ref e0]) := upd_same
    have b8 := b7.trans (But.of (s1.trans s2))
    have p8 := p7.same (s1.trans s2)
    have d8 := b8 _ _ d4 nD1p
    have ne0p : e0 ≠ p := new_ne p7.there ne0
    have lg8 : ∀ v ∈ vs ++ [V.ref t, .ref e0], Lg K p (upd (upd G7 e0 (.tup [])) q1 (.lst [V.ref t, .ref e0])) D v := fun v hv => by
      rcases List.mem_append.mp hv with h | h
      · exact (m4 v h).but b8
      · simp only [List.mem_cons, List.not_mem_nil, or_false] at h
        rcases h with rfl | rfl
        · exact Lg.but (But.of (s1.trans s2)) ⟨t, st, rfl, lt, by omega, mst⟩
        · exact ⟨e0, [], rfl, ⟨[], .inl (.inl (mk_of ne0p he0)), .nil⟩, Nat.zero_le _, fun _ h => nomatch h⟩
    show _
    generalize upd (upd G7 e0 (.tup [])) q1 (.lst [V.ref t, .ref e0]) = G8 at hq1 b8 p8 d8 lg8 ⊢
    clear s1 s2 he0 ne0 nq1 p7 b7 lt
    refine ⟨D1, q1, vs, _, rfl, rfl, d8, hq1, by rw [l4]; show 5 + 2 ≤ sizeLine; decide, fun L5 nL5 => ?_⟩
    have s3 := same_new nL5 (.lst (vs ++ [V.ref t, .ref e0]))
    have h5 : (upd G8 L5 (.lst (vs ++ [V.ref t, .ref e0]))) L5 = some (.lst (vs ++ [V.ref t, .ref e0])) := upd_same
    have nL5p : L5 ≠ p := new_ne p8.there nL5
    have lg9 : ∀ v ∈ vs ++ [V.ref t, .ref e0], Lg K p (upd G8 L5 (.lst (vs ++ [V.ref t, .ref e0]))) D v := fun v hv => (lg8 v hv).but (But.of s3)
    have b9 := (b4.trans b8).trans (But.of s3)
    have p9 := p8.same s3
    have lx : (vs ++ [V.ref t, .ref e0]).length = 7 := by rw [List.length_append, l4]; rfl
    show _
    generalize upd G8 L5 (.lst (vs ++ [V.ref t, .ref e0])) = G9 at h5 lg9 b9 p9 ⊢
    generalize vs ++ [V.ref t, .ref e0] = xs at h5 lg9 lx
    clear lg8 hq1 d8 p8 b8 s3 nL5 m4 d4 b4 l4
    generalize hB2 : B + 61 * 5 + 60 = B2 at p9
    refine ⟨_, rfl, L5, rfl, ⟨_, SqL.of h5⟩, fun D2 nD2 => ?_⟩
    have nD2p : D2 ≠ p := new_ne p9.there nD2
    refine lc_it (walk_list (xs := xs)) (fun j G => ∃ vs : List V, But p G9 G ∧ PotAt G p (B2 + 9 * j) ∧ G D2 = some (.lst vs) ∧ vs.length = j ∧ ∀ v ∈ vs, Gx K 3 (mq D2 p G) v)
      ⟨[], But.of (same_new nD2 _), p9.same (same_new nD2 _), upd_same, rfl, fun _ h => nomatch h⟩ (fun j G _ ⟨_, b, _⟩ => SqL.of (b _ _ h5 nL5p)) ?_ ?_
    · rintro j y G4 G5 hj ⟨vs, b4, p4, d4, l4, m4⟩ ⟨rfl, hy⟩
      rw [lx] at hj
      obtain ⟨t, st, rfl, hL, l24, mst⟩ := (lg9 y (List.mem_of_getElem? hy)).but b4
      refine ⟨rfl, _, rfl, _, rfl, p, D2, .ref t, _, 2, .tuple (st.map pairD), rfl, ⟨vs, d4⟩, nD2p, rfl, by decide, p4, by omega, (log_move (tq ⟨vs, d4⟩) hL).dp, bd_log R.dr l24 mst, fun x' G6 b6 p6 g6 => ?_⟩
      have d6 := b6 _ _ d4 nD2p
      refine ⟨vs, d6, by rw [sizeLine_eq]; omega, vs ++ [x'], (b4.trans b6).put nD2, ?_, upd_same, by rw [List.length_append, l4]; rfl, fun v hv => ?_⟩
      · obtain ⟨own, sm, n, e, r⟩ := p6
        exact ⟨own, sm, n, by rw [upd_ne nD2p.symm]; exact e, by omega⟩
      · rcases List.mem_append.mp hv with h | h
        · exact ((m4 v h).same (mq_but b6)).same mq_upd
        · rw [List.mem_singleton.mp h]
          exact (g6.x).same mq_upd
    rintro G4 ⟨vs, b4, p4, d4, l4, m4⟩
    rw [lx] at p4 l4
    have h54 := b4 _ _ h5 nL5p
    obtain ⟨t5, h5t⟩ : ∃ v, xs[5]? = some v := ⟨_, List.getElem?_eq_getElem (by omega)⟩
    obtain ⟨t0, h0t⟩ : ∃ v, xs[0]? = some v := ⟨_, List.getElem?_eq_getElem (by omega)⟩
    obtain ⟨a5, st5, rfl, ⟨ts5, hs5, hall5⟩, l5, m5⟩ := (lg9 t5 (List.mem_of_getElem? h5t)).but b4
    have len5 := dpAll_len hall5
    rw [List.length_map] at len5
    refine ⟨_, rfl, L5, xs, 5, .ref a5, rfl, rfl, SqL.of h54, atI_nat (j := 5) h5t, _, rfl, L5, xs, 5, .ref a5, rfl, rfl, SqL.of h54, atI_nat (j := 5) h5t, 1, rfl, p, ts5, p4.there, ⟨a5, rfl, hs5⟩, fun z H1 s1 t1 => ?_⟩
    have g5 : Gds K 1 (mk p G4) ts5 := ⟨_, hall5, bds_small 1 _ (bd_pairs R.dr m5)⟩
    refine ⟨p, ts5, _, (p4.same s1).there, ⟨a5, rfl, same_tup (mk_up s1) hs5⟩, t1, ?_, fun z2 H2 s2 t2 => ?_⟩
    · have := cut_upto (xs := ts5) (show (0 : Int) ≤ 1 by decide)
      omega
    have s12 := s1.trans s2
    have gz2 : Gd K 2 (mk p H2) z2 := by
      obtain ⟨az, rfl, hz⟩ := t2
      refine .tup (((g5.same (mk_up s12))).app ((g5.same (mk_up s12)).cut _ _)) ?_ hz
      have := cut_upto (xs := ts5) (show (0 : Int) ≤ 1 by decide)
      rw [List.length_append]
      omega
    have h52 := s12 _ _ h54
    obtain ⟨a0, st0, rfl, ⟨ts0, hs0, hall0⟩, l0, m0⟩ := (lg9 t0 (List.mem_of_getElem? h0t)).but (b4.trans (But.of s12))
    have len0 := dpAll_len hall0
    rw [List.length_map] at len0
    have g0 : Gds K 1 (mk p H2) ts0 := ⟨_, hall0, bds_small 1 _ (bd_pairs R.dr m0)⟩
    have p2 := p4.same s12
    refine ⟨_, rfl, L5, xs, 0, .ref a0, rfl, rfl, SqL.of h52, atI_nat (j := 0) h0t, a0, ts0, rfl, .inr (same_tup (mk_self p H2) hs0), fun ll nll => ?_⟩
    have s3 := same_new nll (.lst ts0)
    have gl : Gd K 2 (mk p (upd H2 ll (.lst ts0))) (.ref ll) := .lst (g0.same (mk_up s3)) (by omega) (SqL.of (mk_new p2.there nll))
    have gz3 := gz2.same (mk_up s3)
    have p3 := p2.same s3
    have s13 := s12.trans s3
    show _
    generalize upd H2 ll (.lst ts0) = H3 at gl gz3 p3 s13 ⊢
    clear s3 nll g0 hall0 hs0 gz2 t2 h52 s2 p2 g5 hs5 hall5 t1 s1 s12
    refine ⟨_, rfl, p, _, rfl, p3, by omega, fun od H5 b5 p5 gO => ⟨(by show 4 ≤ sizeLine; decide), fun q3 nq3 => ?_⟩⟩
    have s6 := same_new nq3 (.lst [z2, .ref ll, .non, od])
    have hq3 : (upd H5 q3 (.lst [z2, .ref ll, .non, od])) q3 = some (.lst [z2, .ref ll, .non, od]) := upd_same
    have go_ : Gx K 3 (upd H5 q3 (.lst [z2, .ref ll, .non, od])) od := ((gO.same (mn_self _ _)).same s6).le (by decide)
    have gz_ : Gx K 3 (upd H5 q3 (.lst [z2, .ref ll, .non, od])) z2 := ((((gz3.same (mk_but b5)).same (mk_self p H5)).same s6).le (by decide)).x
    have gl_ : Gx K 3 (upd H5 q3 (.lst [z2, .ref ll, .non, od])) (.ref ll) := ((((gl.same (mk_but b5)).same (mk_self p H5)).same s6).le (by decide)).x
    have gn_ : Gx K 3 (upd H5 q3 (.lst [z2, .ref ll, .non, od])) .non := ⟨.none, .flat .non, by simp only [small]⟩
    have b46 : But p G4 (upd H5 q3 (.lst [z2, .ref ll, .non, od])) := (But.of s13).trans (b5.trans (But.of s6))
    have p6 := p5.same s6
    have gv_ : ∀ v ∈ vs, Gx K 3 (upd H5 q3 (.lst [z2, .ref ll, .non, od])) v := fun v hv => ((m4 v hv).same (mq_but b46)).same (mq_self D2 p _)
    have d6 := b46 _ _ d4 nD2p
    show _
    generalize upd H5 q3 (.lst [z2, .ref ll, .non, od]) = H6 at hq3 go_ gz_ gl_ gn_ b46 p6 gv_ d6 ⊢
    clear gO b5 p5 s6 nq3 gl gz3 p3 s13 m4
    refine ⟨D2, q3, vs, _, rfl, rfl, d6, hq3, by rw [l4]; show 7 + 4 ≤ sizeLine; decide, fun L6 nL6 => ?_⟩
    have s7 := same_new nL6 (.lst (vs ++ [z2, .ref ll, .non, od]))
    have b07 := b9.trans (b4.trans (b46.trans (But.of s7)))
    have p7 := p6.same s7
    refine ⟨p, o, ow, x, v1, D, W, T', _, L5, L6, xs, vs ++ [z2, .ref ll, .non, od], rfl, R.but b07 p7, s7 _ _ (b46 _ _ h54 nL5p), upd_same, by rw [List.length_append, l4, lx]; show 7 + (7 + 4) ≤ 30; decide, fun v hv => ?_, fun v hv => ?_, fun F' eF t' => ?_⟩
    · obtain ⟨t, st, rfl, hL, l24, mst⟩ := (lg9 v hv).but (b4.trans (b46.trans (But.of s7)))
      exact ⟨_, .flat (Dp_same (mk_self p _) _ _ hL.dp), small_le (by decide) (bd_small 2 _ (bd_log R.dr l24 mst))⟩
    · refine Gx.same s7 ?_
      rcases List.mem_append.mp hv with h | h
      · exact gv_ v h
      · simp only [List.mem_cons, List.not_mem_nil, or_false] at h
        rcases h with rfl | rfl | rfl | rfl
        · exact gz_
        · exact gl_
        · exact gn_
        · exact go_
    · exact q _ _ F' ((BtR.of b07).trans (BtR.ex eF)) t' ((p7.ext eF).mono (by omega))
  case main =>
    refine ⟨3, rfl, by decide, by decide, ?_⟩
    refine for_it (walk_range (lo := 0) (n := 3)) (fun i σ F => ∃ v1 v2 v3 v4 v5 v6, σ = [some (.ref p), v1, v2, v3, v4, v5, v6, none, none, none] ∧ Tabs (tTab P1) F ∧ BtR p H F ∧ PotAt F p (b + 600 * i)) ⟨_, _, _, _, _, _, rfl, hT, BtR.of (fun _ _ h _ => h), hp⟩ (fun _ _ _ _ _ => trivial) ?_ ?_
    rotate_left
    · rintro σ F ⟨v1, v2, v3, v4, v5, v6, rfl, tF, bF, pF⟩
      exact q F tF bF (pF.mono (by omega))
    rintro i y σ F0 F hi ⟨v1, v2, v3, v4, v5, v6, rfl, tF, bF, pF⟩ ⟨rfl, rfl⟩
    generalize hB : b + 600 * i = B0 at pF
    refine ⟨_, rfl, _, rfl, p, 4, B0, rfl, pF, by omega, by decide, by decide, fun k H1 k0 k4 but1 pot1 => ?_⟩
    obtain ⟨k', rfl⟩ := Int.eq_ofNat_of_zero_le k0
    refine ⟨_, _, rfl, rfl, _, rfl, fun xs H2 s2 l2 g2 => ⟨by rw [l2]; decide, fun lz nlz => ?_⟩⟩
    have s3 := same_new nlz (.lst xs)
    have pot2 := pot1.same s2
    refine ⟨p, lz, xs, B0 + 1, rfl, pot2.same s3, by omega, SqL.of upd_same, by omega, by omega, fun z => pot2.there (by rw [← z]; exact nlz), fun xz H3 hx but3 pot3 => ?_⟩
    obtain ⟨tz, n1, n2, rfl, htz, z1, z2, z3, z4⟩ := (g2 xz hx).same s3
    have npz : tz ≠ p := fun z => by
      obtain ⟨own, sm, n, e, _⟩ := pot2.same s3
      rw [z, e] at htz
      cases htz
    refine ⟨p, tz, 1 + k', n1, n2, B0 + 1 + 1, rfl, pot3, by omega, by omega, by omega, mk_of npz (but3 _ _ htz npz), z1, z2, z3, z4, fun o D H4 but4 pot4 dr _ hO => ?_⟩
    have b4 : But p F H4 := but1.trans ((But.of (s2.trans s3)).trans (but3.trans but4))
    have hT4 : Tabs (tTab P1) H4 := Tabs.but b4 pF tF
    clear but1 but3 but4 pot1 pot2 pot3 s2 s3 g2 hx htz nlz
    refine ⟨_, rfl, _, rfl, p, o, _, D, rfl, pot4, by omega, hO, dr, fun ow W H5 b5 p5 dw eca w5 => ?_⟩
    have hT5 := Tabs.but b5 pot4 hT4
    have b45 := b4.trans b5
    have hO5 := hO.same (mk_but b5)
    refine ⟨_, rfl, ow, W, rfl, w5.same (mk_self p H5), dw, fun H6 s6 => ?_⟩
    have tl := dw.text.len
    refine fun x dx nx ndx nex => ⟨x, dx, .str (textW W), rfl, upd_same, .inl ⟨textW W, rfl⟩, fun T' e => by cases e; omega, fun T' D' e hq H7 but7 dev7 => ⟨rfl, ?_⟩, fun n hn => absurd (hn.symm.trans dw.read) (fun z => by cases z)⟩
    cases e
    have eD : D' = W := by
      have := hq.symm.trans dw.read
      exact Sum.inr.inj this
    subst eD
    have s67 := made nx ndx but7
    have s57 := s6.trans s67
    have p7 := p5.same s57
    have b57 : But p H5 H7 := But.of s57
    have R7 : RS K (tTab P1) C p H7 (B0 + 1 + 1 + 50 + 100) o ow x D D' (textW D') := ⟨Tabs.but b57 p5 hT5, p7, hO5.same (mk_but b57), w5.same (mk_but b57), dev_mk p7 dev7, dr, dw, eca.1, eca.2⟩
    have bF7 := b45.trans b57
    clear b45 b57 hO5 w5 hT5 hT4 hO b4 pot4 s57 s67 dev7 p5 s6
    refine ⟨_, rfl, x, textW D', D', rfl, R7.dev.same (mk_self p H7), dw, fun q1 G1 s1 hq1 => ?_⟩
    have sm := names_small (ns := safeL D') (fun y hy => dw.mw y (safeN_sub _ _ y hy)) (by
      obtain ⟨pp, e⟩ := safeN_fil D' D'.marks.length
      have e : safeL D' = D'.marks.filter pp := e
      rw [e]
      have := List.length_filter_le pp D'.marks
      have := dw.m1
      omega)
    refine ⟨_, namesD (safeL D'), 1, rfl, .flat (.tup (.inl (.inl hq1)) (strs_dp _)), by decide, sm, signs1, ?_⟩
    refine ⟨_, rfl, ow, D', rfl, (R7.wat.same (mk_self p H7)).same s1, dw, fun q2 G2 s2 hq2 => ?_⟩
    refine ⟨_, namesD (safeL D'), 1, rfl, .flat (.tup (.inl (.inl hq2)) (strs_dp _)), by decide, sm, signs1, rfl, _, rfl, ?_⟩
    refine iteN ne_self ?_
    have b12 : But p H7 G2 := But.of (s1.trans s2)
    refine ⟨p, o, ow, x, _, _, _, D, D', textW D', _, rfl, R7.but b12 (p7.same (s1.trans s2)), by omega, fun v5 v6 F' b' t' p' => ?_⟩
    exact ⟨_, _, _, _, _, _, rfl, t', bF.trans ((BtR.of (bF7.trans b12)).trans b'), p'.mono (by omega)⟩
end
end K56
set_option Elab.async false
set_option linter.all false
set_option maxRecDepth 100000
set_option maxHeartbeats 4000000
namespace K56
open PySem L2 LG LamX
section
variable {P : Program} {w : World} {K : PySem.W.Frag} {mg : Str → Option Value} {base : Heap}
def spLaw (K : PySem.W.Frag) (P1 : Addr) : Sp := fun vs H Q _ => ∃ (a : Addr) (ns : List Int), vs = [.ref a] ∧ SqL K H a (ns.map V.int) ∧ ns.length ≤ 63 ∧ Tabs (tTab P1) H ∧ ∀ H', Q (.bl true) H'
abbrev nLw : List Str := ["_law_script", "_law_place"]
theorem scLaw : FnScope nLw ["_law_script"] (defScope sLaw) := ⟨rfl, rfl, rfl, by decide +kernel, rfl, by decide +kernel, by decide +kernel⟩
theorem ok_law {f gr gp gc P1 : Addr} {fd grd gpd gcd : FuncData} (F : Fun K "law" "law" sLaw f fd) (T : Bltn mg)
    (GR : GnOk P w K mg base 10 gr grd ["_law_pot_here"] (spRight P1)) (mR : mg "_law_right" = some (.ref gr)) (kR : PySem.W.keepIn K (.ref gr) = true) (bR : Binds K grd ["_law_pot_here"] [])
    (GP : FnOk P w K mg base CX0 1 gp gpd ["_law_script", "_law_place"] (spPot K)) (mP : mg "_law_pot" = some (.ref gp)) (kP : PySem.W.keepIn K (.ref gp) = true) (bP : Binds K gpd ["_law_script", "_law_place"] [])
    (GC : FnOk P w K mg base CX0 1 gc gcd ["_law_script", "_law_limit"] (spCells K)) (mC : mg "_law_cells" = some (.ref gc)) (kC : PySem.W.keepIn K (.ref gc) = true) (bC : Binds K gcd ["_law_script", "_law_limit"] []) :
    GnOk P w K mg base 11 f fd ["_law_script"] (spLaw K P1) := by
  refine gn_of F scLaw (fun vs H Q E h => ?_) (fun cdv A0 outer s H vs Q hG hr h => ?_)
  · obtain ⟨a, ns, rfl, _⟩ := h
    rfl
  obtain ⟨a, ns, rfl, hS, h63, hT, q⟩ := h
  have r1 : Room 1 _ := hr.mono (by decide)
  refine ⟨_, pss_one (ps_ret (pe_callB (cr_all rfl) rfl T.all (by decide +kernel) (pa_cons (pe_lc (te := fun σ H Q => tCons (tCall (spPot K) [] E0 (tCons (tVar 0) (tCons (tVar 1) tNil))) tNil σ H fun vs H1 => spRight P1 vs H1 Q E0) (own := [("_law_place", 1)]) (g := gName 1) (tt := tYes) rfl scLaw.nd (pi_list (pe_call GC r1 rfl mC kC bC .nil pass0 (pa_cons (pv 0) (pa_cons pe_int pa_nil))))
      (blkOk_by (own := [("_law_place", 1)]) (N := nLw) (sc := defScope sLaw) (by decide +kernel)) (fun _ _ _ _ _ => pg_name (i := 1) scLaw.nd rfl (Or.inl rfl)) (fun _ _ _ _ _ => pts_nil)
      (fun _ _ _ _ _ => by exact pe_gcall GR hG hr rfl mR kR bR (pa_cons (pe_call GP r1 rfl mP kP bP .nil pass0 (pa_cons (pv 0) (pa_cons (pv 1) pa_nil))) pa_nil))) pa_nil))), ?_⟩
  refine ⟨_, rfl, a, ns, 4, rfl, hS, h63, by decide, by decide, fun lp n H1 s1 nlp n1 n63 hlp => ⟨lp, rfl, ⟨_, SqL.of hlp⟩, fun D nD => ?_⟩⟩
  refine lc_it walk_list (D := D) (g := gName 1) (tt := tYes) (te := fun σ H Q => tCons (tCall (spPot K) [] E0 (tCons (tVar 0) (tCons (tVar 1) tNil))) tNil σ H fun vs H1 => spRight P1 vs H1 Q E0) (vs := [1]) (fun i G => ExtN H1 G ∧ Tabs (tTab P1) G ∧ G D = some (.lst ((List.replicate i true).map V.bl))) ⟨ExtN.of (same_new nD _), Tabs.ext (Tabs.ext hT s1) (same_new nD _), upd_same⟩ (fun i G _ h => SqL.of (h.1 _ _ hlp (fun ps z => by cases z))) ?_ ?_
  · rintro i y G4 G5 hj ⟨e4, t4, d4⟩ ⟨rfl, hy⟩
    rw [List.length_map, List.length_range] at hj
    have ey : y = V.int (i : Nat) := by
      rw [List.getElem?_map, List.getElem?_range hj] at hy
      exact (Option.some.inj hy).symm
    subst ey
    refine ⟨rfl, _, rfl, _, rfl, a, ns, (i : Nat), rfl, SqLext e4 (s1.seq hS), h63, by omega, by omega, fun pp G2 s2 npp pot => ?_⟩
    refine ⟨pp, 0, rfl, Tabs.ext t4 s2, pot, by decide, fun G6 t6 b6 p6 => ?_⟩
    have npD : D ≠ pp := fun z => by rw [z, npp] at d4; cases d4
    have d6 := b6 _ _ (s2 _ _ d4) npD (fun ps z => by cases z)
    refine ⟨_, d6, by rw [List.length_map, List.length_replicate, sizeLine_eq]; omega, fun c o hc ht => ?_, tabs_upd d6 t6, ?_⟩
    · rw [upd_ne (fun z => by rw [z, nD] at hc; cases hc)]
      have h4 := e4 _ _ hc ht
      exact b6 c o (s2 _ _ h4) (fun z => by rw [z, npp] at h4; cases h4) ht
    · rw [upd_same, List.replicate_succ', List.map_append]
      rfl
  · rintro G4 ⟨e4, t4, d4⟩
    refine ⟨D, _, rfl, SqL.of d4, ?_⟩
    rw [all_tr]
    exact q G4
end
end K56
set_option Elab.async false
set_option linter.all false
set_option maxRecDepth 100000
set_option maxHeartbeats 4000000
namespace LG
open PySem PySem.Spec PyProof.Rows L2 LamX
theorem g_walkU {l : PySem.W.OpenLaw} {k : Nat} {q : Program} {loose : List Str} {XP : (Str → Option Value) → Heap → Prop} {YP : World → Heap → Prop} {d : DefRec} {K : Params → PySem.W.Frag} {x : Str}
    (most : l.most = some 63) (nodef : d.params.defaults = []) (hr : Room k callerA) (inK : ∀ (w : World) (h : Heap), YP w h → (K w.params).In h)
    (F : ∀ (w : World) (mg mb : Str → Option Value) (fa : Addr) (h : Heap) (mean : ExcName → Option Value), YP w h → PyProof.Rows.Top q (PySem.W.looseW q loose) mean mg mb h → (K w.params).In h → h.Ns mainGlobals mg → mg d.name = some (.ref fa) → GLawAt l w (K w.params) k x mg fa h) :
    PySem.W.WalkO q loose XP YP l.row.toRowW d [] (fun f vs => PySem.call f vs) := by
  refine Att.attach_call most nodef fun w s₀ s₁ mg mb fa o pm cd doc a vs ns G Y ho hd hcd hmg hobj hints hlen hg => ?_
  have KX := inK w _ Y
  obtain ⟨fd, cs, sp, hT, nT, C, hb, hsp, hF⟩ := F w mg mb fa _ _ Y G.T KX G.T.g hmg
  exact g_lawT KX G.T.g G.T.b G.T.builtins G.T.nolimit hg hT nT C G.T.bmain hobj hints (Nat.le_trans hlen (by decide)) hr hF hb fun H hH hS => hsp H a ns hlen hH hS
def errsB (K : PySem.W.Frag) (fI B : Addr) (Cs : List Addr) : Bool :=
  (Cs.all fun C => errB K C (.ref B :: PySem.HandSPX.veTail)) && ((Cs.all fun C => decide (PySem.W.findIn K (.ref C) "__init__" = some (some (.ref fI))) && (decide (PySem.W.findIn K (.ref C) "value" = some none) && decide (PySem.W.exmOne K (.ref C) (.ref B) = some true))) &&
  (decide (PySem.W.specialIn K (.builtin "object.__class__") "__get__" = some (some (.builtin "getset_descriptor.__get__"))) && (decide (PySem.W.takesIn K (.builtin "object.__class__") = some true) && decide (PySem.W.typeIn K (.ref fI) = some (.type "function")))))
structure ErrsF (K : PySem.W.Frag) (fI B : Addr) (Cs : List Addr) : Prop where
  each : ∀ C ∈ Cs, errB K C (.ref B :: PySem.HandSPX.veTail) = true
  ini : ∀ C ∈ Cs, PySem.W.findIn K (.ref C) "__init__" = some (some (.ref fI))
  val : ∀ C ∈ Cs, PySem.W.findIn K (.ref C) "value" = some none
  box : ∀ C ∈ Cs, PySem.W.exmOne K (.ref C) (.ref B) = some true
  dsc : ClsD K
  fn : PySem.W.typeIn K (.ref fI) = some (.type "function")
theorem errsB_ok {K : PySem.W.Frag} {fI B : Addr} {Cs : List Addr} (h : errsB K fI B Cs = true) : ErrsF K fI B Cs := by
  unfold errsB at h
  simp only [Bool.and_eq_true] at h
  obtain ⟨h2, h3, h7, h8, h9⟩ := h
  have h3' := List.all_eq_true.mp h3
  refine ⟨fun C hC => List.all_eq_true.mp h2 C hC, fun C hC => ?_, fun C hC => ?_, fun C hC => ?_, ⟨of_decide_eq_true h7, of_decide_eq_true h8⟩, of_decide_eq_true h9⟩
  · have := h3' C hC
    simp only [Bool.and_eq_true] at this
    exact of_decide_eq_true this.1
  · have := h3' C hC
    simp only [Bool.and_eq_true] at this
    exact of_decide_eq_true this.2.1
  · have := h3' C hC
    simp only [Bool.and_eq_true] at this
    exact of_decide_eq_true this.2.2
end LG
namespace K56
open PySem L2 LG LamX
def devB (K : PySem.W.Frag) (C : Addr) : Bool :=
  PySem.W.plainGet K C Str.empty && (PySem.W.hasDictIn K C && (PySem.W.plainOver K C && (decide (PySem.W.findIn K (.ref C) "__setattr__" = some (some (.builtin "object.__setattr__"))) &&
  (decide (PySem.W.findIn K (.ref C) "text" = some none) && (decide (PySem.W.findIn K (.ref C) "calls" = some none) && (decide (PySem.W.findIn K (.ref C) "answers" = some none) && (decide (PySem.W.findIn K (.ref C) "marks" = some none) && (decide (PySem.W.findIn K (.ref C) "_goals" = some none) &&
  (decide (PySem.W.findIn K (.ref C) "__class__" = some (some (.builtin "object.__class__"))) && (decide (PySem.W.specialIn K (.builtin "object.__class__") "__get__" = some (some (.builtin "getset_descriptor.__get__"))) && (decide (PySem.W.takesIn K (.builtin "object.__class__") = some true) && (decide (PySem.W.mroIn K C (.type "object") = some true) &&
  (PySem.W.makesIn K C && (PySem.W.keepIn K (.ref C) && (decide (PySem.W.findIn K (.ref C) "__ne__" = some (some (.builtin "object.__ne__"))) && (tyNames.all fun T => decide (PySem.W.kitOne K (.type T) (.ref C) = some false) && PySem.W.notFirst K C (.type T)))))))))))))))))
theorem devB_ok {K : PySem.W.Frag} {C : Addr} (h : devB K C = true) : (∀ mg : Str → Option Value, mg "Watch" = some (.ref C) → DevCl K mg C) ∧ DevIs K C ∧ PySem.W.makesIn K C = true ∧ PySem.W.keepIn K (.ref C) = true ∧ PySem.W.findIn K (.ref C) "__ne__" = some (some (.builtin "object.__ne__")) ∧
    ∀ T ∈ tyNames, PySem.W.kitOne K (.type T) (.ref C) = some false ∧ PySem.W.notFirst K C (.type T) = true := by
  unfold devB at h
  simp only [Bool.and_eq_true, decide_eq_true_eq] at h
  obtain ⟨h1, h2, h3, h4, t1, t2, t3, t4, t5, k1, k2, k3, k4, m1, m2, m3, m4⟩ := h
  refine ⟨fun mg hm => ⟨hm, ⟨h1, h2, h3, h4⟩, t1, t2, t3, t4, t5⟩, ⟨k1, k2, k3, k4⟩, m1, m2, m3, fun T hT => ?_⟩
  have := List.all_eq_true.mp m4 T hT
  simp only [Bool.and_eq_true, decide_eq_true_eq] at this
  exact this
section
variable {P : Program} {w : World} {K : PySem.W.Frag} {mg : Str → Option Value} {base : Heap}
theorem scInit : FnScope ["self", "value"] ["self", "value"] (defScope sInit) := ⟨rfl, rfl, rfl, by decide +kernel, rfl, by decide +kernel, by decide +kernel⟩
theorem ok_init {f : Addr} {fd : FuncData} (F : Fun K "__init__" "BoxError.__init__" sInit f fd) : FnOk P w K mg base CX0 1 f fd ["self", "value"] (spInit K) := by
  refine F.ok scInit (fun vs H Q E h => ?_) (fun cdv A outer s H vs Q E hr h => ?_)
  · obtain ⟨a, C, v, rfl, _⟩ := h
    rfl
  obtain ⟨a, C, v, rfl, T, no, ha, q⟩ := h
  refine ⟨_, pss_one (ps_ost (pv 0) (pv 1)), ?_⟩
  exact ⟨_, rfl, _, rfl, a, C, rfl, T, no, .inl ⟨ha, fun d nd ne => q d nd ne⟩⟩
end
end K56
set_option Elab.async false
set_option linter.all false
set_option maxRecDepth 100000
set_option maxHeartbeats 8000000
namespace K56
open PySem L2 LG LamX
theorem all_mk {l : PySem.W.OpenLaw} {w : World} {K : PySem.W.Frag} {h : Heap} {mg : Str → Option Value} {fa B C CL CB hA a0 a1 a2  cDu P1 fIsName fNamesIn fReadHeads fAmong fIsPair fIsRow fReadSteps fIsLine fSafe fVerdict fWay fTake fOf fSome fPot fAny fHeard fCells fTold fIsOf fRaised fOdd fBent fWatch fWText fStepL fLogged fSafeL fLog fIsLog fDue fRight fLaw fInit fDInit fBehind fStep : Addr}
    {odIsName anIsName odNamesIn anNamesIn odReadHeads anReadHeads odAmong anAmong odIsPair anIsPair odIsRow anIsRow odReadSteps anReadSteps odIsLine anIsLine odSafe anSafe odVerdict anVerdict odWay anWay odTake anTake odOf anOf odSome anSome odPot anPot odAny anAny odHeard anHeard odCells anCells odTold anTold odIsOf anIsOf odRaised anRaised odOdd anOdd odBent anBent odWatch anWatch odWText anWText odStepL anStepL odLogged anLogged odSafeL anSafeL odLog anLog odIsLog anIsLog odDue anDue odRight anRight odLaw anLaw odInit anInit odDInit anDInit odBehind anBehind odStep anStep dH dH0 dH1 dH2 dKDue : Option Addr} {slIsName slNamesIn slReadHeads slAmong slIsPair slIsRow slReadSteps slIsLine slSafe slVerdict slWay slTake slOf slSome slPot slAny slHeard slCells slTold slIsOf slRaised slOdd slBent slWatch slWText slStepL slLogged slSafeL slLog slIsLog slDue slRight slLaw slInit slDInit slBehind slStep slH slH0 slH1 slH2 slKDue : Array (Option Value)} {ocIsName kVIsName dcIsName pmIsName cdIsName ctIsName ocNamesIn kVNamesIn dcNamesIn pmNamesIn cdNamesIn ctNamesIn ocReadHeads kVReadHeads dcReadHeads pmReadHeads cdReadHeads ctReadHeads ocAmong kVAmong dcAmong pmAmong cdAmong ctAmong ocIsPair kVIsPair dcIsPair pmIsPair cdIsPair ctIsPair ocIsRow kVIsRow dcIsRow pmIsRow cdIsRow ctIsRow ocReadSteps kVReadSteps dcReadSteps pmReadSteps cdReadSteps ctReadSteps ocIsLine kVIsLine dcIsLine pmIsLine cdIsLine ctIsLine ocSafe kVSafe dcSafe pmSafe cdSafe ctSafe ocVerdict kVVerdict dcVerdict pmVerdict cdVerdict ctVerdict ocWay kVWay dcWay pmWay cdWay ctWay ocTake kVTake dcTake pmTake cdTake ctTake ocOf kVOf dcOf pmOf cdOf ctOf ocSome kVSome dcSome pmSome cdSome ctSome ocPot kVPot dcPot pmPot cdPot ctPot ocAny kVAny dcAny pmAny cdAny ctAny ocHeard kVHeard dcHeard pmHeard cdHeard ctHeard ocCells kVCells dcCells pmCells cdCells ctCells ocTold kVTold dcTold pmTold cdTold ctTold ocIsOf kVIsOf dcIsOf pmIsOf cdIsOf ctIsOf ocRaised kVRaised dcRaised pmRaised cdRaised ctRaised ocOdd kVOdd dcOdd pmOdd cdOdd ctOdd ocBent kVBent dcBent pmBent cdBent ctBent ocWatch kVWatch dcWatch pmWatch cdWatch ctWatch ocWText kVWText dcWText pmWText cdWText ctWText ocStepL kVStepL dcStepL pmStepL cdStepL ctStepL ocLogged kVLogged dcLogged pmLogged cdLogged ctLogged ocSafeL kVSafeL dcSafeL pmSafeL cdSafeL ctSafeL ocLog kVLog dcLog pmLog cdLog ctLog ocIsLog kVIsLog dcIsLog pmIsLog cdIsLog ctIsLog ocRight kVRight dcRight pmRight cdRight ctRight ocLaw kVLaw dcLaw pmLaw cdLaw ctLaw ocInit kVInit dcInit pmInit cdInit ctInit ocDInit kVDInit dcDInit pmDInit cdDInit ctDInit ocBehind kVBehind dcBehind pmBehind cdBehind ctBehind ocStep kVStep dcStep pmStep cdStep ctStep ocDue kVDue dcDue pmDue ctDue : Value} {vKDue : Array Value} {nH nH0 nH1 nH2 : Nat} {tL tF tMS tBrk tw0 tw1 tw2 tx0 tx1 tx2 ty0 ty1 ty2 : Tok} (X : K.In h) (G : h.Ns mainGlobals mg) (hfa : mg "law" = some (.ref fa))
    (tab1 : PySem.W.tabIn K "_law_is_due" = some (cDu, P1) → PySem.W.CodeHd h cDu P1 ∧ h.get? P1 = some (PySem.W.tabObj #[]))
    (aB : PySem.W.nsIn K mainGlobals "BoxError" = some (some (.ref B)))
    (eCL : PySem.W.nsIn K mainGlobals "BadLog" = some (some (.ref CL)))
    (eCB : PySem.W.nsIn K mainGlobals "BadWatch" = some (some (.ref CB)))
    (aC : PySem.W.nsIn K mainGlobals "Watch" = some (some (.ref C)))
    (aInit : PySem.W.findIn K (.ref B) "__init__" = some (some (.ref fInit)))
    (lInit : K.lookup fInit = some ⟨ocInit, odInit, .func (PySem.W.fnOf "__init__" "BoxError.__init__" (defArgs sInit) (defBody sInit) (defScope sInit) .none kVInit dcInit pmInit anInit cdInit ctInit), slInit⟩)
    (cInit : PySem.W.codeIn K cdInit "BoxError.__init__" = true)
    (kInit : PySem.W.keepIn K (.ref fInit) = true)
    (nInit : PySem.W.isFn K (.ref fInit) = true)
    (aDInit : PySem.W.findIn K (.ref C) "__init__" = some (some (.ref fDInit)))
    (lDInit : K.lookup fDInit = some ⟨ocDInit, odDInit, .func (PySem.W.fnOf "__init__" "Watch.__init__" (defArgs sDInit) (defBody sDInit) (defScope sDInit) .none kVDInit dcDInit pmDInit anDInit cdDInit ctDInit), slDInit⟩)
    (cDInit : PySem.W.codeIn K cdDInit "Watch.__init__" = true)
    (kDInit : PySem.W.keepIn K (.ref fDInit) = true)
    (nDInit : PySem.W.isFn K (.ref fDInit) = true)
    (aBehind : PySem.W.findIn K (.ref C) "behind" = some (some (.ref fBehind)))
    (lBehind : K.lookup fBehind = some ⟨ocBehind, odBehind, .func (PySem.W.fnOf "behind" "Watch.behind" (defArgs sDBehind) (defBody sDBehind) (defScope sDBehind) .none kVBehind dcBehind pmBehind anBehind cdBehind ctBehind), slBehind⟩)
    (cBehind : PySem.W.codeIn K cdBehind "Watch.behind" = true)
    (kBehind : PySem.W.keepIn K (.ref fBehind) = true)
    (nBehind : PySem.W.isFn K (.ref fBehind) = true)
    (aStep : PySem.W.findIn K (.ref C) "step" = some (some (.ref fStep)))
    (lStep : K.lookup fStep = some ⟨ocStep, odStep, .func (PySem.W.fnOf "step" "Watch.step" (defArgs sDStep) (defBody sDStep) (defScope sDStep) .none kVStep dcStep pmStep anStep cdStep ctStep), slStep⟩)
    (cStep : PySem.W.codeIn K cdStep "Watch.step" = true)
    (kStep : PySem.W.keepIn K (.ref fStep) = true)
    (nStep : PySem.W.isFn K (.ref fStep) = true)
    (aIsName : PySem.W.nsIn K mainGlobals "is_name" = some (some (.ref fIsName)))
    (lIsName : K.lookup fIsName = some ⟨ocIsName, odIsName, .func (PySem.W.fnOf "is_name" "is_name" (defArgs sIsName) (defBody sIsName) (defScope sIsName) .none kVIsName dcIsName pmIsName anIsName cdIsName ctIsName), slIsName⟩)
    (cIsName : PySem.W.codeIn K cdIsName "is_name" = true)
    (kIsName : PySem.W.keepIn K (.ref fIsName) = true)
    (aNamesIn : PySem.W.nsIn K mainGlobals "names_in" = some (some (.ref fNamesIn)))
    (lNamesIn : K.lookup fNamesIn = some ⟨ocNamesIn, odNamesIn, .func (PySem.W.fnOf "names_in" "names_in" (defArgs sNamesIn) (defBody sNamesIn) (defScope sNamesIn) .none kVNamesIn dcNamesIn pmNamesIn anNamesIn cdNamesIn ctNamesIn), slNamesIn⟩)
    (cNamesIn : PySem.W.codeIn K cdNamesIn "names_in" = true)
    (kNamesIn : PySem.W.keepIn K (.ref fNamesIn) = true)
    (aReadHeads : PySem.W.nsIn K mainGlobals "read_heads" = some (some (.ref fReadHeads)))
    (lReadHeads : K.lookup fReadHeads = some ⟨ocReadHeads, odReadHeads, .func (PySem.W.fnOf "read_heads" "read_heads" (defArgs sReadHeads) (defBody sReadHeads) (defScope sReadHeads) .none kVReadHeads dcReadHeads pmReadHeads anReadHeads cdReadHeads ctReadHeads), slReadHeads⟩)
    (cReadHeads : PySem.W.codeIn K cdReadHeads "read_heads" = true)
    (kReadHeads : PySem.W.keepIn K (.ref fReadHeads) = true)
    (aAmong : PySem.W.nsIn K mainGlobals "is_among" = some (some (.ref fAmong)))
    (lAmong : K.lookup fAmong = some ⟨ocAmong, odAmong, .func (PySem.W.fnOf "is_among" "is_among" (defArgs sIsAmong) (defBody sIsAmong) (defScope sIsAmong) .none kVAmong dcAmong pmAmong anAmong cdAmong ctAmong), slAmong⟩)
    (cAmong : PySem.W.codeIn K cdAmong "is_among" = true)
    (kAmong : PySem.W.keepIn K (.ref fAmong) = true)
    (aIsPair : PySem.W.nsIn K mainGlobals "is_pair" = some (some (.ref fIsPair)))
    (lIsPair : K.lookup fIsPair = some ⟨ocIsPair, odIsPair, .func (PySem.W.fnOf "is_pair" "is_pair" (defArgs sIsPair) (defBody sIsPair) (defScope sIsPair) .none kVIsPair dcIsPair pmIsPair anIsPair cdIsPair ctIsPair), slIsPair⟩)
    (cIsPair : PySem.W.codeIn K cdIsPair "is_pair" = true)
    (kIsPair : PySem.W.keepIn K (.ref fIsPair) = true)
    (aIsRow : PySem.W.nsIn K mainGlobals "is_row" = some (some (.ref fIsRow)))
    (lIsRow : K.lookup fIsRow = some ⟨ocIsRow, odIsRow, .func (PySem.W.fnOf "is_row" "is_row" (defArgs sIsRow) (defBody sIsRow) (defScope sIsRow) .none kVIsRow dcIsRow pmIsRow anIsRow cdIsRow ctIsRow), slIsRow⟩)
    (cIsRow : PySem.W.codeIn K cdIsRow "is_row" = true)
    (kIsRow : PySem.W.keepIn K (.ref fIsRow) = true)
    (aReadSteps : PySem.W.nsIn K mainGlobals "read_steps" = some (some (.ref fReadSteps)))
    (lReadSteps : K.lookup fReadSteps = some ⟨ocReadSteps, odReadSteps, .func (PySem.W.fnOf "read_steps" "read_steps" (defArgs sReadSteps) (defBody sReadSteps) (defScope sReadSteps) .none kVReadSteps dcReadSteps pmReadSteps anReadSteps cdReadSteps ctReadSteps), slReadSteps⟩)
    (cReadSteps : PySem.W.codeIn K cdReadSteps "read_steps" = true)
    (kReadSteps : PySem.W.keepIn K (.ref fReadSteps) = true)
    (aIsLine : PySem.W.nsIn K mainGlobals "is_line_of_step" = some (some (.ref fIsLine)))
    (lIsLine : K.lookup fIsLine = some ⟨ocIsLine, odIsLine, .func (PySem.W.fnOf "is_line_of_step" "is_line_of_step" (defArgs sIsLine) (defBody sIsLine) (defScope sIsLine) .none kVIsLine dcIsLine pmIsLine anIsLine cdIsLine ctIsLine), slIsLine⟩)
    (cIsLine : PySem.W.codeIn K cdIsLine "is_line_of_step" = true)
    (kIsLine : PySem.W.keepIn K (.ref fIsLine) = true)
    (aSafe : PySem.W.nsIn K mainGlobals "safe" = some (some (.ref fSafe)))
    (lSafe : K.lookup fSafe = some ⟨ocSafe, odSafe, .func (PySem.W.fnOf "safe" "safe" (defArgs sSafe) (defBody sSafe) (defScope sSafe) .none kVSafe dcSafe pmSafe anSafe cdSafe ctSafe), slSafe⟩)
    (cSafe : PySem.W.codeIn K cdSafe "safe" = true)
    (kSafe : PySem.W.keepIn K (.ref fSafe) = true)
    (aVerdict : PySem.W.nsIn K mainGlobals "verdict" = some (some (.ref fVerdict)))
    (lVerdict : K.lookup fVerdict = some ⟨ocVerdict, odVerdict, .func (PySem.W.fnOf "verdict" "verdict" (defArgs sVerdict) (defBody sVerdict) (defScope sVerdict) .none kVVerdict dcVerdict pmVerdict anVerdict cdVerdict ctVerdict), slVerdict⟩)
    (cVerdict : PySem.W.codeIn K cdVerdict "verdict" = true)
    (kVerdict : PySem.W.keepIn K (.ref fVerdict) = true)
    (aWay : PySem.W.nsIn K mainGlobals "way_to_broken" = some (some (.ref fWay)))
    (lWay : K.lookup fWay = some ⟨ocWay, odWay, .func (PySem.W.fnOf "way_to_broken" "way_to_broken" (defArgs sWay) (defBody sWay) (defScope sWay) .none kVWay dcWay pmWay anWay cdWay ctWay), slWay⟩)
    (cWay : PySem.W.codeIn K cdWay "way_to_broken" = true)
    (kWay : PySem.W.keepIn K (.ref fWay) = true)
    (aTake : PySem.W.nsIn K mainGlobals "_law_take" = some (some (.ref fTake)))
    (lTake : K.lookup fTake = some ⟨ocTake, odTake, .func (PySem.W.fnOf "_law_take" "_law_take" (defArgs sTake) (defBody sTake) (defScope sTake) .none kVTake dcTake pmTake anTake cdTake ctTake), slTake⟩)
    (cTake : PySem.W.codeIn K cdTake "_law_take" = true)
    (kTake : PySem.W.keepIn K (.ref fTake) = true)
    (aOf : PySem.W.nsIn K mainGlobals "_law_of" = some (some (.ref fOf)))
    (lOf : K.lookup fOf = some ⟨ocOf, odOf, .func (PySem.W.fnOf "_law_of" "_law_of" (defArgs sOf) (defBody sOf) (defScope sOf) .none kVOf dcOf pmOf anOf cdOf ctOf), slOf⟩)
    (cOf : PySem.W.codeIn K cdOf "_law_of" = true)
    (kOf : PySem.W.keepIn K (.ref fOf) = true)
    (aSome : PySem.W.nsIn K mainGlobals "_law_some" = some (some (.ref fSome)))
    (lSome : K.lookup fSome = some ⟨ocSome, odSome, .func (PySem.W.fnOf "_law_some" "_law_some" (defArgs sSome) (defBody sSome) (defScope sSome) .none kVSome dcSome pmSome anSome cdSome ctSome), slSome⟩)
    (cSome : PySem.W.codeIn K cdSome "_law_some" = true)
    (kSome : PySem.W.keepIn K (.ref fSome) = true)
    (aPot : PySem.W.nsIn K mainGlobals "_law_pot" = some (some (.ref fPot)))
    (lPot : K.lookup fPot = some ⟨ocPot, odPot, .func (PySem.W.fnOf "_law_pot" "_law_pot" (defArgs sPot) (defBody sPot) (defScope sPot) .none kVPot dcPot pmPot anPot cdPot ctPot), slPot⟩)
    (cPot : PySem.W.codeIn K cdPot "_law_pot" = true)
    (kPot : PySem.W.keepIn K (.ref fPot) = true)
    (aAny : PySem.W.nsIn K mainGlobals "_law_any_device" = some (some (.ref fAny)))
    (lAny : K.lookup fAny = some ⟨ocAny, odAny, .func (PySem.W.fnOf "_law_any_device" "_law_any_device" (defArgs sAny) (defBody sAny) (defScope sAny) .none kVAny dcAny pmAny anAny cdAny ctAny), slAny⟩)
    (cAny : PySem.W.codeIn K cdAny "_law_any_device" = true)
    (kAny : PySem.W.keepIn K (.ref fAny) = true)
    (aHeard : PySem.W.nsIn K mainGlobals "_law_heard" = some (some (.ref fHeard)))
    (lHeard : K.lookup fHeard = some ⟨ocHeard, odHeard, .func (PySem.W.fnOf "_law_heard" "_law_heard" (defArgs sHeardL) (defBody sHeardL) (defScope sHeardL) .none kVHeard dcHeard pmHeard anHeard cdHeard ctHeard), slHeard⟩)
    (cHeard : PySem.W.codeIn K cdHeard "_law_heard" = true)
    (kHeard : PySem.W.keepIn K (.ref fHeard) = true)
    (aCells : PySem.W.nsIn K mainGlobals "_law_cells" = some (some (.ref fCells)))
    (lCells : K.lookup fCells = some ⟨ocCells, odCells, .func (PySem.W.fnOf "_law_cells" "_law_cells" (defArgs sCells) (defBody sCells) (defScope sCells) .none kVCells dcCells pmCells anCells cdCells ctCells), slCells⟩)
    (cCells : PySem.W.codeIn K cdCells "_law_cells" = true)
    (kCells : PySem.W.keepIn K (.ref fCells) = true)
    (aTold : PySem.W.nsIn K mainGlobals "_law_heard_of" = some (some (.ref fTold)))
    (lTold : K.lookup fTold = some ⟨ocTold, odTold, .func (PySem.W.fnOf "_law_heard_of" "_law_heard_of" (defArgs sTold) (defBody sTold) (defScope sTold) .none kVTold dcTold pmTold anTold cdTold ctTold), slTold⟩)
    (cTold : PySem.W.codeIn K cdTold "_law_heard_of" = true)
    (kTold : PySem.W.keepIn K (.ref fTold) = true)
    (aIsOf : PySem.W.nsIn K mainGlobals "_law_is_of" = some (some (.ref fIsOf)))
    (lIsOf : K.lookup fIsOf = some ⟨ocIsOf, odIsOf, .func (PySem.W.fnOf "_law_is_of" "_law_is_of" (defArgs sIsOf) (defBody sIsOf) (defScope sIsOf) .none kVIsOf dcIsOf pmIsOf anIsOf cdIsOf ctIsOf), slIsOf⟩)
    (cIsOf : PySem.W.codeIn K cdIsOf "_law_is_of" = true)
    (kIsOf : PySem.W.keepIn K (.ref fIsOf) = true)
    (aRaised : PySem.W.nsIn K mainGlobals "_law_is_raised" = some (some (.ref fRaised)))
    (lRaised : K.lookup fRaised = some ⟨ocRaised, odRaised, .func (PySem.W.fnOf "_law_is_raised" "_law_is_raised" (defArgs sRaised) (defBody sRaised) (defScope sRaised) .none kVRaised dcRaised pmRaised anRaised cdRaised ctRaised), slRaised⟩)
    (cRaised : PySem.W.codeIn K cdRaised "_law_is_raised" = true)
    (kRaised : PySem.W.keepIn K (.ref fRaised) = true)
    (aOdd : PySem.W.nsIn K mainGlobals "_law_odd" = some (some (.ref fOdd)))
    (lOdd : K.lookup fOdd = some ⟨ocOdd, odOdd, .func (PySem.W.fnOf "_law_odd" "_law_odd" (defArgs sOdd) (defBody sOdd) (defScope sOdd) .none kVOdd dcOdd pmOdd anOdd cdOdd ctOdd), slOdd⟩)
    (cOdd : PySem.W.codeIn K cdOdd "_law_odd" = true)
    (kOdd : PySem.W.keepIn K (.ref fOdd) = true)
    (aBent : PySem.W.nsIn K mainGlobals "_law_bent" = some (some (.ref fBent)))
    (lBent : K.lookup fBent = some ⟨ocBent, odBent, .func (PySem.W.fnOf "_law_bent" "_law_bent" (defArgs sBent) (defBody sBent) (defScope sBent) .none kVBent dcBent pmBent anBent cdBent ctBent), slBent⟩)
    (cBent : PySem.W.codeIn K cdBent "_law_bent" = true)
    (kBent : PySem.W.keepIn K (.ref fBent) = true)
    (aWatch : PySem.W.nsIn K mainGlobals "_law_watch" = some (some (.ref fWatch)))
    (lWatch : K.lookup fWatch = some ⟨ocWatch, odWatch, .func (PySem.W.fnOf "_law_watch" "_law_watch" (defArgs sWatch) (defBody sWatch) (defScope sWatch) .none kVWatch dcWatch pmWatch anWatch cdWatch ctWatch), slWatch⟩)
    (cWatch : PySem.W.codeIn K cdWatch "_law_watch" = true)
    (kWatch : PySem.W.keepIn K (.ref fWatch) = true)
    (aWText : PySem.W.nsIn K mainGlobals "_law_watch_text" = some (some (.ref fWText)))
    (lWText : K.lookup fWText = some ⟨ocWText, odWText, .func (PySem.W.fnOf "_law_watch_text" "_law_watch_text" (defArgs sWText) (defBody sWText) (defScope sWText) .none kVWText dcWText pmWText anWText cdWText ctWText), slWText⟩)
    (cWText : PySem.W.codeIn K cdWText "_law_watch_text" = true)
    (kWText : PySem.W.keepIn K (.ref fWText) = true)
    (aStepL : PySem.W.nsIn K mainGlobals "_law_step" = some (some (.ref fStepL)))
    (lStepL : K.lookup fStepL = some ⟨ocStepL, odStepL, .func (PySem.W.fnOf "_law_step" "_law_step" (defArgs sStepL) (defBody sStepL) (defScope sStepL) .none kVStepL dcStepL pmStepL anStepL cdStepL ctStepL), slStepL⟩)
    (cStepL : PySem.W.codeIn K cdStepL "_law_step" = true)
    (kStepL : PySem.W.keepIn K (.ref fStepL) = true)
    (aLogged : PySem.W.nsIn K mainGlobals "_law_logged" = some (some (.ref fLogged)))
    (lLogged : K.lookup fLogged = some ⟨ocLogged, odLogged, .func (PySem.W.fnOf "_law_logged" "_law_logged" (defArgs sLogged) (defBody sLogged) (defScope sLogged) .none kVLogged dcLogged pmLogged anLogged cdLogged ctLogged), slLogged⟩)
    (cLogged : PySem.W.codeIn K cdLogged "_law_logged" = true)
    (kLogged : PySem.W.keepIn K (.ref fLogged) = true)
    (aSafeL : PySem.W.nsIn K mainGlobals "_law_safe" = some (some (.ref fSafeL)))
    (lSafeL : K.lookup fSafeL = some ⟨ocSafeL, odSafeL, .func (PySem.W.fnOf "_law_safe" "_law_safe" (defArgs sSafeL) (defBody sSafeL) (defScope sSafeL) .none kVSafeL dcSafeL pmSafeL anSafeL cdSafeL ctSafeL), slSafeL⟩)
    (cSafeL : PySem.W.codeIn K cdSafeL "_law_safe" = true)
    (kSafeL : PySem.W.keepIn K (.ref fSafeL) = true)
    (aLog : PySem.W.nsIn K mainGlobals "_law_log" = some (some (.ref fLog)))
    (lLog : K.lookup fLog = some ⟨ocLog, odLog, .func (PySem.W.fnOf "_law_log" "_law_log" (defArgs sLog) (defBody sLog) (defScope sLog) .none kVLog dcLog pmLog anLog cdLog ctLog), slLog⟩)
    (cLog : PySem.W.codeIn K cdLog "_law_log" = true)
    (kLog : PySem.W.keepIn K (.ref fLog) = true)
    (aIsLog : PySem.W.nsIn K mainGlobals "_law_is_log" = some (some (.ref fIsLog)))
    (lIsLog : K.lookup fIsLog = some ⟨ocIsLog, odIsLog, .func (PySem.W.fnOf "_law_is_log" "_law_is_log" (defArgs sIsLog) (defBody sIsLog) (defScope sIsLog) .none kVIsLog dcIsLog pmIsLog anIsLog cdIsLog ctIsLog), slIsLog⟩)
    (cIsLog : PySem.W.codeIn K cdIsLog "_law_is_log" = true)
    (kIsLog : PySem.W.keepIn K (.ref fIsLog) = true)
    (aDue : PySem.W.nsIn K mainGlobals "_law_is_due" = some (some (.ref fDue)))
    (lDue : K.lookup fDue = some ⟨ocDue, odDue, .func (PySem.W.fnOf "_law_is_due" "_law_is_due" (defArgs sDue) (defBody sDue) (defScope sDue) .none kVDue dcDue pmDue anDue (.ref cDu) ctDue), slDue⟩)
    (cDue : PySem.W.codeIn K (.ref cDu) "_law_is_due" = true)
    (kDue : PySem.W.keepIn K (.ref fDue) = true)
    (aRight : PySem.W.nsIn K mainGlobals "_law_right" = some (some (.ref fRight)))
    (lRight : K.lookup fRight = some ⟨ocRight, odRight, .func (PySem.W.fnOf "_law_right" "_law_right" (defArgs sRight) (defBody sRight) (defScope sRight) .none kVRight dcRight pmRight anRight cdRight ctRight), slRight⟩)
    (cRight : PySem.W.codeIn K cdRight "_law_right" = true)
    (kRight : PySem.W.keepIn K (.ref fRight) = true)
    (aLaw : PySem.W.nsIn K mainGlobals "law" = some (some (.ref fLaw)))
    (lLaw : K.lookup fLaw = some ⟨ocLaw, odLaw, .func (PySem.W.fnOf "law" "law" (defArgs sLaw) (defBody sLaw) (defScope sLaw) .none kVLaw dcLaw pmLaw anLaw cdLaw ctLaw), slLaw⟩)
    (cLaw : PySem.W.codeIn K cdLaw "law" = true)
    (kLaw : PySem.W.keepIn K (.ref fLaw) = true)
    (z0 : PySem.W.nsIn K mainGlobals "len" = some none)
    (z1 : PySem.W.nsIn K mainGlobals "sum" = some none)
    (z2 : PySem.W.nsIn K mainGlobals "int" = some none)
    (z3 : PySem.W.nsIn K mainGlobals "abs" = some none)
    (z4 : PySem.W.nsIn K mainGlobals "list" = some none)
    (z5 : PySem.W.nsIn K mainGlobals "range" = some none)
    (z6 : PySem.W.nsIn K mainGlobals "max" = some none)
    (z7 : PySem.W.nsIn K mainGlobals "min" = some none)
    (z8 : PySem.W.nsIn K mainGlobals "isinstance" = some none)
    (z9 : PySem.W.nsIn K mainGlobals "tuple" = some none)
    (z10 : PySem.W.nsIn K mainGlobals "bool" = some none)
    (z11 : PySem.W.nsIn K mainGlobals "str" = some none)
    (z12 : PySem.W.nsIn K mainGlobals "enumerate" = some none)
    (z13 : PySem.W.nsIn K mainGlobals "repr" = some none)
    (z14 : PySem.W.nsIn K mainGlobals "all" = some none)
    (z15 : PySem.W.nsIn K mainGlobals "ValueError" = some none)
    (z16 : PySem.W.nsIn K mainGlobals "set" = some none)
    (z17 : PySem.W.nsIn K mainGlobals "dict" = some none)
    (z18 : PySem.W.nsIn K mainGlobals "zip" = some none)
    (aL : PySem.W.nsIn K mainGlobals "LETTERS" = some (some (.str LET tL)))
    (aF : PySem.W.nsIn K mainGlobals "FIGURES" = some (some (.str FIG tF)))
    (aMS : PySem.W.nsIn K mainGlobals "MOST_STEPS" = some (some (.int 24 tMS)))
    (aH : PySem.W.nsIn K mainGlobals "HEADS" = some (some (.ref hA)))
    (h0 : K.lookup hA = some ⟨.type "tuple", dH, .seq #[.ref a0, .ref a1, .ref a2] nH, slH⟩)
    (h1 : K.lookup a0 = some ⟨.type "tuple", dH0, .seq #[.str "calls" tw0, .int 1 tx0, .int 3 ty0] nH0, slH0⟩)
    (h2 : K.lookup a1 = some ⟨.type "tuple", dH1, .seq #[.str "answers" tw1, .int 2 tx1, .int 3 ty1] nH1, slH1⟩)
    (h3 : K.lookup a2 = some ⟨.type "tuple", dH2, .seq #[.str "marks" tw2, .int 1 tx2, .int 4 ty2] nH2, slH2⟩)
    (KcDu : K.lookup cDu = some ⟨.type "code", dKDue, .fields vKDue, slKDue⟩)
    (hP1 : vKDue[11]? = some (Value.ref P1))
    (nP1 : K.lookup P1 = none)
    (tb1 : PySem.W.tabIn K "_law_is_due" = some (cDu, P1))
    (eb : errsB K fInit B [CL, CB] = true)
    (db : devB K C = true)
    (aBrk : PySem.W.nsIn K mainGlobals "BROKEN" = some (some (.str BRK tBrk))) :
    GLawAt l w K 11 "_law_script" mg fa h := by
  have e := hfa.symm.trans (PySem.W.mg_of X G aLaw)
  cases e
  have T : Bltn mg := ⟨PySem.W.mg_none_of X G z0, PySem.W.mg_none_of X G z1, PySem.W.mg_none_of X G z2, PySem.W.mg_none_of X G z3, PySem.W.mg_none_of X G z4, PySem.W.mg_none_of X G z5, PySem.W.mg_none_of X G z6, PySem.W.mg_none_of X G z7, PySem.W.mg_none_of X G z8, PySem.W.mg_none_of X G z9, PySem.W.mg_none_of X G z10, PySem.W.mg_none_of X G z11, PySem.W.mg_none_of X G z12, PySem.W.mg_none_of X G z13, PySem.W.mg_none_of X G z14, PySem.W.mg_none_of X G z15, PySem.W.mg_none_of X G z16⟩
  have mDict := PySem.W.mg_none_of X G z17
  have FInit := fun_mk (st := sInit) lInit cInit kInit
  have FDInit := fun_mk (st := sDInit) lDInit cDInit kDInit
  have FBehind := fun_mk (st := sDBehind) lBehind cBehind kBehind
  have FStep := fun_mk (st := sDStep) lStep cStep kStep
  have FIsName := fun_mk (st := sIsName) lIsName cIsName kIsName
  have FNamesIn := fun_mk (st := sNamesIn) lNamesIn cNamesIn kNamesIn
  have FReadHeads := fun_mk (st := sReadHeads) lReadHeads cReadHeads kReadHeads
  have FAmong := fun_mk (st := sIsAmong) lAmong cAmong kAmong
  have FIsPair := fun_mk (st := sIsPair) lIsPair cIsPair kIsPair
  have FIsRow := fun_mk (st := sIsRow) lIsRow cIsRow kIsRow
  have FReadSteps := fun_mk (st := sReadSteps) lReadSteps cReadSteps kReadSteps
  have FIsLine := fun_mk (st := sIsLine) lIsLine cIsLine kIsLine
  have FSafe := fun_mk (st := sSafe) lSafe cSafe kSafe
  have FVerdict := fun_mk (st := sVerdict) lVerdict cVerdict kVerdict
  have FWay := fun_mk (st := sWay) lWay cWay kWay
  have FTake := fun_mk (st := sTake) lTake cTake kTake
  have FOf := fun_mk (st := sOf) lOf cOf kOf
  have FSome := fun_mk (st := sSome) lSome cSome kSome
  have FPot := fun_mk (st := sPot) lPot cPot kPot
  have FAny := fun_mk (st := sAny) lAny cAny kAny
  have FHeard := fun_mk (st := sHeardL) lHeard cHeard kHeard
  have FCells := fun_mk (st := sCells) lCells cCells kCells
  have FTold := fun_mk (st := sTold) lTold cTold kTold
  have FIsOf := fun_mk (st := sIsOf) lIsOf cIsOf kIsOf
  have FRaised := fun_mk (st := sRaised) lRaised cRaised kRaised
  have FOdd := fun_mk (st := sOdd) lOdd cOdd kOdd
  have FBent := fun_mk (st := sBent) lBent cBent kBent
  have FWatch := fun_mk (st := sWatch) lWatch cWatch kWatch
  have FWText := fun_mk (st := sWText) lWText cWText kWText
  have FStepL := fun_mk (st := sStepL) lStepL cStepL kStepL
  have FLogged := fun_mk (st := sLogged) lLogged cLogged kLogged
  have FSafeL := fun_mk (st := sSafeL) lSafeL cSafeL kSafeL
  have FLog := fun_mk (st := sLog) lLog cLog kLog
  have FIsLog := fun_mk (st := sIsLog) lIsLog cIsLog kIsLog
  have FRight := fun_mk (st := sRight) lRight cRight kRight
  have FLaw := fun_mk (st := sLaw) lLaw cLaw kLaw
  have bInit := FInit.binds (ps := ["self", "value"]) fun _ _ _ _ _ _ us hl => match us, hl with | [_, _], _ => rfl
  have bDInit := FDInit.binds (ps := ["self", "text"]) fun _ _ _ _ _ _ us hl => match us, hl with | [_, _], _ => rfl
  have bBehind := FBehind.binds (ps := ["self", "log"]) fun _ _ _ _ _ _ us hl => match us, hl with | [_, _], _ => rfl
  have bStep := FStep.binds (ps := ["self", "mark", "call", "answer"]) fun _ _ _ _ _ _ us hl => match us, hl with | [_, _, _, _], _ => rfl
  have bIsName := FIsName.binds (ps := ["word"]) fun _ _ _ _ _ _ us hl => match us, hl with | [_], _ => rfl
  have bNamesIn := FNamesIn.binds (ps := ["line", "head", "fewest", "most"]) fun _ _ _ _ _ _ us hl => match us, hl with | [_, _, _, _], _ => rfl
  have bReadHeads := FReadHeads.binds (ps := ["lines", "heads"]) fun _ _ _ _ _ _ us hl => match us, hl with | [_, _], _ => rfl
  have bAmong := FAmong.binds (ps := ["value", "names"]) fun _ _ _ _ _ _ us hl => match us, hl with | [_, _], _ => rfl
  have bIsPair := FIsPair.binds (ps := ["value", "calls", "answers"]) fun _ _ _ _ _ _ us hl => match us, hl with | [_, _, _], _ => rfl
  have bIsRow := FIsRow.binds (ps := ["value", "calls", "answers", "fewest", "most"]) fun _ _ _ _ _ _ us hl => match us, hl with | [_, _, _, _, _], _ => rfl
  have bReadSteps := FReadSteps.binds (ps := ["lines", "calls", "answers", "marks"]) fun _ _ _ _ _ _ us hl => match us, hl with | [_, _, _, _], _ => rfl
  have bIsLine := FIsLine.binds (ps := ["words", "calls", "answers", "marks"]) fun _ _ _ _ _ _ us hl => match us, hl with | [_, _, _, _], _ => rfl
  have bSafe := FSafe.binds (ps := ["watch"]) fun _ _ _ _ _ _ us hl => match us, hl with | [_], _ => rfl
  have bVerdict := FVerdict.binds (ps := ["watch", "log"]) fun _ _ _ _ _ _ us hl => match us, hl with | [_, _], _ => rfl
  have bWay := FWay.binds (ps := ["watch", "first"]) fun _ _ _ _ _ _ us hl => match us, hl with | [_, _], _ => rfl
  have bTake := FTake.binds (ps := ["_law_pot_here", "_law_upto"]) fun _ _ _ _ _ _ us hl => match us, hl with | [_, _], _ => rfl
  have bOf := FOf.binds (ps := ["_law_pot_here", "_law_some_here"]) fun _ _ _ _ _ _ us hl => match us, hl with | [_, _], _ => rfl
  have bSome := FSome.binds (ps := ["_law_pot_here", "_law_pool", "_law_many"]) fun _ _ _ _ _ _ us hl => match us, hl with | [_, _, _], _ => rfl
  have bPot := FPot.binds (ps := ["_law_script", "_law_place"]) fun _ _ _ _ _ _ us hl => match us, hl with | [_, _], _ => rfl
  have bAny := FAny.binds (ps := ["_law_pot_here", "_law_many", "_law_sizes"]) fun _ _ _ _ _ _ us hl => match us, hl with | [_, _, _], _ => rfl
  have bHeard := FHeard.binds (ps := ["_law_device", "_law_walk"]) fun _ _ _ _ _ _ us hl => match us, hl with | [_, _], _ => rfl
  have bCells := FCells.binds (ps := ["_law_script", "_law_limit"]) fun _ _ _ _ _ _ us hl => match us, hl with | [_, _], _ => rfl
  have bTold := FTold.binds (ps := ["_law_look"]) fun _ _ _ _ _ _ us hl => match us, hl with | [_], _ => rfl
  have bIsOf := FIsOf.binds (ps := ["_law_caught", "_law_kind"]) fun _ _ _ _ _ _ us hl => match us, hl with | [_, _], _ => rfl
  have bRaised := FRaised.binds (ps := ["_law_look", "_law_kind", "_law_value"]) fun _ _ _ _ _ _ us hl => match us, hl with | [_, _, _], _ => rfl
  have bOdd := FOdd.binds (ps := ["_law_pot_here"]) fun _ _ _ _ _ _ us hl => match us, hl with | [_], _ => rfl
  have bBent := FBent.binds (ps := ["_law_pot_here", "_law_value"]) fun _ _ _ _ _ _ us hl => match us, hl with | [_, _], _ => rfl
  have bWatch := FWatch.binds (ps := ["_law_pot_here", "_law_device"]) fun _ _ _ _ _ _ us hl => match us, hl with | [_, _], _ => rfl
  have bWText := FWText.binds (ps := ["_law_watch_here"]) fun _ _ _ _ _ _ us hl => match us, hl with | [_], _ => rfl
  have bStepL := FStepL.binds (ps := ["_law_watch_here", "_law_mark", "_law_call", "_law_answer"]) fun _ _ _ _ _ _ us hl => match us, hl with | [_, _, _, _], _ => rfl
  have bLogged := FLogged.binds (ps := ["_law_watch_here", "_law_log_here"]) fun _ _ _ _ _ _ us hl => match us, hl with | [_, _], _ => rfl
  have bSafeL := FSafeL.binds (ps := ["_law_watch_here"]) fun _ _ _ _ _ _ us hl => match us, hl with | [_], _ => rfl
  have bLog := FLog.binds (ps := ["_law_pot_here", "_law_device", "_law_many"]) fun _ _ _ _ _ _ us hl => match us, hl with | [_, _, _], _ => rfl
  have bIsLog := FIsLog.binds (ps := ["_law_device", "_law_value"]) fun _ _ _ _ _ _ us hl => match us, hl with | [_, _], _ => rfl
  have bDue := (fun_mk (st := sDue) lDue cDue kDue).binds (ps := ["_law_made", "_law_watch_here", "_law_device", "_law_value"]) fun _ _ _ _ _ _ us hl => match us, hl with | [_, _, _, _], _ => rfl
  have bRight := FRight.binds (ps := ["_law_pot_here"]) fun _ _ _ _ _ _ us hl => match us, hl with | [_], _ => rfl
  have bLaw := FLaw.binds (ps := ["_law_script"]) fun _ _ _ _ _ _ us hl => match us, hl with | [_], _ => rfl
  obtain ⟨t11, t12⟩ := tab1 tb1
  have A := errsB_ok eb
  have DD := devB_ok db
  have cl : ∀ {Ce : Addr} {x : Str}, Ce ∈ [CL, CB] → mg x = some (.ref Ce) → EQl K mg fInit B x Ce := fun hC hx => ⟨⟨hx, errB_ok (A.each _ hC), A.ini _ hC, A.val _ hC⟩, A.box _ hC⟩
  have qCL := cl (x := "BadLog") (by simp) (PySem.W.mg_of X G eCL)
  have qCB := cl (x := "BadWatch") (by simp) (PySem.W.mg_of X G eCB)
  have DC : DevCl K mg C := DD.1 mg (PySem.W.mg_of X G aC)
  have HA : HeadsAt K hA := ⟨a0, a1, a2, fun H => .inr ⟨_, _, _, h0, rfl, rfl, (by show 3 ≤ sizeLine; decide), .cons rfl (.cons rfl (.cons rfl .nil))⟩, fun H => .inr ⟨_, _, _, h1, rfl, rfl, (by show 3 ≤ sizeLine; decide), .cons ⟨_, rfl⟩ (.cons ⟨_, rfl⟩ (.cons ⟨_, rfl⟩ .nil))⟩,
    fun H => .inr ⟨_, _, _, h2, rfl, rfl, (by show 3 ≤ sizeLine; decide), .cons ⟨_, rfl⟩ (.cons ⟨_, rfl⟩ (.cons ⟨_, rfl⟩ .nil))⟩, fun H => .inr ⟨_, _, _, h3, rfl, rfl, (by show 3 ≤ sizeLine; decide), .cons ⟨_, rfl⟩ (.cons ⟨_, rfl⟩ (.cons ⟨_, rfl⟩ .nil))⟩⟩
  have allT : ∀ {R : Addr × Addr → Prop}, R (cDu, P1) → ∀ p ∈ [(cDu, P1)], R p := fun r0 p hp => by
    rw [List.mem_singleton.mp hp]
    exact r0
  have i1 : (cDu, P1) ∈ [(cDu, P1)] := List.mem_cons_self
  refine ⟨PySem.W.fnOf "law" "law" (defArgs sLaw) (defBody sLaw) (defScope sLaw) .none kVLaw dcLaw pmLaw anLaw cdLaw ctLaw, [(cDu, P1)], spLaw K P1, allT t12, allT nP1, allT t11, fun s v => .of_eq rfl, ?_, ?_⟩
  · intro H a ns hl hH hS
    refine ⟨a, ns, rfl, hS, hl, fun q hq => ?_, fun _ => rfl⟩
    rw [List.mem_singleton.mp hq]
    exact ⟨#[], hH (cDu, P1) i1, trivial, fun pos cv hc => by cases hc⟩
  intro base inK gl hT
  have TB1 : TabB base mg cDu P1 := hT (cDu, P1) i1
  have II : Ini l.prog w K mg base fInit := ⟨⟨_, ok_init FInit, bInit⟩, A.fn⟩
  have IS : DevIs K C := DD.2.1
  have HB : ∃ t, mg "BROKEN" = some (.str BRK t) := ⟨_, PySem.W.mg_of X G aBrk⟩
  have GName := ok_name (P := l.prog) (w := w) (base := base) FIsName T ⟨⟨_, PySem.W.mg_of X G aL⟩, HB, ⟨_, PySem.W.mg_of X G aF⟩⟩
  have GNames := ok_names FNamesIn T GName (PySem.W.mg_of X G aIsName) kIsName bIsName
  have GHeads := ok_heads FReadHeads T GNames (PySem.W.mg_of X G aNamesIn) kNamesIn bNamesIn
  have GAmong := ok_among (P := l.prog) (w := w) (base := base) FAmong T
  have GLine := ok_line (P := l.prog) (w := w) (base := base) FIsLine T HB
  have GSteps := ok_steps FReadSteps T (PySem.W.mg_of X G aH) HA II qCB.ec GLine (PySem.W.mg_of X G aIsLine) kIsLine bIsLine
  have GDInit := ok_dinit FDInit T (PySem.W.mg_of X G aH) HA II qCB.ec DC HB GHeads (PySem.W.mg_of X G aReadHeads) kReadHeads bReadHeads GSteps (PySem.W.mg_of X G aReadSteps) kReadSteps bReadSteps
  have MI : Mk K C fDInit := ⟨DD.2.2.1, aDInit, nDInit, DD.2.2.2.1⟩
  have GIsPair := ok_ispair FIsPair T GAmong (PySem.W.mg_of X G aAmong) kAmong bAmong
  have GIsRow := ok_isrow FIsRow T GIsPair (PySem.W.mg_of X G aIsPair) kIsPair bIsPair
  have GStep := ok_step (P := l.prog) (w := w) (base := base) FStep DC
  have GBehind := ok_behind FBehind DC II qCL.ec (PySem.W.mg_of X G aMS) GIsRow (PySem.W.mg_of X G aIsRow) kIsRow bIsRow GStep (⟨aStep, nStep, kStep⟩) bStep
  have GWay := ok_way FWay T DC HB GStep (⟨aStep, nStep, kStep⟩) bStep
  have GSafe := ok_safe FSafe T DC GWay (PySem.W.mg_of X G aWay) kWay bWay
  have GVerdict := ok_verdict FVerdict DC HB GBehind (⟨aBehind, nBehind, kBehind⟩) bBehind GWay (PySem.W.mg_of X G aWay) kWay bWay
  have GTake := ok_take (P := l.prog) (w := w) (base := base) FTake T
  have GOf := ok_of FOf T GTake (PySem.W.mg_of X G aTake) kTake bTake
  have GSome := ok_some FSome T GTake (PySem.W.mg_of X G aTake) kTake bTake
  have GAny := ok_any FAny GSome (PySem.W.mg_of X G aSome) kSome bSome GOf (PySem.W.mg_of X G aOf) kOf bOf
  have GOdd := ok_odd FOdd GOf (PySem.W.mg_of X G aOf) kOf bOf
  have GWatch := ok_watch FWatch T GTake (PySem.W.mg_of X G aTake) kTake bTake GOf (PySem.W.mg_of X G aOf) kOf bOf GSome (PySem.W.mg_of X G aSome) kSome bSome
  have GWText := ok_wtext (P := l.prog) (w := w) (base := base) FWText T
  have GHeard := ok_run (P := l.prog) (w := w) (base := base) FHeard T
  have GStepL := ok_stepL (P := l.prog) (w := w) (base := base) (mg := mg) FStepL
  have GLogged := ok_logged FLogged GStepL (PySem.W.mg_of X G aStepL) kStepL bStepL
  have GSafeL := ok_safeL (P := l.prog) (w := w) (base := base) FSafeL T
  have GIsLog := ok_islog (P := l.prog) (w := w) (base := base) FIsLog T
  have ZL : KitL l.prog w K mg base := ⟨⟨_, _, GTake, PySem.W.mg_of X G aTake, kTake, bTake⟩, ⟨_, _, GOf, PySem.W.mg_of X G aOf, kOf, bOf⟩, ⟨_, _, GHeard, PySem.W.mg_of X G aHeard, kHeard, bHeard⟩, PySem.W.mg_none_of X G z18⟩
  have GLog := ok_log FLog T ZL
  have ZB : Bent l.prog w K mg base := ⟨⟨_, _, GTake, PySem.W.mg_of X G aTake, kTake, bTake⟩, ⟨_, _, GOf, PySem.W.mg_of X G aOf, kOf, bOf⟩⟩
  have GB1 := ok_bent (m := 0) FBent T ZB no_bent (PySem.W.mg_of X G aBent) bBent
  have GB2 := ok_bent (m := 1) FBent T ZB GB1 (PySem.W.mg_of X G aBent) bBent
  have GBent := ok_bent (m := 2) FBent T ZB GB2 (PySem.W.mg_of X G aBent) bBent
  have GIsOf := ok_isof (P := l.prog) (w := w) (base := base) FIsOf T A.dsc qCL
  have ZZ : KitZ l.prog w K mg base fInit CL B := ⟨⟨_, _, GIsOf, PySem.W.mg_of X G aIsOf, kIsOf, bIsOf⟩, ⟨_, _, _, _, _, _, _, _, _, _, PySem.W.mg_of X G aTold, kTold, lTold, cTold, bTold⟩, PySem.W.mg_of X G aB, qCL, A.dsc⟩
  have ZU : KitU l.prog w K mg base fInit C CL B := ⟨ZZ, ⟨_, _, GIsLog, PySem.W.mg_of X G aIsLog, kIsLog, bIsLog⟩, ⟨_, _, GBehind, ⟨aBehind, nBehind, kBehind⟩, bBehind⟩, ⟨_, _, GVerdict, PySem.W.mg_of X G aVerdict, kVerdict, bVerdict⟩, ⟨_, _, GLogged, PySem.W.mg_of X G aLogged, kLogged, bLogged⟩, ⟨_, _, GSafeL, PySem.W.mg_of X G aSafeL, kSafeL, bSafeL⟩, ⟨_, _, _, _, _, _, _, _, _, _, PySem.W.mg_of X G aRaised, kRaised, lRaised, cRaised, bRaised⟩, DC⟩
  have GDue := ok_due (P := l.prog) (w := w) (base := base) T ZU lDue cDue TB1
  have ZR : KitR l.prog w K mg base C CB P1 := ⟨⟨_, _, GAny, PySem.W.mg_of X G aAny, kAny, bAny⟩, ⟨_, _, GTake, PySem.W.mg_of X G aTake, kTake, bTake⟩, ⟨_, _, GOf, PySem.W.mg_of X G aOf, kOf, bOf⟩, ⟨_, _, GWatch, PySem.W.mg_of X G aWatch, kWatch, bWatch⟩, ⟨_, _, GWText, PySem.W.mg_of X G aWText, kWText, bWText⟩, ⟨_, _, GDInit, MI, bDInit⟩, ⟨_, _, GSafe, PySem.W.mg_of X G aSafe, kSafe, bSafe⟩, ⟨_, _, GSafeL, PySem.W.mg_of X G aSafeL, kSafeL, bSafeL⟩, ⟨_, _, GLog, PySem.W.mg_of X G aLog, kLog, bLog⟩, ⟨_, _, GBent, PySem.W.mg_of X G aBent, kBent, bBent⟩, ⟨_, _, GOdd, PySem.W.mg_of X G aOdd, kOdd, bOdd⟩, ⟨_, _, GDue, PySem.W.mg_of X G aDue, kDue, bDue⟩, DC⟩
  have GRight := ok_right FRight T ZR
  exact ok_law FLaw T GRight (PySem.W.mg_of X G aRight) kRight bRight (ok_pot FPot T) (PySem.W.mg_of X G aPot) kPot bPot (ok_cells FCells T) (PySem.W.mg_of X G aCells) kCells bCells
end K56
open PySem PySem.W PyProof.Rows
set_option Elab.async false
set_option maxRecDepth 100000 in
set_option maxHeartbeats 0 in
theorem PySem.Challenge.cw_toldboxes_k56_where_watches_are_safe_mar_holds : PySem.Challenge.rw_toldboxes_k56_where_watches_are_safe_mar.Holds := by
  w_on; o_law; k_head; (case hw => w_witness2)
  k_fill
  refine LG.g_walkU (l := PySem.Challenge.rw_toldboxes_k56_where_watches_are_safe_mar) (k := 11) (x := "_law_script") rfl rfl ⟨rfl, by decide, by decide⟩ (fun w h Y => PySem.W.km_in_of Y) ?F
  case F =>
    intro w mg mb fa h mean Y Tp KX G hmg
    refine' K56.all_mk KX G hmg (fun tb => PySem.W.tab_of Tp KX rfl tb) ?aB ?eCL ?eCB ?aC ?aInit ?lInit ?cInit ?kInit ?nInit ?aDInit ?lDInit ?cDInit ?kDInit ?nDInit ?aBehind ?lBehind ?cBehind ?kBehind ?nBehind ?aStep ?lStep ?cStep ?kStep ?nStep ?aIsName ?lIsName ?cIsName ?kIsName ?aNamesIn ?lNamesIn ?cNamesIn ?kNamesIn ?aReadHeads ?lReadHeads ?cReadHeads ?kReadHeads ?aAmong ?lAmong ?cAmong ?kAmong ?aIsPair ?lIsPair ?cIsPair ?kIsPair ?aIsRow ?lIsRow ?cIsRow ?kIsRow ?aReadSteps ?lReadSteps ?cReadSteps ?kReadSteps ?aIsLine ?lIsLine ?cIsLine ?kIsLine ?aSafe ?lSafe ?cSafe ?kSafe ?aVerdict ?lVerdict ?cVerdict ?kVerdict ?aWay ?lWay ?cWay ?kWay ?aTake ?lTake ?cTake ?kTake ?aOf ?lOf ?cOf ?kOf ?aSome ?lSome ?cSome ?kSome ?aPot ?lPot ?cPot ?kPot ?aAny ?lAny ?cAny ?kAny ?aHeard ?lHeard ?cHeard ?kHeard ?aCells ?lCells ?cCells ?kCells ?aTold ?lTold ?cTold ?kTold ?aIsOf ?lIsOf ?cIsOf ?kIsOf ?aRaised ?lRaised ?cRaised ?kRaised ?aOdd ?lOdd ?cOdd ?kOdd ?aBent ?lBent ?cBent ?kBent ?aWatch ?lWatch ?cWatch ?kWatch ?aWText ?lWText ?cWText ?kWText ?aStepL ?lStepL ?cStepL ?kStepL ?aLogged ?lLogged ?cLogged ?kLogged ?aSafeL ?lSafeL ?cSafeL ?kSafeL ?aLog ?lLog ?cLog ?kLog ?aIsLog ?lIsLog ?cIsLog ?kIsLog ?aDue ?lDue ?cDue ?kDue ?aRight ?lRight ?cRight ?kRight ?aLaw ?lLaw ?cLaw ?kLaw ?z0 ?z1 ?z2 ?z3 ?z4 ?z5 ?z6 ?z7 ?z8 ?z9 ?z10 ?z11 ?z12 ?z13 ?z14 ?z15 ?z16 ?z17 ?z18 ?aL ?aF ?aMS ?aH ?h0 ?h1 ?h2 ?h3 ?KcDu ?hP1 ?nP1 ?tb1 ?eb ?db ?aBrk
    (case aB => k_is)
    (case eCL => k_is)
    (case eCB => k_is)
    (case aC => k_is)
    (case aInit => k_is)
    (case lInit => k_is)
    (case cInit => k_is)
    (case kInit => k_is)
    (case nInit => k_is)
    (case aDInit => k_is)
    (case lDInit => k_is)
    (case cDInit => k_is)
    (case kDInit => k_is)
    (case nDInit => k_is)
    (case aBehind => k_is)
    (case lBehind => k_is)
    (case cBehind => k_is)
    (case kBehind => k_is)
    (case nBehind => k_is)
    (case aStep => k_is)
    (case lStep => k_is)
    (case cStep => k_is)
    (case kStep => k_is)
    (case nStep => k_is)
    (case aIsName => k_is)
    (case lIsName => k_is)
    (case cIsName => k_is)
    (case kIsName => k_is)
    (case aNamesIn => k_is)
    (case lNamesIn => k_is)
    (case cNamesIn => k_is)
    (case kNamesIn => k_is)
    (case aReadHeads => k_is)
    (case lReadHeads => k_is)
    (case cReadHeads => k_is)
    (case kReadHeads => k_is)
    (case aAmong => k_is)
    (case lAmong => k_is)
    (case cAmong => k_is)
    (case kAmong => k_is)
    (case aIsPair => k_is)
    (case lIsPair => k_is)
    (case cIsPair => k_is)
    (case kIsPair => k_is)
    (case aIsRow => k_is)
    (case lIsRow => k_is)
    (case cIsRow => k_is)
    (case kIsRow => k_is)
    (case aReadSteps => k_is)
    (case lReadSteps => k_is)
    (case cReadSteps => k_is)
    (case kReadSteps => k_is)
    (case aIsLine => k_is)
    (case lIsLine => k_is)
    (case cIsLine => k_is)
    (case kIsLine => k_is)
    (case aSafe => k_is)
    (case lSafe => k_is)
    (case cSafe => k_is)
    (case kSafe => k_is)
    (case aVerdict => k_is)
    (case lVerdict => k_is)
    (case cVerdict => k_is)
    (case kVerdict => k_is)
    (case aWay => k_is)
    (case lWay => k_is)
    (case cWay => k_is)
    (case kWay => k_is)
    (case aTake => k_is)
    (case lTake => k_is)
    (case cTake => k_is)
    (case kTake => k_is)
    (case aOf => k_is)
    (case lOf => k_is)
    (case cOf => k_is)
    (case kOf => k_is)
    (case aSome => k_is)
    (case lSome => k_is)
    (case cSome => k_is)
    (case kSome => k_is)
    (case aPot => k_is)
    (case lPot => k_is)
    (case cPot => k_is)
    (case kPot => k_is)
    (case aAny => k_is)
    (case lAny => k_is)
    (case cAny => k_is)
    (case kAny => k_is)
    (case aHeard => k_is)
    (case lHeard => k_is)
    (case cHeard => k_is)
    (case kHeard => k_is)
    (case aCells => k_is)
    (case lCells => k_is)
    (case cCells => k_is)
    (case kCells => k_is)
    (case aTold => k_is)
    (case lTold => k_is)
    (case cTold => k_is)
    (case kTold => k_is)
    (case aIsOf => k_is)
    (case lIsOf => k_is)
    (case cIsOf => k_is)
    (case kIsOf => k_is)
    (case aRaised => k_is)
    (case lRaised => k_is)
    (case cRaised => k_is)
    (case kRaised => k_is)
    (case aOdd => k_is)
    (case lOdd => k_is)
    (case cOdd => k_is)
    (case kOdd => k_is)
    (case aBent => k_is)
    (case lBent => k_is)
    (case cBent => k_is)
    (case kBent => k_is)
    (case aWatch => k_is)
    (case lWatch => k_is)
    (case cWatch => k_is)
    (case kWatch => k_is)
    (case aWText => k_is)
    (case lWText => k_is)
    (case cWText => k_is)
    (case kWText => k_is)
    (case aStepL => k_is)
    (case lStepL => k_is)
    (case cStepL => k_is)
    (case kStepL => k_is)
    (case aLogged => k_is)
    (case lLogged => k_is)
    (case cLogged => k_is)
    (case kLogged => k_is)
    (case aSafeL => k_is)
    (case lSafeL => k_is)
    (case cSafeL => k_is)
    (case kSafeL => k_is)
    (case aLog => k_is)
    (case lLog => k_is)
    (case cLog => k_is)
    (case kLog => k_is)
    (case aIsLog => k_is)
    (case lIsLog => k_is)
    (case cIsLog => k_is)
    (case kIsLog => k_is)
    (case aDue => k_is)
    (case lDue => k_is)
    (case cDue => k_is)
    (case kDue => k_is)
    (case aRight => k_is)
    (case lRight => k_is)
    (case cRight => k_is)
    (case kRight => k_is)
    (case aLaw => k_is)
    (case lLaw => k_is)
    (case cLaw => k_is)
    (case kLaw => k_is)
    (case z0 => k_is)
    (case z1 => k_is)
    (case z2 => k_is)
    (case z3 => k_is)
    (case z4 => k_is)
    (case z5 => k_is)
    (case z6 => k_is)
    (case z7 => k_is)
    (case z8 => k_is)
    (case z9 => k_is)
    (case z10 => k_is)
    (case z11 => k_is)
    (case z12 => k_is)
    (case z13 => k_is)
    (case z14 => k_is)
    (case z15 => k_is)
    (case z16 => k_is)
    (case z17 => k_is)
    (case z18 => k_is)
    (case aL => k_is)
    (case aF => k_is)
    (case aMS => k_is)
    (case aH => k_is)
    (case h0 => k_is)
    (case h1 => k_is)
    (case h2 => k_is)
    (case h3 => k_is)
    (case KcDu => k_is)
    (case hP1 => exact rfl)
    (case nP1 => kernel_rfl)
    (case tb1 => kernel_rfl)
    (case eb => kernel_rfl)
    (case db => kernel_rfl)
    (case aBrk => k_is)
