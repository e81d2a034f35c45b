import PyProof.Rows.All
import Wide.All
import OpenK.AllK
import Wide.FinOn
import PyProof.EqAt
import PyProof.EqKinds
import PyProof.TupleCall
import PyProof.ReprRoads
import PyProof.Rows.NestShow
import PyProof.Rows.RuleB_pow
import HandS.Base
import HandS.Call
import HandS.List
import HandS.Ends
import HandS.Words
import HandS.Lambda
import HandS.EndTab
import PyProof.ReprText
import PyProof.StrLawsRepr
import PyProof.FitsInt
import PyProof.RowDictHeap
import HandS.Comp
import HandS.Dict
import HandS.Text
import HandS.TupAny
import HandS.Rev
import KE.KRevSl
import HandS.Exc
import HandS.ExcInit
import HandS.ExcField
import HandS.ExcIs
import HandS.IsInst
import KE.KExcInit
import KE.GoesMore
import PyProof.Draws
import HandS.Strs
import PyProof.Rows.SetFrom
import PyProof.InstNe
import HandS.NoneIn
import PyProof.AssignAttr
import KE.KAssignIn
import HandS.ForMost
import HandS.Conv
import HandS.Style
import HandS.Walk
import HandS.WordsExc
import HandS.TupLen
import KE.KDictWalk
import HandS.FStr
import KE.KDictPairs
import HandS.ListItems
import KE.KDictItemsList
import HandS.TupMul
import KE.KNest
import PySem.Challenge.RW_toldboxes_k03_whole_walks_begun_and_turn
set_option Elab.async false
set_option linter.all false
set_option maxRecDepth 100000
/-! Promises that are kept where no repr is under way: calls within such bodies, the law's own end, repr of data. -/
namespace LG
open PySem PySem.Spec PyProof.Rows L2
/-- a promise of a def that is called where no guard of a repr stands around -/
structure GnOk (P : Program) (w : World) (K : PySem.W.Frag) (mg : Str → Option Value) (base : Heap) (k : Nat) (f : Addr) (fd : FuncData) (ps : List Str) (sp : Sp) : Prop where
  many : ∀ vs H Q E, sp vs H Q E → vs.length = ps.length
  goes : ∀ (B : Around) (callers : List Env) (z : Shared) (H : Hp) (args : Args) (us : List Value) (vs : List V) (Q : VK),
    B.guards = some [] → Room k B → Env0 P w K mg base B callers z H → BindsTo z fd args (ps.zip us) → Vals vs us → sp vs H Q E0 → codeAny (model P w) B (.call (.ref f) args) (CR CX0 callers P w H z Q E0) z
section
variable {P : Program} {w : World} {K : PySem.W.Frag} {mg : Str → Option Value} {base : Heap}
theorem GnOk.of {k : Nat} {f : Addr} {fd : FuncData} {ps : List Str} {sp : Sp} (F : FnOk P w K mg base CX0 k f fd ps sp) : GnOk P w K mg base k f fd ps sp :=
  ⟨F.len, fun B cs z H args us vs Q _ hr e0 hb r h => F.run B cs z H args us vs Q E0 hr e0 hb r h⟩
/-- a def's promise by its body, the guards known -/
theorem gn_of {x qual : Str} {st : Stmt} {f : Addr} {fd : FuncData} {N ps : List Str} {k : Nat} {sp : Sp} (F : Fun K x qual st f fd) (S : FnScope N ps (defScope st))
    (len : ∀ vs H Q E, sp vs H Q E → vs.length = ps.length)
    (body : ∀ (cv : Value) (B : Around) (callers : List Env) (z : Shared) (H : Hp) (vs : List V) (Q : VK), B.guards = some [] → Room k (B.deeper (envOfC qual (defScope st) z.heap.objs.size f cv)) → sp vs H Q E0 →
      ∃ t, PSs (cxOf CX0 P w K mg base N qual (defScope st) f cv B callers z H E0).nox (defBody st) t ∧ t { nx := fun _ H' => Q .non H', rt := Q } (start N vs) H) :
    GnOk P w K mg base (k + 1) f fd ps sp := by
  obtain ⟨oc, od, kV, doc, pm, an, cv, ct, osl, rfl, lk, hcd⟩ := F.ex
  refine ⟨len, fun B callers z H args us vs Q hg hr e0 hb r hsp => ?_⟩
  have many := len _ _ _ _ hsp
  have inK : K.In z.heap := e0.mod.kin.keeps fun b o e => (e0.bs b o e).1
  have nolim : z.heap.NoLimit := e0.mod.nolimit.keeps fun b o e => (e0.bs b o e).1
  have kinds : ∀ y ∈ ps.zip us, (defScope st).names.lookup y.1 = some .local ∨ ((defScope st).names.lookup y.1 = some .cell ∧ ((cellsFrom (z.heap.objs.size + 1) (defScope st).names []).lookup y.1).isSome = true) := by
    rintro ⟨n, v⟩ hy
    cases S.par n (List.of_mem_zip hy).1 with
    | inl q => exact .inl q
    | inr q => exact .inr ⟨q, PySem.W.cellsFrom_some _ _ _ (.inl q)⟩
  refine codeAny_call_function hr.depth (inK _ _ lk) rfl S.co S.gen rfl (PySem.W.codeRec_of inK hcd) (hb _ _ _ _ ?_)
  refine wpAny_newFunctionEnv_cells S.kind kinds fun env he z1 entered => ?_
  subst he
  refine ⟨nolim.keeps entered.toInCall.keep, codeAny_func ?_⟩
  obtain ⟨t, ht, q0⟩ := body cv B callers z H vs Q hg (hr.deeper _) hsp
  have J := inv_start (CX := CX0) (E := E0) S hr.hd e0 many r entered
  refine wpAny_mono (ht.nox.run [] z1 (start N vs) H _ J q0) (fun fl z' ends => ?_) fun _ _ e => e
  cases fl with
  | ret u =>
    obtain ⟨v, σ', H', J', rv, q⟩ := ends
    exact ⟨v, H', J'.os, J'.bare, J'.base, J'.hok, rv, q⟩
  | next =>
    obtain ⟨σ', H', J', q⟩ := ends
    exact ⟨V.non, H', J'.os, J'.bare, J'.base, J'.hok, rfl, q⟩
  | brk =>
    obtain ⟨_, _, _, q⟩ := ends
    exact q.elim
  | cont =>
    obtain ⟨_, _, _, q⟩ := ends
    exact q.elim
end
section
variable {X : Cx} {k : Nat} {f : Addr} {fd : FuncData} {ps : List Str} {sp : Sp} {x : Str} {p pos : Pos} {e : Expr} {es : List Expr} {t : TA}
theorem g_run {pins : List (Addr × Obj)} {σ : L2.St} {H : Hp} {z : Shared} {Q : VK} {us : List Value} {vs : List V} (F : GnOk X.prog X.w X.K X.mg X.base k f fd ps sp) (hg : X.A.guards = some []) (hr : Room k X.A) (hb : Binds X.K fd ps [])
    (I : Inv X pins σ H z) (r : Vals vs us) (h : sp vs H Q E0) : wpAny (model X.prog X.w) X.A (call (.ref f) us) (EP X pins σ Q) X.xe z := by
  have hl : (us ++ []).length = ps.length := by
    rw [List.append_nil, ← r.length]
    exact F.many _ _ _ _ h
  have hb' := hb z us I.kIn hl
  rw [List.append_nil] at hb'
  refine wpAny_call (codeAny_mono (F.goes X.A X.stack z H ⟨us, []⟩ us vs Q hg hr I.env0 hb' r h) fun res z' q => ?_)
  match res, q with
  | .ok (.ret u), q => exact I.after q
  | .ok .next, q => exact q.elim
  | .ok .brk, q => exact q.elim
  | .ok .cont, q => exact q.elim
  | .error _, q => exact q.elim
/-- f(e, ..) where no repr is under way -/
theorem pe_gcall (F : GnOk X.prog X.w X.K X.mg X.base k f fd ps sp) (hG : X.A.guards = some []) (hr : Room k X.A) (hg : Gl X x) (hm : X.mg x = some (.ref f)) (hk : PySem.W.keepIn X.K (.ref f) = true) (hb : Binds X.K fd ps [])
    (ha : PA X (e :: es) t) (hdb : (x == ("__debug__" : Str)) = false := by decide) (he : starEach (e :: es) X.env = (false, eval e X.env) :: starEach es X.env := by rfl) (hpl : (backTo pos (starEach es X.env)).any (·.1) = false := by rfl) :
    PE X (.Call (.Name x p) (e :: es) [] pos) (fun σ H Q => t σ H fun vs H1 => sp vs H1 Q E0) := by
  refine ⟨fun pins z σ H Q I h => wpAny_Call_Name_kw (ld_glob I hg hm ?_ hdb)⟩
  refine PySem.W.callWith_K (h₀ := X.base) I.ok.mod.kin hk (thn (ha.run pos pins z σ H _ I h) ?_) he hpl
  rintro us z1 ⟨vs, H1, I1, r, q⟩
  exact ⟨I1.kIn, g_run F hG hr hb I1 r q⟩
end
end LG
set_option Elab.async false
set_option linter.all false
set_option maxRecDepth 100000
namespace LG
open PySem PySem.Spec PyProof.Rows L2
/-- the law's call from the heap behind the top, for a promise of the kind GnOk -/
theorem g_law {P : Program} {w : World} {K : PySem.W.Frag} {mg mb : Str → Option Value} {k : Nat} {fa a : Addr} {fd : FuncData} {x : Str} {sp : Sp} {z : Shared} {vs : List Value} {ns : List Int}
    (inK : K.In z.heap) (gl : z.heap.Ns mainGlobals mg) (bl : z.heap.Ns builtinsNs mb) (boot : ∀ x : Str, x ≠ "__name__" → mb x = bootBuiltins x) (nolim : z.heap.NoLimit) (nogen : z.gens = #[])
    (at_ : z.heap.get? a = some { cls := .type "list", data := .seq vs.toArray }) (isInts : IntsAre vs ns) (fits : ns.length ≤ sizeLine) (hr : Room k callerA)
    (F : ∀ base : Heap, K.In base → base.Ns mainGlobals mg → GnOk P w K mg base k fa fd [x] sp) (binds : ∀ (s : Shared) (u : Value), BindsTo s fd ⟨[u], []⟩ [(x, u)])
    (told : ∀ H : Hp, Only H → SqL K H a (ns.map V.int) → sp [.ref a] H (fun v _ => v = .bl true) E0) :
    codeAny (model P w) callerA (.call (.ref fa) ⟨[.ref a], []⟩) (fun r s' => r = .ok (.ret (.bool true)) ∧ OldK z.heap s'.heap ∧ s'.os = z.os ∧ AllBare s'.gens) z := by
  have vals := vals_ints isInts
  have many := isInts.length
  have go : ∀ H : Hp, Only H → SqL K H a (ns.map V.int) → HOk P w H z.heap → (∀ b, H b ≠ none → b = a) → (H a ≠ none → K.lookup a = none) →
      codeAny (model P w) callerA (.call (.ref fa) ⟨[.ref a], []⟩) (fun r s' => r = .ok (.ret (.bool true)) ∧ OldK z.heap s'.heap ∧ s'.os = z.os ∧ AllBare s'.gens) z := by
    intro H only seq hok just notK
    have dicts : ∀ {b : Addr} {o : Obj} {es : Array DictEntry} {ep : Nat}, z.heap.get? b = some o → o.data = .dict es ep → H b = none := by
      intro b o es ep e d
      cases q : H b with
      | none => rfl
      | some u =>
        have same : b = a := just b (by rw [q]; exact fun t => nomatch t)
        rw [same, at_] at e
        cases e
        exact nomatch (show Data.seq vs.toArray _ = Data.dict es ep from d)
    have nsH : ∀ {b : Addr} {m : Str → Option Value}, z.heap.Ns b m → (hidT z.heap H).Ns b m := by
      rintro b m ⟨o, es, ep, e, d, r⟩
      exact ⟨o, es, ep, hidT_get e (dicts e d), d, r⟩
    have inH : K.In (hidT z.heap H) := by
      intro b o e
      refine hidT_get (inK b o e) ?_
      cases q : H b with
      | none => rfl
      | some u =>
        have same : b = a := just b (by rw [q]; exact fun t => nomatch t)
        have no := notK (by rw [← same, q]; exact fun t => nomatch t)
        rw [same, no] at e
        cases e
    have M : Mod K mg (hidT z.heap H) := ⟨inH, nsH gl, ⟨mb, nsH bl, boot⟩, by
      obtain ⟨mc, n1, n2⟩ := nolim
      exact ⟨mc, nsH n1, n2⟩⟩
    have e0 : Env0 P w K mg (hidT z.heap H) callerA [] z H :=
      ⟨rfl, M, fun b o e => of_hidT e, Nat.le_of_eq (hidT_size _ _), trivial, fun b hb => absurd hb (by simp [frs]), hok, .of_eq nogen⟩
    refine codeAny_mono ((F _ inH (nsH gl)).goes callerA [] z H ⟨[.ref a], []⟩ [.ref a] [.ref a] _ rfl hr e0 (binds z (.ref a)) (.cons rfl .nil) (told H only seq)) fun r s' h => ?_
    match r, h with
    | .error _, h => exact h.elim
    | .ok .next, h => exact h.elim
    | .ok .brk, h => exact h.elim
    | .ok .cont, h => exact h.elim
    | .ok (.ret u), h =>
      obtain ⟨v, H', os, bare, un, hok', r', q⟩ := h
      have q' : v = .bl true := q
      subst q'
      have r2 : u = Value.bool true := r'
      subst r2
      refine ⟨rfl, OldK.of_keep fun b o e => ?_, os, bare⟩
      cases q : H b with
      | none => exact un.keep b o e q (by simp [frs]) (by simp)
      | some u =>
        rcases only b with t | ⟨ob, xs, t⟩
        · rw [q] at t
          cases t
        · obtain ⟨e1, _⟩ := hok b _ t
          obtain ⟨e2, _⟩ := hok' b _ (un.frzs b ob _ t)
          rw [e] at e1
          cases e1
          exact e2
  cases hk : K.lookup a with
  | some o =>
    have e := inK a o hk
    rw [at_] at e
    cases e
    refine go (fun _ => none) (fun _ => .inl rfl) (.inr ⟨_, vs.toArray, _, hk, rfl, rfl, rfl, ?_, ?_⟩) (fun b u t => nomatch (show (none : Option HO) = some u from t)) (fun b t => absurd rfl t) fun t => absurd rfl t
    · rw [List.size_toArray, many]
      exact fits
    · simpa using vals
  | none =>
    refine go (fun b => if b = a then some (.frz { cls := .type "list", data := .seq vs.toArray } (.lst (ns.map V.int))) else none) ?_ (.inl (.inr ⟨_, if_pos rfl⟩)) ?_ ?_ fun _ => hk
    · intro b
      by_cases same : b = a
      · exact .inr ⟨_, _, if_pos same⟩
      · exact .inl (if_neg same)
    · intro b u t
      by_cases same : b = a
      · have t' := (if_pos same).symm.trans t
        cases t'
        rw [same]
        exact ⟨at_, by rw [List.length_map]; exact fits, vs, _, vals, at_⟩
      · exact nomatch (if_neg same).symm.trans t
    · intro b t
      by_cases same : b = a
      · exact same
      · exact absurd (if_neg same) t
theorem g_walk {l : PySem.W.OpenLaw} {k : Nat} {q : Program} {loose : List Str} {XP : (Str → Option Value) → Heap → Prop} {YP : World → Heap → Prop} {d : DefRec} {K : Params → PySem.W.Frag} {sp : PySem.W.Frag → Sp} {x : Str}
    (most : l.most = some 63) (nodef : d.params.defaults = []) (hr : Room k callerA) (inK : ∀ (w : World) (h : Heap), YP w h → (K w.params).In h)
    (F : ∀ (w : World) (mg : Str → Option Value) (fa : Addr) (h : Heap), (K w.params).In h → h.Ns mainGlobals mg → mg d.name = some (.ref fa) →
      ∃ fd : FuncData, (∀ (s : Shared) (u : Value), BindsTo s fd ⟨[u], []⟩ [(x, u)]) ∧ ∀ base : Heap, (K w.params).In base → base.Ns mainGlobals mg → GnOk l.prog w (K w.params) mg base k fa fd [x] (sp (K w.params)))
    (told : ∀ (K : PySem.W.Frag) (H : Hp) (a : Addr) (ns : List Int), ns.length ≤ 63 → Only H → SqL K H a (ns.map V.int) → sp K [.ref a] H (fun v _ => v = .bl true) E0) :
    PySem.W.WalkO q loose XP YP l.row.toRowW d [] (fun f vs => PySem.call f vs) := by
  refine Att.attach_call most nodef fun w s₀ s₁ mg mb fa o pm cd doc a vs ns G Y ho hd hcd hmg hobj hints hlen hg => ?_
  have KX := inK w _ Y
  obtain ⟨fd, hb, hF⟩ := F w mg fa _ KX G.T.g hmg
  exact g_law KX G.T.g G.T.b G.T.builtins G.T.nolimit hg hobj hints (Nat.le_trans hlen (by decide)) hr hF hb fun H only seq => told _ H a ns hlen only seq
end LG
set_option Elab.async false
set_option linter.all false
set_option maxRecDepth 100000
set_option maxHeartbeats 1000000
/-! The law's end for GnOk with tables of code objects. -/
namespace LG
open PySem PySem.Spec PyProof.Rows L2 LamX
theorem g_lawT {P : Program} {w : World} {K : PySem.W.Frag} {mg mb : Str → Option Value} {k : Nat} {fa a : Addr} {cs : List (Addr × Addr)} {fd : FuncData} {x : Str} {sp : Sp} {z : Shared} {vs : List Value} {ns : List Int}
    (inK : K.In z.heap) (gl : z.heap.Ns mainGlobals mg) (bl : z.heap.Ns builtinsNs mb) (boot : ∀ x : Str, x ≠ "__name__" → mb x = bootBuiltins x) (nolim : z.heap.NoLimit) (nogen : z.gens = #[])
    (tab : ∀ p ∈ cs, z.heap.get? p.2 = some { cls := .none, data := .fields #[] }) (tabK : ∀ p ∈ cs, K.lookup p.2 = none) (hd : ∀ p ∈ cs, PySem.W.CodeHd z.heap p.1 p.2)
    (bmod : ∃ (bm : Addr) (ob : Obj), mg "__builtins__" = some (.ref bm) ∧ bm ≠ builtinsNs ∧ z.heap.get? bm = some ob ∧ ob.cls = .type "module" ∧ ob.dict = some builtinsNs ∧ ob.data = .plain)
    (at_ : z.heap.get? a = some { cls := .type "list", data := .seq vs.toArray }) (isInts : IntsAre vs ns) (fits : ns.length ≤ sizeLine) (hr : Room k callerA)
    (F : ∀ base : Heap, K.In base → base.Ns mainGlobals mg → (∀ p ∈ cs, TabB base mg p.1 p.2) → GnOk P w K mg base k fa fd [x] sp) (binds : ∀ (s : Shared) (u : Value), BindsTo s fd ⟨[u], []⟩ [(x, u)])
    (told : ∀ H : Hp, (∀ p ∈ cs, H p.2 = some (.tbl #[])) → SqL K H a (ns.map V.int) → sp [.ref a] H (fun v _ => v = .bl true) E0) :
    codeAny (model P w) callerA (.call (.ref fa) ⟨[.ref a], []⟩) (fun r s' => r = .ok (.ret (.bool true)) ∧ OldK z.heap s'.heap ∧ s'.os = z.os ∧ AllBare s'.gens) z := by
  have vals := vals_ints isInts
  have many := isInts.length
  let T : Addr → Prop := fun b => ∃ p ∈ cs, p.2 = b
  have tabT : ∀ b, T b → z.heap.get? b = some { cls := .none, data := .fields #[] } := by
    rintro b ⟨p, hp, rfl⟩
    exact tab p hp
  have aT : ¬ T a := fun q => by
    have e := tabT a q
    rw [at_] at e
    exact nomatch (show Data.seq vs.toArray _ = Data.fields #[] from congrArg Obj.data (Option.some.inj e))
  have go : ∀ H : Hp, (∀ p ∈ cs, H p.2 = some (.tbl #[])) → (∀ b, H b = none ∨ T b ∨ ∃ o xs, H b = some (.frz o (.lst xs))) → SqL K H a (ns.map V.int) → HOk P w H z.heap → (∀ b, H b ≠ none → b = a ∨ T b) → (H a ≠ none → K.lookup a = none) →
      codeAny (model P w) callerA (.call (.ref fa) ⟨[.ref a], []⟩) (fun r s' => r = .ok (.ret (.bool true)) ∧ OldK z.heap s'.heap ∧ s'.os = z.os ∧ AllBare s'.gens) z := by
    intro H isT kinds seq hok just notK
    have out : ∀ {b : Addr} {o : Obj}, z.heap.get? b = some o → (∀ us n, o.data ≠ .seq us n) → o.data ≠ .fields #[] → H b = none := by
      intro b o e n1 n2
      cases q : H b with
      | none => rfl
      | some u =>
        rcases just b (by rw [q]; exact fun t => nomatch t) with r | r
        · rw [r, at_] at e
          cases e
          exact (n1 _ _ rfl).elim
        · rw [tabT b r] at e
          cases e
          exact (n2 rfl).elim
    have outD : ∀ {b : Addr} {o : Obj} {es : Array DictEntry} {ep : Nat}, z.heap.get? b = some o → o.data = .dict es ep → H b = none := by
      intro b o es ep e d
      exact out e (fun us n q => by rw [d] at q; cases q) (fun q => by rw [d] at q; cases q)
    have nsH : ∀ {b : Addr} {m : Str → Option Value}, z.heap.Ns b m → (hidT z.heap H).Ns b m := by
      rintro b m ⟨o, es, ep, e, d, r⟩
      exact ⟨o, es, ep, hidT_get e (outD e d), d, r⟩
    have inH : K.In (hidT z.heap H) := by
      intro b o e
      refine hidT_get (inK b o e) ?_
      cases q : H b with
      | none => rfl
      | some u =>
        have some_ : H b ≠ none := by rw [q]; exact fun t => nomatch t
        rcases just b some_ with r | ⟨p, hp, r⟩
        · rw [r] at e some_
          rw [notK some_] at e
          cases e
        · rw [← r, tabK p hp] at e
          cases e
    have M : Mod K mg (hidT z.heap H) := ⟨inH, nsH gl, ⟨mb, nsH bl, boot⟩, by
      obtain ⟨mc, n1, n2⟩ := nolim
      exact ⟨mc, nsH n1, n2⟩⟩
    have tabB : ∀ p ∈ cs, TabB (hidT z.heap H) mg p.1 p.2 := by
      intro p hp
      refine ⟨?_, ?_, fun same => ?_⟩
      · obtain ⟨o, us, file, tf, flags, tg, inF, text, tt, e1, r1, r2, r3, r4, r5, r6, r7, r8, ne⟩ := hd p hp
        refine ⟨o, us, file, tf, flags, tg, inF, text, tt, hidT_get e1 (out e1 (fun us n q => ?_) fun q => ?_), r1, r2, r3, r4, r5, r6, r7, r8, ne⟩
        · rw [r2] at q
          cases q
        · rw [r2] at q
          cases q
          simp at r3
      · obtain ⟨bm, ob, b1, b2, b3, b4, b5, b6⟩ := bmod
        have n1 : bm ≠ mainGlobals := fun q => by
          obtain ⟨o, es, ep, e, d, _⟩ := gl
          rw [q, e] at b3
          cases b3
          rw [d] at b6
          cases b6
        have n2 : bm ≠ p.2 := fun q => by
          rw [q, tab p hp] at b3
          cases b3
          cases b6
        refine ⟨bm, ob, b1, b2, n1, n2, hidT_get b3 (out b3 (fun us n q => ?_) fun q => ?_), b4, b5, b6⟩
        · rw [b6] at q
          cases q
        · rw [b6] at q
          cases q
      · obtain ⟨o, es, ep, e, d, _⟩ := gl
        rw [same, tab p hp] at e
        cases e
        cases d
    have e0 : Env0 P w K mg (hidT z.heap H) callerA [] z H :=
      ⟨rfl, M, fun b o e => of_hidT e, Nat.le_of_eq (hidT_size _ _), trivial, fun b hb => absurd hb (by simp [frs]), hok, .of_eq nogen⟩
    refine codeAny_mono ((F _ inH (nsH gl) tabB).goes callerA [] z H ⟨[.ref a], []⟩ [.ref a] [.ref a] _ rfl hr e0 (binds z (.ref a)) (.cons rfl .nil) (told H isT seq)) fun r s' h => ?_
    match r, h with
    | .error _, h => exact h.elim
    | .ok .next, h => exact h.elim
    | .ok .brk, h => exact h.elim
    | .ok .cont, h => exact h.elim
    | .ok (.ret u), h =>
      obtain ⟨v, H', os, bare, un, hok', r', q⟩ := h
      have q' : v = .bl true := q
      subst q'
      have r2 : u = Value.bool true := r'
      subst r2
      have stay : ∀ b o, ¬ T b → z.heap.get? b = some o → s'.heap.get? b = some o := by
        intro b o nb e
        cases q : H b with
        | none => exact un.keep b o e q (by simp [frs]) (by simp)
        | some u =>
          rcases kinds b with t | t | ⟨ob, xs, t⟩
          · rw [q] at t
            cases t
          · exact absurd t nb
          · obtain ⟨e1, _⟩ := hok b _ t
            obtain ⟨e2, _⟩ := hok' b _ (un.frzs b ob _ t)
            rw [e] at e1
            cases e1
            exact e2
      have grow : ∀ p ∈ cs, ∃ more : Array Value, s'.heap.get? p.2 = some { cls := .none, data := .fields more } := by
        intro p hp
        obtain ⟨more, t⟩ := un.tbls p.2 #[] (isT p hp)
        exact ⟨_, hok' p.2 _ t⟩
      refine ⟨rfl, ⟨fun b o e => ?_, fun b o e => ?_⟩, os, bare⟩
      · rcases Classical.em (T b) with t | t
        · obtain ⟨p, hp, rfl⟩ := t
          obtain ⟨more, m⟩ := grow p hp
          rw [tab p hp] at e
          cases e
          exact .inr (.inl ⟨((hd p hp).tab (tab p hp)).isCodeTable, rfl, #[], more, rfl, by rw [Array.empty_append]; exact m⟩)
        · exact .inl (stay b o t e)
      · rcases Classical.em (T b) with t | t
        · obtain ⟨p, hp, rfl⟩ := t
          obtain ⟨more, m⟩ := grow p hp
          exact ⟨_, m⟩
        · exact ⟨o, stay b o t e⟩
  classical
  cases hk : K.lookup a with
  | some o =>
    have e := inK a o hk
    rw [at_] at e
    cases e
    have hT : ∀ b, (if T b then some (HO.tbl #[]) else none) = none ∨ T b := fun b => if c : T b then .inr c else .inl (if_neg c)
    refine go (fun b => if T b then some (.tbl #[]) else none) (fun p hp => if_pos ⟨p, hp, rfl⟩) (fun b => (hT b).elim .inl fun t => .inr (.inl t)) (.inr ⟨_, vs.toArray, _, hk, rfl, rfl, rfl, ?_, ?_⟩) (fun b u t => ?_) (fun b t => ?_) fun t => absurd (if_neg aT) t
    · rw [List.size_toArray, many]
      exact fits
    · simpa using vals
    · by_cases c : T b
      · have t' := (if_pos c).symm.trans t
        cases t'
        exact tabT b c
      · exact nomatch (if_neg c).symm.trans t
    · exact (hT b).elim (fun q => absurd q t) .inr
  | none =>
    refine go (fun b => if b = a then some (.frz { cls := .type "list", data := .seq vs.toArray } (.lst (ns.map V.int))) else if T b then some (.tbl #[]) else none) (fun p hp => ?_) (fun b => ?_) (.inl (.inr ⟨_, if_pos rfl⟩)) (fun b u t => ?_) (fun b t => ?_) fun _ => hk
    · have ne : ¬ p.2 = a := fun q => aT ⟨p, hp, q⟩
      exact (if_neg ne).trans (if_pos ⟨p, hp, rfl⟩)
    · by_cases c : b = a
      · exact .inr (.inr ⟨_, _, if_pos c⟩)
      · by_cases c2 : T b
        · exact .inr (.inl c2)
        · exact .inl ((if_neg c).trans (if_neg c2))
    · by_cases c : b = a
      · have t' := (if_pos c).symm.trans t
        cases t'
        rw [c]
        exact ⟨at_, by rw [List.length_map]; exact fits, vs, _, vals, at_⟩
      · have t1 := (if_neg c).symm.trans t
        by_cases c2 : T b
        · have t' := (if_pos c2).symm.trans t1
          cases t'
          exact tabT b c2
        · exact nomatch (if_neg c2).symm.trans t1
    · by_cases c : b = a
      · exact .inl c
      · by_cases c2 : T b
        · exact .inr c2
        · exact absurd ((if_neg c).trans (if_neg c2)) t
/-- what is known of the law at the head's heap -/
def GLawAt (l : PySem.W.OpenLaw) (w : World) (K : PySem.W.Frag) (k : Nat) (x : Str) (mg : Str → Option Value) (fa : Addr) (h : Heap) : Prop :=
  ∃ (fd : FuncData) (cs : List (Addr × Addr)) (sp : Sp), (∀ p ∈ cs, h.get? p.2 = some { cls := .none, data := .fields #[] }) ∧ (∀ p ∈ cs, K.lookup p.2 = none) ∧ (∀ p ∈ cs, PySem.W.CodeHd h p.1 p.2) ∧ (∀ (s : Shared) (u : Value), BindsTo s fd ⟨[u], []⟩ [(x, u)]) ∧
    (∀ (H : Hp) (a : Addr) (ns : List Int), ns.length ≤ 63 → (∀ p ∈ cs, H p.2 = some (.tbl #[])) → SqL K H a (ns.map V.int) → sp [.ref a] H (fun v _ => v = .bl true) E0) ∧
    ∀ base : Heap, K.In base → base.Ns mainGlobals mg → (∀ p ∈ cs, TabB base mg p.1 p.2) → GnOk l.prog w K mg base k fa fd [x] sp
theorem g_walkT {l : PySem.W.OpenLaw} {k : Nat} {q : Program} {loose : List Str} {XP : (Str → Option Value) → Heap → Prop} {YP : World → Heap → Prop} {d : DefRec} {K : Params → PySem.W.Frag} {x : Str}
    (most : l.most = some 63) (nodef : d.params.defaults = []) (hr : Room k callerA) (inK : ∀ (w : World) (h : Heap), YP w h → (K w.params).In h)
    (F : ∀ (w : World) (mg : Str → Option Value) (fa : Addr) (h : Heap), YP w h → (K w.params).In h → h.Ns mainGlobals mg → mg d.name = some (.ref fa) → GLawAt l w (K w.params) k x mg fa h) :
    PySem.W.WalkO q loose XP YP l.row.toRowW d [] (fun f vs => PySem.call f vs) := by
  refine Att.attach_call most nodef fun w s₀ s₁ mg mb fa o pm cd doc a vs ns G Y ho hd hcd hmg hobj hints hlen hg => ?_
  have KX := inK w _ Y
  obtain ⟨fd, cs, sp, hT, nT, C, hb, hsp, hF⟩ := F w mg fa _ Y KX G.T.g hmg
  exact g_lawT KX G.T.g G.T.b G.T.builtins G.T.nolimit hg hT nT C G.T.bmain hobj hints (Nat.le_trans hlen (by decide)) hr hF hb fun H hH hS => hsp H a ns hlen hH hS
end LG
set_option Elab.async false
set_option linter.all false
set_option maxRecDepth 100000
set_option maxHeartbeats 1000000
namespace LG
open PySem PySem.Spec PyProof.Rows L2
/-! ### data that are small: their text fits -/
mutual
def small : Nat → PyData → Bool
  | _, .none => true
  | _, .bool _ => true
  | _, .int i => decide (i.natAbs < 10 ^ 12)
  | _, .str x => decide (x.length ≤ 40) && x.cps.toList.all fun c => decide (c < 16 ^ 8)
  | 0, .list _ => false
  | 0, .tuple _ => false
  | n + 1, .list xs => decide (xs.length ≤ 25) && smalls n xs
  | n + 1, .tuple xs => decide (xs.length ≤ 25) && smalls n xs
  | _, .dict kvs => smallKv kvs && decide (kvs.length ≤ 2)
def smalls : Nat → List PyData → Bool
  | _, [] => true
  | n, d :: ds => small n d && smalls n ds
def smallKv : List (PyData × PyData) → Bool
  | [] => true
  | (k, v) :: r => (match k with | .str x => decide (x.length ≤ 40) && x.cps.toList.all fun c => decide (c < 16 ^ 8) | _ => false) && (match v with | .int i => decide (i.natAbs < 10 ^ 12) | _ => false) && smallKv r
end
def signs : Nat → Nat
  | 0 => 1000
  | n + 1 => 25 * (signs n + 2) + 1000
theorem signs_ge (n : Nat) : 1000 ≤ signs n := by
  cases n with
  | zero => exact Nat.le_refl _
  | succ n => exact Nat.le_add_left _ _
theorem log2_small {i : Int} (h : i.natAbs < 10 ^ 12) : i.natAbs.log2 < 1920 := by
  by_cases z : i.natAbs = 0
  · rw [z]
    decide
  · have h2 := Nat.log2_lt z (k := 1920)
    refine h2.mpr (Nat.lt_trans h ?_)
    decide +kernel
theorem text_small {x : Str} (h : (decide (x.length ≤ 40) && x.cps.toList.all fun c => decide (c < 16 ^ 8)) = true) : (reprText x).length ≤ 410 := by
  rw [Bool.and_eq_true, decide_eq_true_eq, List.all_eq_true] at h
  have h2 := PySem.StrLaws.reprText_len x fun c hc => of_decide_eq_true (h.2 c hc)
  omega
theorem int_small {i : Int} (h : i.natAbs < 10 ^ 12) : (Str.ofString (toString i)).length ≤ 13 := by
  have h1 := int_text_length_le10 (a := i) (k := 12) (by decide) h
  rw [PySem.ofString_length]
  exact h1
theorem join_le {sep : Str} (hs : sep.length = 2) : ∀ {ts : List Str} {m : Nat}, (∀ t ∈ ts, t.length ≤ m) → (Str.join sep ts).length ≤ ts.length * (m + 2)
  | [], _, _ => by
    show (Str.empty).length ≤ _
    exact Nat.zero_le _
  | [x], m, h => by
    have h1 := h x (List.mem_singleton.mpr rfl)
    show x.length ≤ _
    simp only [List.length_cons, List.length_nil]
    omega
  | x :: y :: r, m, h => by
    have h1 := h x List.mem_cons_self
    have ih := join_le hs (ts := y :: r) (m := m) fun t ht => h t (List.mem_cons_of_mem _ ht)
    have e : Str.join sep (x :: y :: r) = x ++ sep ++ Str.join sep (y :: r) := rfl
    rw [e, strLen_append, strLen_append, hs]
    simp only [List.length_cons] at ih ⊢
    have e2 : (r.length + 1 + 1) * (m + 2) = (r.length + 1) * (m + 2) + (m + 2) := Nat.succ_mul _ _
    omega

theorem str_len (x : String) : (Str.ofString x).length = x.length := PySem.ofString_length x
theorem list_le {ts : List Str} {m : Nat} (h : ∀ t ∈ ts, t.length ≤ m) (hl : ts.length ≤ 25) : (listText ts).length ≤ 25 * (m + 2) + 2 := by
  rw [listText_eq_join, strLen_append, strLen_append]
  have h1 := join_le (sep := ", ") (by decide +kernel) h
  have e1 : ("[" : Str).length = 1 := by decide +kernel
  have e2 : ("]" : Str).length = 1 := by decide +kernel
  have h2 := Nat.mul_le_mul_right (m + 2) hl
  omega
theorem tuple_le {ts : List Str} {m : Nat} (h : ∀ t ∈ ts, t.length ≤ m) (hl : ts.length ≤ 25) : (tupleText ts).length ≤ 25 * (m + 2) + 3 := by
  unfold tupleText
  rw [strLen_append, strLen_append]
  have h1 := join_le (sep := ", ") (by decide +kernel) h
  have e1 : ("(" : Str).length = 1 := by decide +kernel
  have e2 : (Str.ofString (if (ts.length == 1) = true then ",)" else ")" : String)).length ≤ 2 := by
    split <;> decide +kernel
  have h2 := Nat.mul_le_mul_right (m + 2) hl
  omega
theorem dict_le {ts : List Str} {m : Nat} (h : ∀ t ∈ ts, t.length ≤ m) (hl : ts.length ≤ 2) : (dictText ts).length ≤ 2 * (m + 2) + 2 := by
  unfold dictText
  rw [strLen_append, strLen_append]
  have h1 := join_le (sep := ", ") (by decide +kernel) h
  have e1 : ("{" : Str).length = 1 := by decide +kernel
  have e2 : ("}" : Str).length = 1 := by decide +kernel
  have h2 := Nat.mul_le_mul_right (m + 2) hl
  omega
theorem shownAll_length : ∀ xs : List PyData, (PyData.shownAll xs).length = xs.length
  | [] => rfl
  | x :: xs => by
    simp only [PyData.shownAll, List.length_cons, shownAll_length xs]
theorem shownKv_length : ∀ xs : List (PyData × PyData), (PyData.shownKv xs).length = xs.length
  | [] => rfl
  | (k, v) :: xs => by
    simp only [PyData.shownKv, List.length_cons, shownKv_length xs]
theorem smallKv_shown : ∀ kvs : List (PyData × PyData), smallKv kvs = true → ∀ t ∈ PyData.shownKv kvs, t.length ≤ 430
  | [], _, t, ht => by
    simp only [PyData.shownKv] at ht
    cases ht
  | (k, v) :: r, h, t, ht => by
    simp only [smallKv, Bool.and_eq_true] at h
    obtain ⟨⟨h1, h2⟩, h3⟩ := h
    simp only [PyData.shownKv, List.mem_cons] at ht
    rcases ht with rfl | ht
    · cases k with
      | str x =>
        cases v with
        | int i =>
          have a1 := text_small (x := x) h1
          have a2 := int_small (i := i) (of_decide_eq_true h2)
          have e : (": " : Str).length = 2 := by decide +kernel
          simp only [PyData.shown]
          rw [strLen_append, strLen_append, e]
          omega
        | _ => cases h2
      | _ => cases h1
    · exact smallKv_shown r h3 t ht
mutual
theorem small_shown : ∀ (n : Nat) (d : PyData), small n d = true → d.shown.length ≤ signs n
  | n, .none, _ => by
    simp only [PyData.shown]
    have := signs_ge n
    have e : ("None" : Str).length = 4 := by decide +kernel
    omega
  | n, .bool b, _ => by
    simp only [PyData.shown]
    have := signs_ge n
    have e1 : (Str.ofString "True").length = 4 := by decide +kernel
    have e2 : (Str.ofString "False").length = 5 := by decide +kernel
    cases b
    · rw [if_neg (by decide)]
      omega
    · rw [if_pos rfl]
      omega
  | n, .int i, h => by
    have := signs_ge n
    have h' := int_small (i := i) (by
      simp only [small] at h
      exact of_decide_eq_true h)
    simp only [PyData.shown]
    omega
  | n, .str x, h => by
    have := signs_ge n
    have h' := text_small (x := x) (by
      simp only [small] at h
      exact h)
    simp only [PyData.shown]
    omega
  | 0, .list xs, h => by
    simp only [small] at h
    cases h
  | 0, .tuple xs, h => by
    simp only [small] at h
    cases h
  | n + 1, .list xs, h => by
    simp only [small, Bool.and_eq_true, decide_eq_true_eq] at h
    have h1 := list_le (small_shownAll n xs h.2) (by rw [shownAll_length]; exact h.1)
    simp only [PyData.shown, signs]
    omega
  | n + 1, .tuple xs, h => by
    simp only [small, Bool.and_eq_true, decide_eq_true_eq] at h
    have h1 := tuple_le (small_shownAll n xs h.2) (by rw [shownAll_length]; exact h.1)
    simp only [PyData.shown, signs]
    omega
  | n, .dict kvs, h => by
    have := signs_ge n
    have h : smallKv kvs = true ∧ kvs.length ≤ 2 := by
      cases n <;> (simp only [small, Bool.and_eq_true, decide_eq_true_eq] at h; exact h)
    have h1 := dict_le (m := 430) (smallKv_shown kvs h.1) (by rw [shownKv_length]; exact h.2)
    simp only [PyData.shown]
    omega
theorem small_shownAll : ∀ (n : Nat) (ds : List PyData), smalls n ds = true → ∀ t ∈ PyData.shownAll ds, t.length ≤ signs n
  | n, [], _, t, ht => by
    simp only [PyData.shownAll] at ht
    cases ht
  | n, d :: ds, h, t, ht => by
    simp only [smalls, Bool.and_eq_true] at h
    simp only [PyData.shownAll, List.mem_cons] at ht
    rcases ht with rfl | ht
    · exact small_shown n d h.1
    · exact small_shownAll n ds h.2 t ht
end
end LG
set_option Elab.async false
set_option linter.all false
set_option maxRecDepth 100000
set_option maxHeartbeats 1000000
namespace LG
open PySem PySem.Spec PyProof.Rows L2
mutual
theorem small_showable : ∀ (n : Nat) (d : PyData), small n d = true → d.showable = true
  | n, .none, _ => by simp only [PyData.showable]
  | n, .bool b, _ => by simp only [PyData.showable]
  | n, .int i, h => by
    simp only [small, decide_eq_true_eq] at h
    simp only [PyData.showable, decide_eq_true_eq]
    exact log2_small h
  | n, .str x, h => by simp only [PyData.showable]
  | 0, .list xs, h => by
    simp only [small] at h
    cases h
  | 0, .tuple xs, h => by
    simp only [small] at h
    cases h
  | n + 1, .list xs, h => by
    simp only [small, Bool.and_eq_true, decide_eq_true_eq] at h
    simp only [PyData.showable]
    exact smalls_showable n xs h.2
  | n + 1, .tuple xs, h => by
    simp only [small, Bool.and_eq_true, decide_eq_true_eq] at h
    simp only [PyData.showable]
    exact smalls_showable n xs h.2
  | n, .dict kvs, h => by
    have h : smallKv kvs = true ∧ kvs.length ≤ 2 := by
      cases n <;> (simp only [small, Bool.and_eq_true, decide_eq_true_eq] at h; exact h)
    simp only [PyData.showable]
    exact smallKv_showable kvs h.1
theorem smalls_showable : ∀ (n : Nat) (ds : List PyData), smalls n ds = true → PyData.showableAll ds = true
  | n, [], _ => by simp only [PyData.showableAll]
  | n, d :: ds, h => by
    simp only [smalls, Bool.and_eq_true] at h
    simp only [PyData.showableAll, small_showable n d h.1, smalls_showable n ds h.2, Bool.and_self]
theorem smallKv_showable : ∀ kvs : List (PyData × PyData), smallKv kvs = true → PyData.showableKv kvs = true
  | [], _ => by simp only [PyData.showableKv]
  | (k, v) :: r, h => by
    simp only [smallKv, Bool.and_eq_true] at h
    obtain ⟨⟨h1, h2⟩, h3⟩ := h
    cases k with
    | str x =>
      cases v with
      | int i =>
        have a2 := log2_small (i := i) (of_decide_eq_true h2)
        simp only [PyData.showableKv, PyData.showable, smallKv_showable r h3, decide_eq_true a2, Bool.and_self]
      | _ => cases h2
    | _ => cases h1
end
mutual
theorem small_depth : ∀ (n : Nat) (d : PyData), small n d = true → d.depth ≤ n + 1
  | n, .none, _ => by simp only [PyData.depth]; omega
  | n, .bool b, _ => by simp only [PyData.depth]; omega
  | n, .int i, h => by simp only [PyData.depth]; omega
  | n, .str x, h => by simp only [PyData.depth]; omega
  | 0, .list xs, h => by
    simp only [small] at h
    cases h
  | 0, .tuple xs, h => by
    simp only [small] at h
    cases h
  | n + 1, .list xs, h => by
    simp only [small, Bool.and_eq_true, decide_eq_true_eq] at h
    simp only [PyData.depth]
    have := smalls_depth n xs h.2
    omega
  | n + 1, .tuple xs, h => by
    simp only [small, Bool.and_eq_true, decide_eq_true_eq] at h
    simp only [PyData.depth]
    have := smalls_depth n xs h.2
    omega
  | n, .dict kvs, h => by
    have h : smallKv kvs = true ∧ kvs.length ≤ 2 := by
      cases n <;> (simp only [small, Bool.and_eq_true, decide_eq_true_eq] at h; exact h)
    simp only [PyData.depth]
    have := smallKv_depth kvs h.1
    omega
theorem smalls_depth : ∀ (n : Nat) (ds : List PyData), smalls n ds = true → PyData.depthAll ds ≤ n + 1
  | n, [], _ => by simp only [PyData.depthAll]; omega
  | n, d :: ds, h => by
    simp only [smalls, Bool.and_eq_true] at h
    simp only [PyData.depthAll]
    have := small_depth n d h.1
    have := smalls_depth n ds h.2
    omega
theorem smallKv_depth : ∀ kvs : List (PyData × PyData), smallKv kvs = true → PyData.depthKv kvs = 0
  | [], _ => by simp only [PyData.depthKv]
  | (k, v) :: r, h => by
    simp only [smallKv, Bool.and_eq_true] at h
    obtain ⟨⟨h1, h2⟩, h3⟩ := h
    cases k with
    | str x =>
      cases v with
      | int i => simp only [PyData.depthKv, PyData.depth, smallKv_depth r h3]; omega
      | _ => cases h2
    | _ => cases h1
end
mutual
theorem noDict {K : PySem.W.Frag} {H : Hp} : ∀ (d : PyData) (v : V), Dp K H v d → d.hasDict = false
  | .none, _, _ => by simp only [PyData.hasDict]
  | .bool _, _, _ => by simp only [PyData.hasDict]
  | .int _, _, _ => by simp only [PyData.hasDict]
  | .str _, _, _ => by simp only [PyData.hasDict]
  | .list ds, _, h => by
    cases h with
    | lst _ ha =>
      simp only [PyData.hasDict]
      exact noDicts ds _ ha
  | .tuple ds, _, h => by
    cases h with
    | tup _ ha =>
      simp only [PyData.hasDict]
      exact noDicts ds _ ha
  | .dict _, _, h => by cases h
theorem noDicts {K : PySem.W.Frag} {H : Hp} : ∀ (ds : List PyData) (vs : List V), DpAll K H vs ds → PyData.hasDictAll ds = false
  | [], _, _ => by simp only [PyData.hasDictAll]
  | d :: ds, _, h => by
    cases h with
    | cons h1 h2 => simp only [PyData.hasDictAll, noDict d _ h1, noDicts ds _ h2, Bool.or_self]
end
theorem same_tup {K : PySem.W.Frag} {H H' : Hp} {a : Addr} {xs : List V} (e : Same H H') (h : SqT K H a xs) : SqT K H' a xs := by
  rcases h with (h | ⟨o, h⟩) | h
  · exact .inl (.inl (e _ _ h))
  · exact .inl (.inr ⟨o, e _ _ h⟩)
  · exact .inr h
mutual
theorem Dp_same {K : PySem.W.Frag} {H H' : Hp} (e : Same H H') : ∀ (d : PyData) (v : V), Dp K H v d → Dp K H' v d
  | .none, _, h => by cases h; exact .non
  | .bool b, _, h => by cases h; exact .bl b
  | .int i, _, h => by cases h; exact .int i
  | .str x, _, h => by cases h; exact .str x
  | .list ds, _, h => by
    cases h with
    | lst hs ha => exact .lst (e.seq hs) (DpAll_same e ds _ ha)
  | .tuple ds, _, h => by
    cases h with
    | tup hs ha => exact .tup (same_tup e hs) (DpAll_same e ds _ ha)
  | .dict _, _, h => by cases h
theorem DpAll_same {K : PySem.W.Frag} {H H' : Hp} (e : Same H H') : ∀ (ds : List PyData) (vs : List V), DpAll K H vs ds → DpAll K H' vs ds
  | [], _, h => by cases h; exact .nil
  | d :: ds, _, h => by
    cases h with
    | cons h1 h2 => exact .cons (Dp_same e d _ h1) (DpAll_same e ds _ h2)
end
/-! ### data, or a dict of flat data -/
def keyD : Key → PyData
  | .inl i => .int i
  | .inr x => .str x
inductive PairsS : List (Key × V) → List (PyData × PyData) → Prop
  | nil : PairsS [] []
  | int {k : Key} {i : Int} {r : List (Key × V)} {D : List (PyData × PyData)} : PairsS r D → PairsS ((k, .int i) :: r) ((keyD k, .int i) :: D)
inductive Dx (K : PySem.W.Frag) (H : Hp) : V → PyData → Prop
  | flat {v : V} {d : PyData} : Dp K H v d → Dx K H v d
  | dct {a : Addr} {kvs : List (Key × V)} {D : List (PyData × PyData)} : H a = some (.dK kvs) → PairsS kvs D → Dx K H (.ref a) (.dict D)
theorem Dx_same {K : PySem.W.Frag} {H H' : Hp} (e : Same H H') {d : PyData} {v : V} (h : Dx K H v d) : Dx K H' v d := by
  cases h with
  | flat h => exact .flat (Dp_same e _ _ h)
  | dct h p => exact .dct (e _ _ h) p
theorem pairs_read {h : Heap} {kvs : List (Key × V)} {D : List (PyData × PyData)} {vs : List (Key × Value)} (p : PairsS kvs D) : KV kvs vs → PyProof.V.PairsRead h keyD vs D [] := by
  induction p generalizing vs with
  | nil =>
    intro r
    cases r
    exact .nil
  | int p ih =>
    intro r
    cases r with
    | @cons _ q _ r' r1 r2 =>
      obtain ⟨k', v'⟩ := q
      obtain ⟨e1, t, e2⟩ := r1
      subst e1
      subst e2
      exact .cons (.int _ _) (ih r2)
section
variable {X : Cx} {pins : List (Addr × Obj)} {σ : L2.St} {H : Hp} {s : Shared}
theorem Dx_reads (I : Inv X pins σ H s) {d : PyData} {v : V} {u : Value} (h : Dx X.K H v d) (r : RelV v u) : ∃ as, Reads s.heap u d as ∧ (d.hasDict = true → sysModules ∉ as) := by
  cases h with
  | flat h =>
    obtain ⟨as, q⟩ := Dp.reads I d v u h r
    exact ⟨as, q, PyData.noDict_hsm (noDict d v h)⟩
  | @dct a kvs D hd p =>
    have e : u = Value.ref a := r
    subst e
    obtain ⟨_, hne, vs, rk, D0⟩ := (show ObjOk X.prog X.w H s.heap a (.dK kvs) from I.hok a _ hd)
    refine ⟨_, PyProof.V.reads_dictOf (enc := keyD) (fun k key hk => ?_) D0 (pairs_read p rk), fun _ hm => ?_⟩
    · rcases keyIs_shape hk with ⟨i, t, rfl, rfl⟩ | ⟨x, t, rfl, rfl⟩
      · exact .int i t
      · exact .str x t
    · have z : sysModules = a := by simpa using hm
      rw [z] at hne
      simp at hne
/-- repr(x), x data that are small -/
def rRepr (K : PySem.W.Frag) : List V → Hp → VK → Prop := fun xs H Q => ∃ (v : V) (d : PyData) (n : Nat), xs = [v] ∧ Dx K H v d ∧ n ≤ 40 ∧ small n d = true ∧ signs n ≤ sizeLine ∧ Q (.str d.shown) H
end
section
variable {X : Cx}
theorem call_repr (hg : X.A.guards = some []) (hu : X.A.units + 64 < cLine) : CallR X (.builtin "repr") (rRepr X.K) := by
  intro pins s σ H xs us Q I r h
  obtain ⟨v, d, n, rfl, hd, hn, hs, hz, q⟩ := h
  obtain ⟨u, rfl, ru⟩ := vals1 r
  have fits := Nat.le_trans (small_shown n d hs) hz
  have deep := small_depth n d hs
  have show_ := small_showable n d hs
  obtain ⟨as, rd, sm⟩ := Dx_reads I hd ru
  cases rd with
  | none => exact PySem.P.repr_of_none ⟨.str _, H, I.tok _, ⟨_, rfl⟩, q⟩
  | bool b => 
    refine PySem.P.repr_of_bool ⟨.str _, H, I.tok _, ⟨_, rfl⟩, ?_⟩
    cases b <;> exact q
  | int i t => exact PySem.P.repr_of_int (of_decide_eq_true (by simpa only [PyData.showable] using show_)) ⟨.str _, H, I.tok _, ⟨_, rfl⟩, q⟩
  | str x t => exact PySem.P.repr_of_str ⟨.str _, H, I.tok _, ⟨_, rfl⟩, q⟩ fits
  | list a1 a2 a3 a4 => exact repr_of_reads' (.list a1 a2 a3 a4) show_ sm hg (by omega) (fun _ _ e => e) (fun h' w tk k => ⟨.str _, H, I.kept (t' := tk) k, ⟨w, rfl⟩, q⟩) fits
  | tuple a1 a2 a3 a4 => exact repr_of_reads' (.tuple a1 a2 a3 a4) show_ sm hg (by omega) (fun _ _ e => e) (fun h' w tk k => ⟨.str _, H, I.kept (t' := tk) k, ⟨w, rfl⟩, q⟩) fits
  | dict a1 a2 a3 a4 a5 => exact repr_of_reads' (.dict a1 a2 a3 a4 a5) show_ sm hg (by omega) (fun _ _ e => e) (fun h' w tk k => ⟨.str _, H, I.kept (t' := tk) k, ⟨w, rfl⟩, q⟩) fits
/-! ### powers -/
theorem op_powB : OpR X (binaryOp .Pow) (rI (fun i j => 0 ≤ j ∧ (Builtin.Int.intBits i : Int) * j ≤ 2 ^ 27) fun i j => .int (i ^ j.toNat)) := opI fun _ _ _ _ _ _ _ hc q => pow_int hc.1 hc.2 q
end
end LG
set_option Elab.async false
set_option linter.all false
set_option maxRecDepth 100000
set_option maxHeartbeats 1000000
namespace LG
open PySem PySem.Spec PyProof.Rows L2
section
variable {prog : Program} {w : World} {A : Around} {E : Value → Shared → Prop} {s : Shared}
theorem applied_back {sl : Addr} {n : Nat} {t : Tok} {Q : Int × Int × Nat → Shared → Prop} (hs : s.heap.IsSliceOf sl .none .none (.int (-1) t)) (h : Q ((n : Int) - 1, -1, n) s) :
    wpAny (model prog w) A (Builtin.Slice.sliceApplied (.ref sl) (pure (n : Int))) Q E s := by
  obtain ⟨os, hos, hcs, hds⟩ := id hs
  unfold Builtin.Slice.sliceApplied Builtin.Slice.sliceFields
  refine wpAny_bind (wpAny_bind (wpAny_field hos hds (x := .none) rfl (wpAny_bind (wpAny_field hos hds (x := .none) rfl (wpAny_bind (wpAny_field hos hds (x := .int (-1) t) rfl (wpAny_pure ?_)))))))
  refine wpAny_bind (slicePart_int ?_)
  show wpAny _ _ (if ((-1 : Int) == 0) = true then _ else _) _ _ s
  rw [if_neg (by decide)]
  refine wpAny_bind (slicePart_none (wpAny_bind (slicePart_none (wpAny_bind (wpAny_pure ?_)))))
  have e1 : Builtin.Slice.sliceAdjust none none (-1) (n : Int) = ((n : Int) - 1, -1) := rfl
  have e2 : Builtin.Slice.slicePlaces ((n : Int) - 1) (-1) (-1) = n := by
    unfold Builtin.Slice.slicePlaces
    rw [if_neg (by decide)]
    by_cases z : (n : Int) - 1 > -1
    · rw [if_pos z]
      have : ((n : Int) - 1 - -1 - 1) / (- -1) + 1 = n := by
        have e3 : (- -1 : Int) = 1 := by decide
        rw [e3, Int.ediv_one]
        omega
      rw [this]
      exact Int.toNat_natCast n
    · rw [if_neg z]
      omega
  show wpAny _ _ (match Builtin.Slice.sliceAdjust none none (-1) (n : Int) with | (lo, hi) => pure (lo, (-1 : Int), Builtin.Slice.slicePlaces lo hi (-1))) _ _ s
  rw [e1]
  show wpAny _ _ (pure ((n : Int) - 1, (-1 : Int), Builtin.Slice.slicePlaces ((n : Int) - 1) (-1) (-1))) _ _ s
  rw [e2]
  exact wpAny_pure h
theorem pick_back (xs : Array Value) : ((List.range xs.size).filterMap fun (k : Nat) => xs[((xs.size : Int) - 1 + (k : Int) * -1).toNat]?).toArray = xs.toList.reverse.toArray := by
  have e : (List.range xs.size).filterMap (fun (k : Nat) => xs[((xs.size : Int) - 1 + (k : Int) * -1).toNat]?) = ((List.range xs.size).map fun k => xs.size - 1 - k).filterMap (xs[·]?) := by
    rw [List.filterMap_map]
    have same : (fun (k : Nat) => xs[((xs.size : Int) - 1 + (k : Int) * -1).toNat]?) = ((xs[·]?) ∘ fun k => xs.size - 1 - k) := by
      funext k
      show _ = xs[xs.size - 1 - k]?
      have : ((xs.size : Int) - 1 + (k : Int) * -1).toNat = xs.size - 1 - k := by omega
      rw [this]
    rw [same]
  rw [e, PySem.W.krv_range, List.filterMap_reverse, PySem.W.krv_all]
theorem item_back {t sl : Addr} {items : Array Value} {tk : Tok} {Q : Value → Shared → Prop} (ht : IsTup s.heap t items) (hs : s.heap.IsSliceOf sl .none .none (.int (-1) tk)) (fits : items.size ≤ sizeLine)
    (h : Q (.ref s.heap.objs.size) { s with heap := s.heap.push { cls := .type "tuple", data := .seq items.toList.reverse.toArray } }) : wpAny (model prog w) A (getItem (.ref t) (.ref sl)) Q E s := by
  have fits2 : sizeOk (.seq items.toList.reverse.toArray) := by
    show items.toList.reverse.toArray.size ≤ sizeLine
    simpa using fits
  obtain ⟨os, hos, hcs, hds⟩ := id hs
  have isSlice : s.TypeIs (.ref sl) "slice" := ⟨os, hos, hcs⟩
  unfold getItem
  try with_reducible refine wpAny_holding ?_
  first | refine wpAny_bind (wpAny_pure ?_) | skip
  refine wpAny_bind (wpAny_sequenceKey ht.typeIs (by decide) ?_)
  refine wpAny_bind (wpAny_callSpecial?_slot (name := Str.ofString "__getitem__") ht.typeIs PyProof.Rows.slot_tuple_getitem
    (wpAny_call_entry PyProof.Rows.slot_tuple_getitem ht.typeIs entry_tuple_getitem ?_ (args_tuple_getitem _ _)))
  show wpAny _ _ (Builtin.Tuple.tupleItemsOf (.ref t) >>= _) _ _ s
  refine wpAny_bind (tupleItemsOf_ ht ?_)
  refine wpAny_bind (wpAny_typeOf isSlice ?_)
  rw [if_pos (by decide)]
  refine wpAny_bind (applied_back hs ?_)
  have no : ¬ ((((items.size : Int) - 1) == 0 && (-1 : Int) == 1 && items.size == items.size) = true) := by
    have : ((-1 : Int) == 1) = false := by decide
    rw [this]
    simp
  show wpAny _ _ (if (((items.size : Int) - 1) == 0 && (-1 : Int) == 1 && items.size == items.size) = true then _ else _) _ _ s
  rw [if_neg no, pick_back items]
  first
    | exact wpAny_bind (m := Builtin.Tuple.tupleExact _) (wpAny_newObj_type (wpAny_pure ⟨_, rfl, wpAny_pure h⟩) fits2)
    | exact wpAny_bind (m := Builtin.Tuple.tupleExact _) (wpAny_newObj_type (wpAny_bind (wpAny_pure (wpAny_pure ⟨_, rfl, wpAny_pure h⟩))) fits2)
    | exact wpAny_bind (wpAny_bind (m := Builtin.Tuple.tupleExact _) (wpAny_newObj_type (wpAny_pure (wpAny_pure ⟨_, rfl, wpAny_pure h⟩)) fits2))
    | exact wpAny_bind (wpAny_bind (m := Builtin.Tuple.tupleExact _) (wpAny_newObj_type (wpAny_pure ⟨_, rfl, wpAny_pure h⟩) fits2))
end
section
variable {X : Cx} {e st : Expr} {te ts : TE} {pos p2 : Pos}
/-- t[::-1], t a tuple -/
def tBack (K : PySem.W.Frag) (te ts : TE) : TE := fun σ H Q => te σ H fun x H1 => ts σ H1 fun k H2 => ∃ a xs, k = .int (-1) ∧ x = .ref a ∧ SqT K H2 a xs ∧ ∀ p, H2 p = none → Q (.ref p) (upd H2 p (.tup xs.reverse))
theorem vals_back {xs : List V} {us : List Value} (r : Vals xs us) : Vals xs.reverse us.reverse := by
  induction r with
  | nil => exact .nil
  | cons a b ih =>
    rw [List.reverse_cons, List.reverse_cons]
    exact Vals.append ih (.cons a .nil)
theorem pe_back (he : PE X e te) (hst : PE X st ts) : PE X (.Subscript e (.Slice none none (some st) p2) pos) (tBack X.K te ts) := by
  refine ⟨fun pins s σ H Q I h => ?_⟩
  refine Subscript_ (thn (he.run pins s σ H _ I h) fun v s1 ⟨x, H1, I1, r1, q1⟩ => ?_)
  refine wpAny_Slice ?_
  rw [evalPart_none]
  refine wpAny_pure (wpAny_pure ?_)
  rw [evalPart_some]
  refine thn (hst.run pins s1 σ H1 _ I1 q1) fun vs s2 ⟨k, H2, I2, r2, a, xs, ek, ex, hx, q⟩ => ?_
  subst ek
  subst ex
  obtain ⟨tk, rfl⟩ := r2
  have ev : v = Value.ref a := r1
  subst ev
  have I3 : Inv X pins σ H2 { s2 with heap := s2.heap.push { cls := .type "slice", data := .fields #[.none, .none, .int (-1) tk] } } := I2.kept (t' := s2.toks) fun b ob q => Heap.get?_push_of_some _ q
  obtain ⟨its, r, ht, hz⟩ := I3.tuple hx
  have fits : its.toArray.size ≤ sizeLine := by
    rw [List.size_toArray, ← r.length]
    exact hz
  refine tail_any (s := { s2 with heap := s2.heap.push { cls := .type "slice", data := .fields #[.none, .none, .int (-1) tk] } }) (ops := [.ref a, .ref s2.heap.objs.size]) ht.typeIs PyProof.Rows.slot_tuple_getitem.lookup ?_ (by with_unfolding_all rfl)
  refine item_back ht (Heap.IsSliceOf.new ..) fits ?_
  refine ⟨.ref _, _, I3.laid (t' := s2.toks) (o := .tup xs.reverse) (fun b ob q => Heap.get?_push_of_some _ q) (Nat.le_refl _) ?_, rfl, q _ (I3.hok.fresh (Nat.le_refl _))⟩
  refine ⟨by rw [List.length_reverse]; exact hz, _, vals_back r, ?_⟩
  have z := IsTup.new (s2.heap.push { cls := .type "slice", data := .fields #[.none, .none, .int (-1) tk] }) its.reverse.toArray
  exact z
end
end LG
set_option Elab.async false
set_option linter.all false
set_option maxRecDepth 100000
set_option maxHeartbeats 1000000
/-! Errors of own classes as values: made by their __init__, their fields, isinstance. -/
namespace LG
open PySem PySem.Spec PyProof.Rows L2
/-- what the written part says of a class of errors -/
structure ErrC (K : PySem.W.Frag) (C : Addr) : Prop where
  ox : OexC K C
  xf : XfC K C
  ca : PySem.W.findIn K (.ref C) "__class__" = some (some (.builtin "object.__class__"))
  mo : PySem.W.mroIn K C (.type "object") = some true
/-- of the descriptor __class__ -/
structure ClsD (K : PySem.W.Frag) : Prop where
  get : PySem.W.specialIn K (.builtin "object.__class__") "__get__" = some (some (.builtin "getset_descriptor.__get__"))
  set : PySem.W.takesIn K (.builtin "object.__class__") = some true
section
open PySem.W PySem.Calls
variable {prog : Program} {w : World} {A : Around} {E : Value → Shared → Prop} {s : Shared} {K : Frag} {x D : Addr} {ox : Obj} {od : Option Obj}
theorem data_found {C : Addr} {name : Str} {a g : Value} (hc : (clsIn K C).isSome = true) (ha : findIn K (.ref C) name = some (some a)) (hg : specialIn K a "__get__" = some (some g)) (ht : takesIn K a = some true) : findObj K C od name = some (.bind g a) := by
  obtain ⟨cd, e⟩ := Option.isSome_iff_exists.mp hc
  unfold findObj
  rw [e, Option.bind_some, ha, Option.bind_some]
  simp [hg, ht]
theorem class_of_err (T : ErrC K D) (U : ClsD K) {Q : Option Value → Shared → Prop} (X : K.In s.heap) (I : PySem.W.InstAt s.heap x ox D od) (h : Q (some (.ref D)) { s with toks := s.toks + 1 }) : wpAny (model prog w) A (getAttr? (.ref x) "__class__") Q E s := by
  have found : findObj K D od "__class__" = some (.bind (.builtin "getset_descriptor.__get__") (.builtin "object.__class__")) := data_found (by obtain ⟨cd, e, _⟩ := any_some T.xf.hdC; rw [e]; rfl) T.ca U.get U.set
  obtain ⟨hp, g, d, t, os⟩ := s
  have l0 := I.type (M := model prog w)
  have l1 := looks_findIn (M := model prog w) X T.xf.ga
  have l2 := looks_findIn (M := model prog w) X T.xf.gg
  have l3 := looks_find (M := model prog w) X I found
  have isB : Looks (model prog w) hp (isInstance (.ref x) (.type "BaseException")) true := l0.andThen (looks_subIn X T.xf.exC)
  have e2 : (Value.builtin "BaseException.__getattribute__" == Value.builtin "object.__getattribute__") = false := by decide +kernel
  have e1 : (onTheHeap (Value.ref D) && Value.builtin "BaseException.__getattribute__" == Value.builtin "object.__getattribute__") = false := by
    rw [e2]
    rfl
  have e0 : (false && onTheHeap (Value.builtin "BaseException.__getattribute__")) = false := rfl
  unfold getAttr? getAttrBy? getAttrBy
  refine wpAny_bind (wpAny_mkText (wpAny_bind (wpAny_attempt (wpAny_holding (wpAny_bind (l0.at (wpAny_bind (l1.at ?_))))))))
  show wpAny _ _ (if (onTheHeap (Value.ref D) && Value.builtin "BaseException.__getattribute__" == Value.builtin "object.__getattribute__") = true then _ else _) _ _ _
  rw [e1, if_neg Bool.false_ne_true]
  unfold getAttrByItsOwn hookBefore
  refine wpAny_bind ?_
  rw [if_pos (show onTheHeap (Value.ref D) = true from rfl)]
  refine l2.at (wpAny_bind (wpAny_attempt (wpAny_holding ?_)))
  unfold callGetattribute
  rw [e0, if_neg Bool.false_ne_true]
  unfold boundAndCalled
  rw [PySem.F.excAttr_ValueError.ga.bind (.ref x)]
  refine wpAny_bind (wpAny_pure ?_)
  show wpAny _ _ (call (.builtin "BaseException.__getattribute__") [.ref x, .str "__class__" t]) _ _ _
  refine wpAny_call (codeAny_call_builtin PySem.F.excAttr_ValueError.ga.plain PySem.F.entry_bexc_ga ?_)
  refine @check_slot (model prog w) _ _ ⟨hp, g, d, t + 1, os⟩ "BaseException.__getattribute__" "BaseException" "__getattribute__" (.ref x) [.str "__class__" t] [] _ (by decide +kernel) (by decide +kernel) isB (PySem.F.args_bexc_ga (.ref x) (.str "__class__" t)) ?_
  unfold Builtin.«object.__getattribute__»
  refine wpAny_bind (wpAny_of_eq (a := ((Value.ref x : Value), [Value.str "__class__" t])) (by first | rfl | (simp only [slotArgs]; rfl)) ?_)
  refine wpAny_bind (wpAny_pure (wpAny_bind (l0.at (wpAny_bind (l3.at ?_)))))
  show wpAny _ _ (holding [Value.builtin "object.__class__"] (call (.builtin "getset_descriptor.__get__") [.builtin "object.__class__", .ref x, .ref D]) >>= ret) _ _ _
  refine wpAny_bind (wpAny_holding (wpAny_call (class_get (s := ⟨hp, g, d, t + 1, os⟩) (ox := ox) (od := od) X I T.mo ?_)))
  refine wpAny_pure ?_
  show wpAny _ _ (handedOut (.ref D)) _ _ _
  rw [handedOut_of (v := .ref D) rfl]
  first
    | exact wpAny_pure (wpAny_pure h)
    | exact wpAny_pure h
    | exact wpAny_pure (wpAny_bind (wpAny_pure (wpAny_pure h)))
theorem kit_err (T : ErrC K D) (U : ClsD K) : KitX K (.ref x) (.ref D) (fun h => PySem.W.InstAt h x ox D od) where
  ty := fun _ _ _ I => I.type
  it := fun _ _ X _ => by
    obtain ⟨cd, e, _⟩ := any_some T.xf.hdC
    unfold clsIn at e
    split at e
    · rename_i c' d' cd' sl' ho
      intro A' Q' E' s' k q
      unfold isType loadHead
      exact wpAny_bind (wpAny_loadPart (k _ _ (X _ _ ho)) (wpAny_pure q))
    · cases e
  ne := (handS_kitx_exc (x := x) (ox := ox) T.xf.ga T.xf.gg T.xf.exC T.xf.hdC T.ca U.get U.set T.mo).ne
  ca := fun X I k => class_of_err T U X I k
end
section
variable {X : Cx} {pins : List (Addr × Obj)} {σ : L2.St} {H : Hp} {s : Shared}
/-- an error at a of the class at C, its dict at d holds fs -/
structure ErrAt (H : Hp) (a C d : Addr) (fs : List (Str × V)) : Prop where
  ob : H a = some (exo a C (some d))
  dc : H d = some (exd d fs)
theorem ErrAt.same {H' : Hp} {a C d : Addr} {fs : List (Str × V)} (e : Same H H') (h : ErrAt H a C d fs) : ErrAt H' a C d fs := ⟨e _ _ h.ob, e _ _ h.dc⟩
theorem err_inst {a C d : Addr} {fs : List (Str × V)} (I : Inv X pins σ H s) (h : ErrAt H a C d fs) : ∃ (ox od : Obj) (mA : Str → Option Value), PySem.W.InstAt s.heap a ox C (some od) ∧ (∀ f, RelO (fs.lookup f) (mA f)) ∧ ∀ f, PySem.W.lookIn f od = some (mA f) := by
  obtain ⟨t1, ho⟩ := exo_at I.hok h.ob
  obtain ⟨mA, hns, rel⟩ := exd_at I.hok h.dc
  obtain ⟨od, hod, hl⟩ := lookIn_ns hns
  exact ⟨_, od, mA, ⟨ho, rfl, rfl, hod⟩, rel, hl⟩
end
section
variable {X : Cx}
/-- isinstance(e, c), e an error of the class at C -/
def rIsErr (K : PySem.W.Frag) : List V → Hp → VK → Prop := fun xs H Q => ∃ (a C d : Addr) (fs : List (Str × V)) (c : V) (u : Value) (b : Bool), xs = [.ref a, c] ∧ ClsV c u ∧ ErrC K C ∧ ErrAt H a C d fs ∧ PySem.W.kitOne K (.ref C) u = some b ∧ Q (.bl b) H
theorem call_isErr (U : ClsD X.K) : CallR X (.builtin "isinstance") (rIsErr X.K) := by
  intro pins s σ H xs us Q I r h
  obtain ⟨a, C, d, fs, c, u, b, rfl, hc, T, at_, e, q⟩ := h
  obtain ⟨u1, u2, rfl, r1, r2⟩ := vals2 r
  have e1 : u1 = Value.ref a := r1
  subst e1
  have e2 := hc.eq r2
  subst e2
  obtain ⟨ox, od, mA, J, _, _⟩ := err_inst I at_
  exact PySem.W.kia_one (kit_err T U) I.kIn J e (fun z => nomatch z) fun tk => ⟨.bl b, H, I.kept (t' := tk) fun _ _ z => z, rfl, q⟩
/-- e.n, e an error -/
def tErrF (K : PySem.W.Frag) (n : Str) (te : TE) : TE := fun σ H Q => te σ H fun x H1 => ∃ (a C d : Addr) (fs : List (Str × V)) (v : V), x = .ref a ∧ ErrC K C ∧ PySem.W.findIn K (.ref C) n = some none ∧ ErrAt H1 a C d fs ∧ fs.lookup n = some v ∧ Q v H1
theorem pe_errf {e : Expr} {te : TE} {pos : Pos} {n : Str} (he : PE X e te) (hb : attributeBase e n X.env (eval e X.env) = eval e X.env := by rfl) : PE X (.Attribute e n pos) (tErrF X.K n te) := by
  refine ⟨fun pins s σ H Q I h => attr_of hb (thn (he.run pins s σ H _ I h) ?_)⟩
  rintro u s1 ⟨x, H1, I1, rx, a, C, d, fs, v, rfl, T, no, at_, l, q⟩
  have eu : u = Value.ref a := rx
  subst eu
  obtain ⟨ox, od, mA, J, rel, hl⟩ := err_inst I1 at_
  obtain ⟨u, hu, ru⟩ := RelO.some_of (v := v) (o := mA n) (by rw [← l]; exact rel n)
  exact HandSPX.exc_get I1.kIn J T.xf.ga T.xf.gg T.xf.exC (PySem.W.findObj_own T.xf.hdC no rfl (by rw [hl, hu])) (handed_of ru) ⟨v, H1, I1.tok _, ru, q⟩
/-- C(e, ..) as a value, C an error class whose __init__ keeps sp -/
def tErrV (K : PySem.W.Frag) (C : Addr) (sp : Sp) (ta : TA) : TE := fun σ H Q => ta σ H fun vs H1 => vs.length ≤ 1000 ∧ ∀ a, H1 a = none → sp (.ref a :: vs) (upd H1 a (exo a C none)) (fun v H2 => v = .non ∧ Q (.ref a) H2) E0
theorem pe_errv {x : Str} {C fI : Addr} {k : Nat} {fd : FuncData} {ps : List Str} {sp : Sp} {e : Expr} {es : List Expr} {ta : TA} {p pos : Pos} (T : OexC X.K C) (iC : PySem.W.findIn X.K (.ref C) "__init__" = some (some (.ref fI))) (tI : PySem.W.typeIn X.K (.ref fI) = some (.type "function"))
    (G : FnOk X.prog X.w X.K X.mg X.base CX0 k fI fd ps sp) (hr : Room (k + 1) X.A) (hb : Binds X.K fd ps []) (hg : Gl X x) (hm : X.mg x = some (.ref C)) (ha : PA X (e :: es) ta)
    (hdb : (x == ("__debug__" : Str)) = false := by decide) (he : starEach (e :: es) X.env = (false, eval e X.env) :: starEach es X.env := by rfl) (hpl : (backTo pos (starEach es X.env)).any (·.1) = false := by rfl) :
    PE X (.Call (.Name x p) (e :: es) [] pos) (tErrV X.K C sp ta) := by
  refine ⟨fun pins s σ H Q I h => wpAny_Call_Name_kw (ld_glob I hg hm ?_ hdb)⟩
  obtain ⟨nm, q, N, bs, bm, sn, sub, ab, col, dd, k0, k1, k2, k3, k5, hC, hbm⟩ := T.cls
  refine PySem.W.callWith_K (h₀ := X.base) I.ok.mod.kin T.kC (thn (ha.run pos pins s σ H _ I h) fun us s1 ⟨vs, H1, I1, r1, hz, q1⟩ => ⟨I1.kIn, ?_⟩) he hpl
  show wpAny _ _ (call (.ref C) us) _ _ _
  obtain ⟨hp, g, dr, tk, os⟩ := s1
  have above : hp.objs.size ≤ hp.objs.size + 1 := Nat.le_succ _
  have free : H1 (hp.objs.size + 1) = none := I1.hok.fresh above
  have hq := q1 (hp.objs.size + 1) free
  have keeps : ∀ b o, hp.get? b = some o → ((hp.push (PySem.W.kdv_tup us)).push (PySem.HandSPX.excO C hp.objs.size)).get? b = some o := fun b o e => Heap.get?_push_of_some _ (Heap.get?_push_of_some _ e)
  have there : ((hp.push (PySem.W.kdv_tup us)).push (PySem.HandSPX.excO C hp.objs.size)).get? (hp.objs.size + 1) = some (PySem.HandSPX.excO C hp.objs.size) := by heap_get
  have I2 : Inv X pins σ (upd H1 (hp.objs.size + 1) (exo (hp.objs.size + 1) C none)) ⟨(hp.push (PySem.W.kdv_tup us)).push (PySem.HandSPX.excO C hp.objs.size), g, dr, tk, os⟩ :=
    I1.laid (t' := tk) (a := hp.objs.size + 1) (o := exo (hp.objs.size + 1) C none) keeps above (exo_ok there)
  have r2 : Vals (V.ref (hp.objs.size + 1) :: vs) (Value.ref (hp.objs.size + 1) :: us) := .cons rfl r1
  have hl : ((Value.ref (hp.objs.size + 1) :: us) ++ []).length = ps.length := by
    rw [List.append_nil, ← r2.length]
    exact G.len _ _ _ _ hq
  have fits : us.length ≤ sizeLine := by
    rw [← r1.length, sizeLine_eq]
    omega
  have bd := hb _ (Value.ref (hp.objs.size + 1) :: us) I2.kIn hl
  rw [List.append_nil] at bd
  refine wpAny_call (PySem.HandSPX.call_own F.excBase_ValueError (fun Y => PySem.HandSPX.refsVE_contains Y bm hbm) (I1.kIn _ _ hC) (PySem.W.looks_findIn I1.kIn iC) (fun self => PySem.W.bind_fn I1.kIn self tI) fits
    (codeAny_mono (G.run _ X.stack _ _ ⟨Value.ref (hp.objs.size + 1) :: us, []⟩ (Value.ref (hp.objs.size + 1) :: us) _ _ E0 (hr.make C us []) (I2.env0.make C us []) bd r2 hq) fun r s' hq' => ?_))
  match r, hq' with
  | .error _, hq' => exact hq'.elim
  | .ok .next, hq' => exact hq'.elim
  | .ok .brk, hq' => exact hq'.elim
  | .ok .cont, hq' => exact hq'.elim
  | .ok (.ret u), hq' =>
    obtain ⟨v, H', I3, rv, ev, q3⟩ := I2.after hq'
    subst ev
    exact ⟨rv, ⟨V.ref (hp.objs.size + 1), H', I3, rfl, q3⟩⟩
end
end LG
set_option Elab.async false
set_option linter.all false
set_option maxRecDepth 100000
set_option maxHeartbeats 1000000
/-! The facts of classes of errors, by one look at the written part. -/
namespace LG
open PySem PySem.Spec PyProof.Rows L2
open PySem.HandSPX (veTail refsVE)
/-- the class at C stands there with the bases bm behind it -/
def clsB (K : PySem.W.Frag) (C : Addr) (bm : List Value) : Bool := match K.lookup C with
  | some ⟨.type "type", _, .cls cd, sl⟩ => (match cd.mro, sl.toList with
    | .ref D :: r, [_, _, _, _, some (.builtin n), _] => D == C && (n == "ValueError.__new__" && (!cd.hasDel && (cd.hasDict && decide (r = bm))))
    | _, _ => false)
  | _ => false
theorem clsB_ok {K : PySem.W.Frag} {C : Addr} {bm : List Value} (q : clsB K C bm = true) : ∃ nm qn N bs sn sub ab col dd k0 k1 k2 k3 k5, K.lookup C = some (excClassObj nm qn C N bs bm true sn sub ab col dd k0 k1 k2 k3 k5 "ValueError.__new__") := by
  unfold clsB at q
  split at q
  · rename_i dd cd sl ho
    split at q
    · rename_i D r k0 k1 k2 k3 n k5 hm hs
      simp only [Bool.and_eq_true, beq_iff_eq, Bool.not_eq_true', decide_eq_true_eq] at q
      obtain ⟨rfl, rfl, hdel, hdict, rfl⟩ := q
      obtain ⟨nm, bs, mro, ns, qn, hd, sn, sub, ab, col, del⟩ := cd
      dsimp only at hm hdel hdict
      subst hm hdel hdict
      obtain ⟨l⟩ := sl
      simp only at hs
      subst hs
      exact ⟨nm, qn, ns, bs, sn, sub, ab, col, dd, k0, k1, k2, k3, k5, ho⟩
    · cases q
  · cases q
def errB (K : PySem.W.Frag) (C : Addr) (bm : List Value) : Bool :=
  clsB K C bm && (refsVE bm && (decide (PySem.W.findIn K (.ref C) "__setattr__" = some (some (.builtin "object.__setattr__"))) && (decide (PySem.W.subIn K (.ref C) (.type "BaseException") = some true) &&
  (decide (PySem.W.typeIn K (.ref C) = some (.type "type")) && (PySem.W.keepIn K (.ref C) && (xfB K C && (decide (PySem.W.findIn K (.ref C) "__class__" = some (some (.builtin "object.__class__"))) && decide (PySem.W.mroIn K C (.type "object") = some true))))))))
theorem errB_ok {K : PySem.W.Frag} {C : Addr} {bm : List Value} (q : errB K C bm = true) : ErrC K C := by
  unfold errB at q
  simp only [Bool.and_eq_true, decide_eq_true_eq] at q
  obtain ⟨q1, q2, q3, q4, q5, q6, q7, q8, q9⟩ := q
  obtain ⟨nm, qn, N, bs, sn, sub, ab, col, dd, k0, k1, k2, k3, k5, ho⟩ := clsB_ok q1
  exact ⟨⟨⟨nm, qn, N, bs, bm, sn, sub, ab, col, dd, k0, k1, k2, k3, k5, ho, q2⟩, q3, q4, q5, q6⟩, xfB_ok q7, q8, q9⟩
theorem clsB_in {K : PySem.W.Frag} {C : Addr} {bm : List Value} (q : clsB K C bm = true) : ∃ cd, PySem.W.clsIn K C = some cd ∧ cd.mro = .ref C :: bm := by
  obtain ⟨nm, qn, N, bs, sn, sub, ab, col, dd, k0, k1, k2, k3, k5, ho⟩ := clsB_ok q
  unfold PySem.W.clsIn
  rw [ho]
  exact ⟨_, rfl, rfl⟩
/-- isinstance by the classes' bases -/
theorem kit_refs {K : PySem.W.Frag} {C D : Addr} {bm bmD : List Value} (q : errB K C bm = true) (qD : errB K D bmD = true) : PySem.W.kitOne K (.ref C) (.ref D) = some (decide (C = D) || bm.contains (.ref D)) := by
  have q1 : clsB K C bm = true := by
    unfold errB at q
    exact (Bool.and_eq_true_iff.mp q).1
  have q2 : clsB K D bmD = true := by
    unfold errB at qD
    exact (Bool.and_eq_true_iff.mp qD).1
  obtain ⟨cd, e1, m1⟩ := clsB_in q1
  obtain ⟨dd, e2, m2⟩ := clsB_in q2
  unfold PySem.W.kitOne
  by_cases same : C = D
  · subst same
    simp
  · have ne : ¬ ((Value.ref C == Value.ref D) = true) := by
      intro z
      exact same (Value.ref.inj (beq_iff_eq.mp z))
    rw [if_neg ne]
    have ty : PySem.W.typeIn K (.ref D) = some (.type "type") := (errB_ok qD).ox.tyC
    show (if ((PySem.W.clsIn K D).isSome && PySem.W.typeIn K (.ref D) == some (.type "type")) = true then PySem.W.subIn K (.ref C) (.ref D) else none) = _
    rw [e2, ty, if_pos (by simp)]
    show PySem.W.mroIn K C (.ref D) = _
    unfold PySem.W.mroIn
    rw [e1, Option.bind_some, m1, if_neg (by simp)]
    simp [same, List.contains_cons, Ne.symm same]
theorem kit_type {K : PySem.W.Frag} {C : Addr} {bm : List Value} {T : String} (q : errB K C bm = true) (hT : PySem.W.kitMeta T = true) : PySem.W.kitOne K (.ref C) (.type T) = some (bm.contains (.type T)) := by
  have q1 : clsB K C bm = true := by
    unfold errB at q
    exact (Bool.and_eq_true_iff.mp q).1
  obtain ⟨cd, e1, m1⟩ := clsB_in q1
  unfold PySem.W.kitOne
  rw [if_neg (by simp)]
  show (if PySem.W.kitMeta T = true then PySem.W.subIn K (.ref C) (.type T) else none) = _
  rw [if_pos hT]
  show PySem.W.mroIn K C (.type T) = _
  unfold PySem.W.mroIn
  rw [e1, Option.bind_some, m1, if_neg (by simp)]
  simp [List.contains_cons]
end LG
set_option Elab.async false
set_option linter.all false
set_option maxRecDepth 100000
set_option maxHeartbeats 2000000
/-! try .. except X as n, where the suite may keep the exception. -/
namespace LG
open PySem PySem.Spec PyProof.Rows L2
/-- a caught exception at a of the class cls, its dict d -/
def exq (a : Addr) (cls : Value) (d : Option Addr) : HO := .ext fun h => ∃ (o : Obj) (vs : Array Value), h.get? a = some o ∧ o.cls = cls ∧ o.dict = d ∧ o.data = .fields vs
theorem exq_ok {P : Program} {w : World} {H : Hp} {h : Heap} {a : Addr} {cls : Value} {d : Option Addr} {o : Obj} {vs : Array Value} (e : h.get? a = some o) (hc : o.cls = cls) (hd : o.dict = d) (hv : o.data = .fields vs) : ObjOk P w H h a (exq a cls d) :=
  ⟨⟨o, vs, e, hc, hd, hv⟩, ⟨o, e⟩, fun _ _ ⟨o, vs, q, r⟩ k => ⟨o, vs, k _ q, r⟩⟩
section
variable {X : Cx} {pins pins' : List (Addr × Obj)} {σ : L2.St} {H : Hp} {s s1 : Shared} {a : Addr} {cls : Value} {d : Option Addr}
/-- from the landing of an exception on it is tracked -/
theorem keep_exc {B : Heap} {h4 : Heap} {oe : Obj} {vs : Array Value} (hex : X.ex = []) (J : Inv X pins σ H s) (J4 : Inv X pins σ H { s1 with heap := h4 }) (nb : ∀ b o, s.heap.get? b = some o → b ∉ frs X.stack → B.get? b = some o) (hB : B.get? a = none)
    (nfr : a ∉ frs X.stack) (na : H a = none) (nL : a ≠ X.env.locals) (nF : a ∉ X.fs) (he : h4.get? a = some oe) (hz : Zc cls d oe) (hv : oe.data = .fields vs) :
    Inv (X.suite a (X.pn ++ pins)) [] σ (upd H a (exq a cls d)) { s1 with heap := h4 } := by
  have none_s : s.heap.get? a = none := by
    cases q : s.heap.get? a with
    | none => rfl
    | some o =>
      have := nb a o q nfr
      rw [hB] at this
      cases this
  have none_0 : X.s_0.heap.get? a = none := by
    cases q : X.s_0.heap.get? a with
    | none => rfl
    | some o =>
      obtain ⟨o', q'⟩ := J.base.there a o q (by rw [hex]; simp)
      rw [none_s] at q'
      cases q'
  have ne0 : ∀ {b : Addr} {u : HO}, H b = some u → b ≠ a := fun {b u} q => ne_of_none q na
  refine ⟨J4.ok.suite _ _, J4.os, J4.bare, ⟨J4.base.keep, J4.base.slot, fun b o e n hx => ?_, J4.base.there, fun b xs e => ?_, fun b o u e => ?_, fun b ps e => ?_⟩, J4.loc, J4.cell, ?_, fun y c e => ?_, fun p hp => ?_, fun b u e => ?_, J4.len⟩
  · have : b ≠ a := fun z => by
      rw [z] at e
      have e : X.s_0.heap.get? a = some o := e
      rw [none_0] at e
      cases e
    rw [upd_ne this]
    exact J4.base.free b o e n hx
  · have q := J4.base.tups b xs e
    rw [upd_ne (ne0 q)]
    exact q
  · have q := J4.base.frzs b o u e
    rw [upd_ne (ne0 q)]
    exact q
  · obtain ⟨more, q⟩ := J4.base.tbls b ps e
    exact ⟨more, by rw [upd_ne (ne0 q)]; exact q⟩
  · show upd H a (exq a cls d) X.env.locals = none
    rw [upd_ne (Ne.symm nL)]
    exact J4.free
  · have : c ≠ a := fun z => by
      obtain ⟨v, o, ho, hd⟩ := J4.cell y c e
      rw [z] at ho
      have ho : h4.get? a = some o := ho
      rw [he] at ho
      cases ho
      rw [hv] at hd
      cases hd
    rw [upd_ne this]
    exact J4.freeC y c e
  · have hp' : p ∈ X.pn ++ pins := by
      rw [List.append_nil] at hp
      exact hp
    obtain ⟨q1, q2, q3, q4, q5⟩ := J4.pin p hp'
    have : p.1 ≠ a := fun z => by
      obtain ⟨r1, _⟩ := J.pin p hp'
      rw [z, none_s] at r1
      cases r1
    exact ⟨q1, by rw [upd_ne this]; exact q2, q3, q4, q5⟩
  · by_cases hb : b = a
    · rw [hb, upd_same] at e
      cases e
      rw [hb]
      exact exq_ok he hz.1 hz.2 hv
    · rw [upd_ne hb] at e
      exact (J4.hok b u e).stay (fun c v _ q => q) (fun c q => by rw [upd_ne (ne0 q)]; exact q) fun c xs q => by rw [upd_ne (ne0 q)]; exact q
theorem unkeep {pn' : List (Addr × Obj)} (I : Inv (X.suite a (X.pn ++ pins)) pn' σ H s) (ok : X.Ok) : Inv X pins σ H s :=
  ⟨ok, I.os, I.bare, I.base, I.loc, I.cell, I.free, I.freeC, fun p hp => I.pin p (List.mem_append_left _ hp), I.hok, I.len⟩
end
/-- what the clause wishes of an exception of the body; the suite knows the exception as an object -/
def wKeep (K : PySem.W.Frag) (c : Value) (i : Nat) (ts : TS) (Wout : WX) (D : Ends) : WX := fun cls d σ H =>
  ∃ b, PySem.W.exmOne K cls c = some b ∧ (b = true → ∀ a, H a = none → ts { nx := fun σ' H' => D.nx (σ'.set i none) H', rt := D.rt, bk := fun σ' H' => D.bk (σ'.set i none) H', ct := fun σ' H' => D.ct (σ'.set i none) H' } (σ.set i (some (.ref a))) (upd H a (exq a cls d))) ∧
    (b = false → Wout cls d σ H)
section
variable {X : Cx} {x n : Str} {c : Value} {i : Nat} {body suite : List Stmt} {b₀ : Stmt} {np pos pos' : Pos} {tb : WX → TS} {ts : TS} {Wout : WX}
theorem ps_try_keep (hs : X.stack = X.env :: X.outer) (hf : X.env.frame = some X.env.locals) (hex : X.ex = []) (hN : X.N.Nodup) (hi : X.N[i]? = some n) (hln : X.env.kindOf n = some .local) (hc : L2.Names X x c) (tk : Takes X Wout)
    (hb : ∀ (W : WX) (pn : List (Addr × Obj)) (xe : Value → Shared → Prop), Takes (X.tr pn xe) W → PassesOwn (model X.prog X.w) X.A X.env xe → PSs (X.tr pn xe) body (tb W))
    (hsu : ∀ (a : Addr) (pn : List (Addr × Obj)), PSs (X.suite a pn) (b₀ :: suite) ts) :
    PS X (.Try body [.ExceptHandler (some (.Name x np)) (some n) (b₀ :: suite) pos'] [] [] pos) (fun D σ H => tb (wKeep X.K c i ts Wout D) D σ H) := by
  refine ⟨fun pins s σ H D I h => ?_⟩
  have ok := I.ok
  have hfr : X.A.frames = some (X.env :: X.outer) := by rw [ok.frames, hs]
  have hloc : Loc X.env.scope n := .inl hln
  refine wpAny_Try_except ?_
  refine wpAny_mono ((hb (wKeep X.K c i ts Wout D) (X.pn ++ pins) (fun e z1 => wpAny (model X.prog X.w) X.A (noteFrame e X.env) (fun _ z2 => wpAny (model X.prog X.w) X.A (setFlight e none) (fun _ z3 =>
    wpAny (model X.prog X.w) X.A (handleBy e X.env [.ExceptHandler (some (.Name x np)) (some n) (b₀ :: suite) pos']) (SP X pins D) X.xe z3) X.xe z2) X.xe z1) (fun u s' xx => ?_) PassesOwn.looking).run [] s σ H D (I.toTry _) h) (fun f s1 hsp => ?_) fun _ _ he => he
  · obtain ⟨a, B, sI, pins', σ', H', cls, d, rfl, J', nb, up, sky, na, os, ag, b, hb1, hyes, hno⟩ := xx
    have J : Inv X pins σ' H' sI := J'.ofTry ok
    have sky' : Sky B (X.env :: X.outer) a (Zc cls d) X.env.locals s'.heap := by rw [← hs]; exact sky
    show wpAny (model X.prog X.w) X.A (noteFrame (.ref a) X.env) _ _ _
    refine Sky.land Zc.steady hfr hf sky' fun g3 fl3 up3 => ?_
    have J3 : Inv X pins σ' H' { s' with heap := g3 } := J.landed nb fl3.1 (up.trans up3) os ag
    obtain ⟨oe3, vs3, he3, hz3, hd3⟩ := fl3.there
    have out : ∀ {g : Heap} {o : Obj} {us : Array Value}, g.FunFrames B (X.env :: X.outer) → g.get? a = some o → o.data = .fields us → a ∉ frs (X.env :: X.outer) := by
      intro g o us ff e dd hm
      obtain ⟨_, o', e', hnf⟩ := ff.mem hm
      rw [e] at e'
      cases e'
      exact hnf _ dd
    have nfr := out fl3.2.2.1 he3 hd3
    have nL : a ≠ X.env.locals := fun z => nfr (List.mem_filterMap.mpr ⟨X.env, List.mem_cons_self, by rw [hf, z]⟩)
    have nF : a ∉ X.fs := fun hm => by
      obtain ⟨e, he, q⟩ := List.mem_filterMap.mp hm
      exact nfr (List.mem_filterMap.mpr ⟨e, List.mem_cons_of_mem _ he, q⟩)
    have nfs : a ∉ frs X.stack := by rw [hs]; exact nfr
    have S3 := J3.suite he3 hd3 na nL nF
    refine wpAny_handleBy_cons (codeAny_handlers_test ?_) (by intro q; cases q)
    have LT : PySem.W.Looks (model X.prog X.w) g3 (typeOf (.ref a)) cls := fun A Q E s k q => wpAny_typeOf_ref (k _ _ he3) (by rw [hz3.1]; exact q)
    have LM := PySem.W.exm_one (M := model X.prog X.w) J3.kIn LT hb1
    have test : ∀ {Q : Value → Shared → Prop} {E : Value → Shared → Prop}, Q c { s' with heap := g3 } → wpAny (model X.prog X.w) (X.A.mark (some (.ref a))) (eval (.Name x np) X.env) Q E { s' with heap := g3 } := by
      intro Q E q
      obtain ⟨hg, hdbg, hm | ⟨hm, hv, hnn⟩⟩ := hc
      · exact ld_glob (X := X.suite a ((a, oe3) :: (X.pn ++ pins))) S3 hg hm q hdbg
      · exact ld_blt (X := X.suite a ((a, oe3) :: (X.pn ++ pins))) S3 hg hm hv q hnn hdbg
    refine test (LM.here ?_)
    cases b with
    | true =>
      refine codeAny_handlers_suite_as ?_
      refine HandSPX.lands_againZ fl3 fun g4 fl4 up4 => ?_
      have J4 : Inv X pins σ' H' { s' with heap := g4 } := J.landed nb fl4.1 ((up.trans up3).trans up4) os ag
      obtain ⟨oe4, vs4, he4, hz4, hd4⟩ := fl4.there
      have S4 := keep_exc hex J J4 nb fl4.2.1 nfs na nL nF he4 hz4 hd4
      refine store_ok (X := X.suite a (X.pn ++ pins)) (v := .ref a) S4 hN hi hloc rfl (fun s5 S5 => ?_) (.inr hln)
      refine wpAny_mono ((hsu a (X.pn ++ pins)).run [] s5 _ _ _ S5 (hyes rfl a na)) (fun f s6 hsp => ?_) (fun _ _ z => False.elim z)
      have end_ : ∀ {σ6 : L2.St} {H6 : Hp} {Q : Shared → Prop}, Inv (X.suite a (X.pn ++ pins)) [] σ6 H6 s6 → (∀ s7, Inv X pins (σ6.set i none) H6 s7 → Q s7) →
          wpAny (model X.prog X.w) X.A (do bindName X.env n .none; unbindBehindTheSuite X.env n pos') (fun _ s7 => Q s7) X.xe s6 := fun {σ6 H6 Q} S6 hq => gone_ok (unkeep S6 ok) hN hi hln hq
      match f, hsp with
      | .next, ⟨σ6, H6, S6, q6⟩ => exact end_ S6 fun s7 J7 => ⟨_, _, J7, q6⟩
      | .brk, ⟨σ6, H6, S6, q6⟩ => exact end_ S6 fun s7 J7 => ⟨_, _, J7, q6⟩
      | .cont, ⟨σ6, H6, S6, q6⟩ => exact end_ S6 fun s7 J7 => ⟨_, _, J7, q6⟩
      | .ret u, ⟨v6, σ6, H6, S6, r6, q6⟩ => exact end_ S6 fun s7 J7 => ⟨_, _, _, J7, r6, q6⟩
    | false =>
      show wpAny _ X.A (handleBy (.ref a) X.env []) _ _ _
      refine wpAny_handleBy_nil ?_
      obtain ⟨k1, k2, k3, oe, vs, T, oT, ts', he, hz, hd, h1, hr⟩ := id fl3
      unfold PySem.passOn
      refine wpAny_bind (wpAny_field he hd h1 ?_)
      rw [if_neg (show ¬ ((Value.ref T == Value.none) = true) from by simp)]
      have fin : wpAny (model X.prog X.w) X.A (setFlight (.ref a) X.env.frame) (fun _ s4 => wpAny (model X.prog X.w) X.A (throw (.ref a) : Sem Flow) (SP X pins D) X.xe s4) X.xe { s' with heap := g3 } := by
        rw [hf]
        refine HandSPX.setFlight_upZ fl3 fun g4 hh4 up4 => wpAny_throw (tk _ _ ?_)
        exact ⟨a, B, sI, pins, σ', H', cls, d, rfl, J, nb, (up.trans up3).trans up4, .inr (.inr (by rw [hs]; exact hh4)), na, os, ag, hno rfl⟩
      first
        | exact wpAny_bind (wpAny_pure (wpAny_bind fin))
        | exact wpAny_bind fin
  · match f, hsp with
    | .next, ⟨σ', H', J', q⟩ => exact wpAny_execs_nil ⟨σ', H', J'.ofTry ok, q⟩
    | .brk, ⟨σ', H', J', q⟩ => exact ⟨σ', H', J'.ofTry ok, q⟩
    | .cont, ⟨σ', H', J', q⟩ => exact ⟨σ', H', J'.ofTry ok, q⟩
    | .ret u, ⟨v, σ', H', J', r, q⟩ => exact ⟨v, σ', H', J'.ofTry ok, r, q⟩
end
end LG
set_option Elab.async false
set_option linter.all false
set_option maxRecDepth 100000
set_option maxHeartbeats 1000000
/-! Caught errors: isinstance, fields; anything that is no error. -/
namespace LG
open PySem PySem.Spec PyProof.Rows L2
/-- a caught error at a of the class at C; its own dict holds fs -/
structure ErrQ (H : Hp) (a C d : Addr) (fs : List (Str × V)) : Prop where
  ob : H a = some (exq a (.ref C) (some d))
  dc : H d = some (.xd fs)
theorem ErrQ.same {H H' : Hp} {a C d : Addr} {fs : List (Str × V)} (e : Same H H') (h : ErrQ H a C d fs) : ErrQ H' a C d fs := ⟨e _ _ h.ob, e _ _ h.dc⟩
section
variable {X : Cx} {pins : List (Addr × Obj)} {σ : L2.St} {H : Hp} {s : Shared}
theorem errq_inst {a C d : Addr} {fs : List (Str × V)} (I : Inv X pins σ H s) (h : ErrQ H a C d fs) : ∃ (ox od : Obj) (mA : Str → Option Value), PySem.W.InstAt s.heap a ox C (some od) ∧ (∀ f, RelO (fs.lookup f) (mA f)) ∧ ∀ f, PySem.W.lookIn f od = some (mA f) := by
  have x : ObjOk X.prog X.w H s.heap a (exq a (.ref C) (some d)) := I.hok a _ h.ob
  obtain ⟨⟨o, vs, e, hc, hd, hv⟩, _, _⟩ := x
  have y : ObjOk X.prog X.w H s.heap d (.xd fs) := I.hok d _ h.dc
  obtain ⟨mA, hns, rel⟩ := y
  obtain ⟨od, hod, hl⟩ := lookIn_ns hns
  obtain ⟨c0, d0, v0, sl⟩ := o
  simp only at hc hd hv
  subst hc hd hv
  exact ⟨_, od, mA, ⟨e, rfl, rfl, hod⟩, rel, hl⟩
end
section
variable {X : Cx}
/-- isinstance(e, c), e a caught error -/
def rIsErrQ (K : PySem.W.Frag) : List V → Hp → VK → Prop := fun xs H Q => ∃ (a C d : Addr) (fs : List (Str × V)) (c : V) (u : Value) (b : Bool), xs = [.ref a, c] ∧ ClsV c u ∧ ErrC K C ∧ ErrQ H a C d fs ∧ PySem.W.kitOne K (.ref C) u = some b ∧ Q (.bl b) H
theorem call_isErrQ (U : ClsD X.K) : CallR X (.builtin "isinstance") (rIsErrQ X.K) := by
  intro pins s σ H xs us Q I r h
  obtain ⟨a, C, d, fs, c, u, b, rfl, hc, T, at_, e, q⟩ := h
  obtain ⟨u1, u2, rfl, r1, r2⟩ := vals2 r
  have e1 : u1 = Value.ref a := r1
  subst e1
  have e2 := hc.eq r2
  subst e2
  obtain ⟨ox, od, mA, J, _, _⟩ := errq_inst I at_
  exact PySem.W.kia_one (kit_err T U) I.kIn J e (fun z => nomatch z) fun tk => ⟨.bl b, H, I.kept (t' := tk) fun _ _ z => z, rfl, q⟩
/-- e.n, e a caught error -/
def tErrQ (K : PySem.W.Frag) (n : Str) (te : TE) : TE := fun σ H Q => te σ H fun x H1 => ∃ (a C d : Addr) (fs : List (Str × V)) (v : V), x = .ref a ∧ ErrC K C ∧ PySem.W.findIn K (.ref C) n = some none ∧ ErrQ H1 a C d fs ∧ fs.lookup n = some v ∧ Q v H1
theorem pe_errq {e : Expr} {te : TE} {pos : Pos} {n : Str} (he : PE X e te) (hb : attributeBase e n X.env (eval e X.env) = eval e X.env := by rfl) : PE X (.Attribute e n pos) (tErrQ X.K n te) := by
  refine ⟨fun pins s σ H Q I h => attr_of hb (thn (he.run pins s σ H _ I h) ?_)⟩
  rintro u s1 ⟨x, H1, I1, rx, a, C, d, fs, v, rfl, T, no, at_, l, q⟩
  have eu : u = Value.ref a := rx
  subst eu
  obtain ⟨ox, od, mA, J, rel, hl⟩ := errq_inst I1 at_
  obtain ⟨u, hu, ru⟩ := RelO.some_of (v := v) (o := mA n) (by rw [← l]; exact rel n)
  exact HandSPX.exc_get I1.kIn J T.xf.ga T.xf.gg T.xf.exC (PySem.W.findObj_own T.xf.hdC no rfl (by rw [hl, hu])) (handed_of ru) ⟨v, H1, I1.tok _, ru, q⟩
end
end LG
set_option Elab.async false
set_option linter.all false
set_option maxRecDepth 100000
set_option maxHeartbeats 2000000
/-! enumerate over a tuple. -/
namespace PySem
open AutoSeq1 (wpAny_loadPart')
theorem meets_enumB {v : Value} {o : Obj} {G : Heap → Prop} (B : Begins v o G) :
    Meets (Builtin.«enumerate.__new__» ⟨[.type "enumerate", v], []⟩) (fun _ R s => G s.heap ∧
      R (.ok (.ret (.ref (s.heap.push o).objs.size))) { s with heap := (s.heap.push o).push { cls := .type "enumerate", data := .fields #[.none, .bool false, .ref s.heap.objs.size, rawInt 0, .none, .none] } }) :=
  .of_wp fun prog w A R s h => by
    obtain ⟨hp, g, d, tk, os⟩ := s
    obtain ⟨hG, h⟩ := h
    have hsub := sub_enumerate
    have it : ∀ {A' : Around} {E : Value → Shared → Prop} {Q : Value → Shared → Prop}, Q (.ref hp.objs.size) ⟨hp.push o, g, d, tk, os⟩ → wpAny (model prog w) A' (pyIter v) Q E ⟨hp, g, d, tk, os⟩ :=
      fun q => B.iter prog w _ _ ⟨hp, g, d, tk, os⟩ _ hG q
    wp_walk
    refine wpAny_stack_any fun st => wpAny_pure ?_
    split
    · rename_i c _ _ _ _ _
      cases (c == Value.type "enumerate")
      · wp_walk using it
        exact ⟨_, rfl, h⟩
      · wp_walk using it
        exact ⟨_, rfl, h⟩
    · wp_walk using it
      exact ⟨_, rfl, h⟩
theorem enum_tuple {prog : Program} {w : World} {A : Around} {E : Value → Shared → Prop} {s : Shared} {l : Addr} {items : Array Value} {Q : Value → Shared → Prop} (hL : s.heap.IsTuple l items)
    (h : ∀ h', IsEnum h' (s.heap.objs.size + 1) s.heap.objs.size 0 .none → h'.IsTupleIter s.heap.objs.size l 0 → h'.objs.size = s.heap.objs.size + 2 → (∀ b o, s.heap.get? b = some o → h'.get? b = some o) → Q (.ref (s.heap.objs.size + 1)) { s with heap := h' }) :
    wpAny (model prog w) A (call (.type "enumerate") [.ref l]) Q E s := by
  refine callType_new F.called_enumerate (by decide) (F.typeCall_enumerate_1 _) (F.newCall_enumerate_1 _) (fun obj => F.args_object_init_2 obj _) F.entry_enumerate_new (meets_enumB (begins_tuple l items)) ⟨hL, ?_⟩
  generalize ho : ({ cls := .type "tuple_iterator", data := .fields #[.ref l, .int 0 0] } : Obj) = io
  generalize hn : ({ cls := .type "enumerate", data := .fields #[.none, .bool false, .ref s.heap.objs.size, rawInt 0, .none, .none] } : Obj) = eo
  have z1 : (s.heap.push io).objs.size = s.heap.objs.size + 1 := Heap.size_push ..
  have he : ((s.heap.push io).push eo).get? (s.heap.objs.size + 1) = some eo := by
    rw [← z1]
    exact Heap.get?_push_size _ (by rw [← hn]; rfl)
  have hi : ((s.heap.push io).push eo).get? s.heap.objs.size = some io := Heap.get?_push_of_some _ (Heap.get?_push_size _ (by rw [← ho]; rfl))
  show _ ∧ _
  rw [z1]
  subst ho hn
  exact ⟨⟨_, he, rfl⟩, h _ he ⟨_, hi, rfl, rfl⟩ (by rw [Heap.size_push, z1]) fun b o x => Heap.get?_push_of_some _ (Heap.get?_push_of_some _ x)⟩
theorem enumT_end {prog : Program} {w : World} {A : Around} {E : Value → Shared → Prop} {s : Shared} {e it t : Addr} {i : Nat} {k : Int} {old : Value} {items : Array Value} {Q : Option Value → Shared → Prop} (hh : A.handled = none) (he : IsEnum s.heap e it k old) (hit : s.heap.IsTupleIter it t i) (ht : s.heap.IsTuple t items) (hx : items[i]? = none)
    (hQ : ∀ h', Heap.ExtBut it s.heap h' → Q none { s with heap := h' }) : wpAny (model prog w) A (pyNext (.ref e)) Q E s := by
  have hT : s.TypeIs (.ref e) "enumerate" := ⟨_, he, rfl⟩
  unfold pyNext
  refine wpAny_bind (wpAny_attempt (wpAny_callSpecial?_slot (name := Str.ofString "__next__") hT F.slot_enumerate_next (wpAny_call_entry F.slot_enumerate_next hT F.entry_enumerate_next ?_ (F.args_enumerate_next_1 _))))
  show wpAny _ _ (field (.ref e) 2 >>= _) _ _ _
  refine wpAny_bind (wpAny_field he rfl (x := .ref it) rfl ?_)
  refine wpAny_bind (wpAny_nextOf_tuple_end hh hit ht hx fun h' x he' hx' => ?_)
  obtain ⟨o, ho, hc⟩ := hx'
  exact wpAny_bind (wpAny_isInstance (T := "StopIteration") (b := true) ⟨o, ho, hc⟩ isSubtype_stop (wpAny_pure (hQ _ he')))
end PySem
namespace LG
open PySem PySem.Spec PyProof.Rows L2
/-- the tuple at a, each item in a new pair with its place -/
def Itet (K : PySem.W.Frag) (a : Addr) : It :=
  ⟨fun i H => ∃ (xs : List V) (x : V), SqT K H a xs ∧ xs[i]? = some x, fun i H v H' => ∃ T x, v = .ref T ∧ H T = none ∧ H' = upd H T (.tup [.int (i : Nat), x]) ∧ ∀ xs, SqT K H a xs → xs[i]? = some x, fun i H => ∃ xs : List V, SqT K H a xs ∧ xs.length ≤ i⟩
theorem turn_enumT {P : Program} {w : World} {K : PySem.W.Frag} {elts : List Expr} {kk : Nat} {tpos : Pos} (a e it : Addr) (nai : a ≠ it) (nea : e ≠ a) :
    Turn P w K (.Tuple elts kk tpos) (Itet K a) [e, it] e (fun i h => (∃ old, IsEnum h e it ((i : Nat) : Int) old) ∧ h.IsTupleIter it a i ∧ e ≠ it) where
  mem := by simp
  obj := fun i h st b hb => by
    obtain ⟨⟨old, he⟩, ⟨o, ho, hc, hd⟩, _⟩ := st
    have e' : b = e ∨ b = it := by simpa using hb
    rcases e' with z | z
    · rw [z]
      exact ⟨_, he, fun v q => nomatch q⟩
    · rw [z]
      exact ⟨o, ho, fun v q => by rw [hd] at q; cases q⟩
  keep := fun i h h' st k => by
    obtain ⟨⟨old, he⟩, hi, hne⟩ := st
    exact ⟨⟨old, k e (by simp) _ he⟩, hi.at fun o q => k it (by simp) o q, hne⟩
  item := by
    intro X hP hw hK hc i pins s σ H E I hf st hg
    subst hP hw hK
    obtain ⟨⟨old, he⟩, hit, hne⟩ := st
    obtain ⟨xs, x, hq, hx⟩ := hg
    obtain ⟨its, rv, p, hz⟩ := I.tuple hq
    obtain ⟨u, hu, ru⟩ := rv.get hx
    have hel : e < s.heap.objs.size := Heap.lt_size he
    have hil : it < s.heap.objs.size := by obtain ⟨_, q, _⟩ := hit; exact Heap.lt_size q
    have hlen : i < its.toArray.size := by
      have := (List.getElem?_eq_some_iff.mp hu).1
      simpa using this
    refine wpAny_pyNext_enum_itemD (Draws.tuple (A := X.A.in1) (show X.A.in1.handled = none from I.ok.hd hc) it a nai its.toArray) he ⟨hit, p⟩ hlen hne (by simp [hne, nea]) fun x2 h' tk hx2 ho hst' hT hsz hk => ?_
    have ex : x2 = u := by
      have q : its.toArray[i]? = some u := by simpa using hu
      exact Option.some.inj (hx2.symm.trans q)
    subst ex
    refine ⟨_, rfl, wpAny_letOwnedTupleGo_enum (s := { s with heap := h', toks := tk + 1 }) ho fun h'' he' sb => ?_⟩
    have hT2 : h''.get? s.heap.objs.size = some { cls := .type "tuple", data := .seq #[.int i tk, x2] } := (sb.2 _ (Nat.ne_of_gt hel)).trans hT
    have new : ObjOk X.prog X.w (upd H s.heap.objs.size (.tup [.int (i : Nat), x])) h'' s.heap.objs.size (.tup [.int (i : Nat), x]) :=
      ⟨by show 2 ≤ sizeLine; decide, [.int i tk, x2], .cons ⟨_, rfl⟩ (.cons ru .nil), ⟨_, hT2, rfl, _, rfl⟩⟩
    have I1 : Inv X pins σ (upd H s.heap.objs.size (.tup [.int (i : Nat), x])) { s with heap := h'', toks := tk + 1 } :=
      I.turnedNew (ch := [e, it]) (fun b ob hb q => (sb.2 b (fun z => hb (by simp [z]))).trans (hk b ob (fun z => hb (by simp [z])) (fun z => hb (by simp [z])) q)) hf (Nat.le_refl _) new
    refine ⟨.ref s.heap.objs.size, _, I1, rfl, ⟨_, x, rfl, I.hok.fresh (Nat.le_refl _), rfl, fun ys hy => by rw [I.tuple_inj hy hq]; exact hx⟩, ⟨⟨x2, ?_⟩, hst'.1.at fun o q => (sb.2 it (Ne.symm hne)).trans q, hne⟩, fun b hb => ?_⟩
    · have e1 : ((i + 1 : Nat) : Int) = (i : Int) + 1 := by omega
      rw [e1]
      exact he'
    · have hb' : b < s.heap.objs.size := by
        have e' : b = e ∨ b = it := by simpa using hb
        rcases e' with z | z
        · rw [z]
          exact hel
        · rw [z]
          exact hil
      rw [upd_ne (Nat.ne_of_lt hb')]
      exact (hf b hb).1
  done := by
    intro X hP hw hK hc i pins s σ H E I hf st hg
    subst hP hw hK
    obtain ⟨⟨old, he⟩, hit, hne⟩ := st
    obtain ⟨xs, hq, hx⟩ := hg
    obtain ⟨its, rv, p, hz⟩ := I.tuple hq
    obtain ⟨f0, f1, f2, f3, f4, f5⟩ := hf it (by simp)
    have hl := rv.length
    exact enumT_end (I.ok.hd hc) he hit p (by simp; omega) fun h' eb => ⟨rfl, I.turned (t' := s.toks) (fun b o hb q => eb b o hb q) f0 f1 f3 f4 f5⟩
  self := fun A i s Q E st h => let ⟨⟨_, he⟩, _⟩ := st; wpAny_pyIter_enum he h
def iEnumT (K : PySem.W.Frag) (ta : TA) : TI := fun σ H R => ta σ H fun vs H1 => ∃ a xs, vs = [.ref a] ∧ SqT K H1 a xs ∧ R (Itet K a) H1
theorem pi_enumT {X : Cx} {e : Expr} {ta : TA} {p pos tpos : Pos} {elts : List Expr} {kk : Nat} (hg : Gl X "enumerate") (hm : X.mg "enumerate" = none) (ha : PA X [e] ta) (hs : starEach [e] X.env = [(false, eval e X.env)] := by rfl) :
    PI X (.Tuple elts kk tpos) (.Call (.Name "enumerate" p) [e] [] pos) (iEnumT X.K ta) := by
  refine ⟨fun pins s σ H R I h => ?_⟩
  refine Call_ (ld_blt I hg hm boot_enumerate (PyProof.Rows.callWith_type1 (thn (ha.run pos pins s σ H _ I h) fun us s1 ⟨vs, H1, I1, r1, q1⟩ => ?_) hs rfl))
  obtain ⟨a, xs, rfl, hq, q⟩ := q1
  obtain ⟨u, rfl, ru⟩ := vals1 r1
  have eu : u = Value.ref a := ru
  subst eu
  obtain ⟨its, rv, pt, hz⟩ := I1.tuple hq
  have al : a < s1.heap.objs.size := by
    obtain ⟨o, ho, _⟩ := pt
    exact Heap.lt_size ho
  refine enum_tuple pt fun h' he hit hsz hk => wpAny_pyIter_enum he ?_
  have I2 : Inv X pins σ H1 { s1 with heap := h' } := I1.kept (t' := s1.toks) hk
  refine ⟨s1.heap.objs.size + 1, [s1.heap.objs.size + 1, s1.heap.objs.size], _, _, H1, rfl, I2, turn_enumT a (s1.heap.objs.size + 1) s1.heap.objs.size (Nat.ne_of_lt al) (Nat.ne_of_gt (Nat.lt_succ_of_lt al)), ⟨⟨.none, he⟩, hit, Nat.succ_ne_self _⟩, fun b hb => ?_, q⟩
  have hle : s1.heap.objs.size ≤ b := by
    have e' : b = s1.heap.objs.size + 1 ∨ b = s1.heap.objs.size := by simpa using hb
    rcases e' with z | z
    · rw [z]
      exact Nat.le_succ _
    · rw [z]
      exact Nat.le_refl _
  exact I1.fpOk hle (I1.hok.fresh hle)
end LG
set_option Elab.async false
set_option linter.all false
set_option maxRecDepth 100000
set_option maxHeartbeats 3200000
/-! len(set(xs)), xs a list of texts. -/
namespace LG
open PySem PySem.Spec PyProof.Rows L2
/-- unlike ones, as they are first met -/
def uniq1 (acc : List Str) (x : Str) : List Str := if acc.any (· == x) then acc else acc ++ [x]
def uniq (xs : List Str) : List Str := xs.foldl uniq1 []
theorem uniq_snoc (xs : List Str) (x : Str) : uniq (xs ++ [x]) = uniq1 (uniq xs) x := by
  unfold uniq
  rw [List.foldl_append]
  rfl
theorem uniq1_len (acc : List Str) (x : Str) : (uniq1 acc x).length = if acc.any (· == x) then acc.length else acc.length + 1 := by
  unfold uniq1
  split <;> simp
theorem uniq1_any (acc : List Str) (x k : Str) : (uniq1 acc x).any (· == k) = (acc.any (· == k) || decide (k = x)) := by
  unfold uniq1
  by_cases h : acc.any (· == x) = true
  · rw [if_pos h]
    by_cases e : k = x
    · subst e
      rw [h]
      simp
    · simp [e]
  · rw [if_neg h, List.any_append]
    by_cases e : k = x
    · subst e
      simp
    · have hb : (x == k) = false := by simpa [beq_iff_eq] using (fun q : x = k => e q.symm)
      simp [hb, e]
theorem uniq_take {xs : List Str} {i : Nat} (h : i < xs.length) : uniq (xs.take (i + 1)) = uniq1 (uniq (xs.take i)) (xs.getD i Str.empty) := by
  rw [List.take_add_one, List.getElem?_eq_getElem h, List.getD_eq_getElem?_getD, List.getElem?_eq_getElem h]
  exact uniq_snoc _ _
theorem uniq_le : ∀ (xs : List Str) (i : Nat), i ≤ xs.length → (uniq (xs.take i)).length ≤ i
  | xs, 0, _ => by simp [uniq]
  | xs, i + 1, h => by
    rw [uniq_take h, uniq1_len]
    have := uniq_le xs i (Nat.le_of_lt h)
    split <;> omega
/-- the set that is being filled -/
def Fills (P : Program) (w : World) (h : Heap) (S : Addr) (xs : List Str) (i : Nat) : Prop := h.SetOf (PySem.strKind P w) S (fun k => (uniq (xs.take i)).any (· == k)) (uniq (xs.take i)).length
section
variable {P : Program} {w : World} {A : Around} {R : Result → Shared → Prop} {I : Addr} {fp wr : List Addr} {G : Array GenState → Array GenState → Prop} {n : Nat} {Pv : Nat → Value → Prop} {St : Nat → Shared → Prop}
theorem fill_loop (W : WalksS P w A.in1 I fp wr G n Pv St) (S : Addr) (out : S ∉ fp) (xs : List Str) (len : xs.length = n) (room : n + 1 < scanBound) (val : ∀ i v, Pv i v → ∃ t, v = .str (xs.getD i Str.empty) t) :
    ∀ (k i : Nat) (s : Shared), n - i = k → i ≤ n → St i s → Fills P w s.heap S xs i → (∀ s', Moved (S :: wr) G s s' → Fills P w s'.heap S xs n → R (.ok (.ret .none)) s') →
      codeAny (model P w) A (.builtin "set.update.loop" ⟨[.ref S, .ref I], []⟩) R s := by
  have outW : S ∉ wr := fun h => out (W.sub _ h)
  have up : ∀ b ∈ wr, b ∈ S :: wr := fun b hb => List.mem_cons_of_mem _ hb
  have kept : ∀ {s s' : Shared} {i : Nat}, Moved wr G s s' → Fills P w s.heap S xs i → Fills P w s'.heap S xs i := by
    rintro s s' i m ⟨o, es, ep, t, ho, rest⟩
    exact ⟨o, es, ep, t, m.heap S _ outW ho, rest⟩
  intro k
  induction k with
  | zero =>
    intro i s hk hi hst hS hR
    have e : i = n := by omega
    subst e
    refine codeAny_builtin PyProof.Rows.F.entry_set_update_loop ?_
    rw [Around.under_plainId PyProof.Rows.F.plain_set_update_loop _]
    show wpAny _ A.in1 (pyNext (.ref I) >>= _) _ _ s
    refine wpAny_bind (W.done s _ _ hst fun s' m => ?_)
    show wpAny _ A.in1 (ret Value.none) _ _ s'
    exact wpAny_pure (hR s' (m.mono up) (kept m hS))
  | succ k ih =>
    intro i s hk hi hst hS hR
    have lt : i < n := by omega
    refine codeAny_builtin PyProof.Rows.F.entry_set_update_loop ?_
    rw [Around.under_plainId PyProof.Rows.F.plain_set_update_loop _]
    show wpAny _ A.in1 (pyNext (.ref I) >>= _) _ _ s
    refine wpAny_bind (W.item i s _ _ lt hst fun v s1 pv st1 m => ?_)
    obtain ⟨t, rfl⟩ := val i v pv
    have S1 := kept m hS
    show wpAny _ A.in1 (holding [Value.str (xs.getD i Str.empty) t] (setAdd S (.str (xs.getD i Str.empty) t)) >>= _) _ _ s1
    refine wpAny_bind (wpAny_holding ?_)
    unfold setAdd
    refine wpAny_holding (wpAny_bind ((PySem.strKind P w).pyHash (k := xs.getD i Str.empty) (strKind_is _ _ _ _) ?_))
    have few := uniq_le xs i (by omega)
    refine wpAny_setAddHashed_of (knd := PySem.strKind P w) (s := { s1 with toks := s1.toks + 1 }) (strKind_is _ _ _ _) rfl S1 (by omega) fun h' sb S2 => ?_
    have S3 : Fills P w h' S xs (i + 1) := by
      unfold Fills
      rw [uniq_take (by omega)]
      exact SetOf_congr S2 (fun k' => (uniq1_any _ _ _).symm) (uniq1_len _ _).symm
    refine wpAny_pure ⟨plainId_quiet PyProof.Rows.F.plain_set_update_loop _, ih (i + 1) _ (by omega) lt (W.frame _ s1 _ _ st1 (Nat.le_succ _) fun b hb o e => ?_) S3 fun s2 m2 S4 => ?_⟩
    · rw [sb.2 b (fun q : b = S => out (by rw [← q]; exact hb))]
      exact e
    · refine hR s2 (Moved.trans W.gtrans ((m.mono up).then_heap (Nat.le_succ _) fun b o hb e => ?_) m2) S4
      rw [sb.2 b (fun q : b = S => hb (by rw [q]; exact List.mem_cons_self))]
      exact e
end
/-- a new set -/
abbrev newSet (led : Bool) : Obj := { cls := .type "set", dict := none, data := .set #[] 0 (.fresh 0 0 led) }
section
variable {P : Program} {w : World} {A : Around} {E : Value → Shared → Prop} {s : Shared}
theorem set_of_strs {l : Addr} {items : Array Value} {xs : List Str} {Q : Value → Shared → Prop} (hh : A.handled = none) (hl : s.heap.IsList l items) (hi : StrsAre items.toList xs) (room : xs.length + 1 < scanBound)
    (h : ∀ (h' : Heap) (tk : Nat), Fills P w h' s.heap.objs.size xs xs.length → (∀ b o, b < s.heap.objs.size → s.heap.get? b = some o → h'.get? b = some o) → Q (.ref s.heap.objs.size) { s with heap := h', toks := tk }) :
    wpAny (model P w) A (call (.type "set") [.ref l]) Q E s := by
  obtain ⟨c, tl, hmro⟩ := PySem.F.called_set.mro
  have made := PySem.F.called_set.made
  have sub := PySem.F.called_set.sub
  refine wpAny_call (codeAny_of_tree ?_)
  show wpAny _ _ (callAny (.type "set") _) _ _ _
  refine wpAny_pure ⟨Code.quiet_builtin _ (by decide +kernel), codeAny_builtin PySem.F.entry_type_call ?_⟩
  rw [Around.under_plain (weight_type_call_type "set" [.ref l] []) rfl]
  have f1 := PySem.F.called_set.notType
  have f2 := PySem.F.called_set.canCreate
  have f3 := PySem.F.typeCall_set_1 (.ref l)
  repeat (any_goals (first | assumption | wp_step))
  refine codeAny_mono (code_set_new_1 (.ref l) (E := E) (Q₁ := fun obj z => ∃ led : Bool, obj = .ref s.heap.objs.size ∧ z = { s with heap := s.heap.push (newSet led) }) fun led => ⟨led, rfl, rfl⟩) fun r z hr => ?_
  match r, hr with
  | .error e, hr => exact hr
  | .ok .next, hr => exact hr.elim
  | .ok .brk, hr => exact hr.elim
  | .ok .cont, hr => exact hr.elim
  | .ok (.ret obj), hr =>
    obtain ⟨led, rfl, rfl⟩ := hr
    have new : (s.heap.push (newSet led)).get? s.heap.objs.size = some (newSet led) := Heap.get?_push_size _ rfl
    have hT : Shared.TypeIs { s with heap := s.heap.push (newSet led) } (.ref s.heap.objs.size) "set" := ⟨_, new, rfl⟩
    have g1 := PySem.F.called_set.init.lookup
    have g2 := PySem.F.called_set.init.bind (.ref s.heap.objs.size)
    repeat (any_goals (first | assumption | wp_step))
    refine codeAny_mono (codeAny_call_builtin (R := wants (fun r z => r = .none ∧ ∃ h' tk, z = { s with heap := h', toks := tk } ∧ Fills P w h' s.heap.objs.size xs xs.length ∧ (∀ b o, b < s.heap.objs.size → s.heap.get? b = some o → h'.get? b = some o)) E)
      PySem.F.called_set.init.plain PySem.F.entry_set_init (check_set_init_1 hT ?_)) fun r2 z2 hr2 => ?_
    · obtain ⟨⟨oc, od, dt, sl⟩, ol, cl, nl, dl⟩ := hl
      simp only at cl dl
      subst cl
      subst dl
      have ol1 : (s.heap.push (newSet led)).get? l = some { cls := .type "list", dict := od, data := .seq items nl, slots := sl } := Heap.get?_push_of_some _ ol
      have q1 := PySem.F.sub_list_set
      have q2 := PySem.F.sub_list_frozenset
      have q3 : (Value.type "list" == Value.type "dict") = false := by decide
      have hl1 : (s.heap.push (newSet led)).IsList l items := ⟨_, ol1, rfl, nl, rfl⟩
      unfold Builtin.«set.__init__» noKeywords Builtin.Frozenset.updateFrom
      generalize hPI : pyIter = PI
      wp_walk
      subst hPI
      refine wpAny_pyIter_list hl1 (wpAny_bind (wpAny_runValue ?_))
      have ltS : l < s.heap.objs.size := Heap.lt_size ol
      have zS : (s.heap.push (newSet led)).objs.size = s.heap.objs.size + 1 := Heap.size_push ..
      have h3 : A.in1.in1.in1.handled = none := by simp [hh]
      have n1 : l ≠ (s.heap.push (newSet led)).objs.size := by
        rw [zS]
        exact Nat.ne_of_lt (Nat.lt_succ_of_lt ltS)
      have n2 : s.heap.objs.size ∉ [(s.heap.push (newSet led)).objs.size, l] := by
        rw [zS]
        intro q
        rcases List.mem_cons.mp q with q | q
        · exact Nat.ne_of_lt (Nat.lt_succ_self _) q
        · exact Nat.ne_of_gt ltS (List.mem_singleton.mp q)
      have len : xs.length = items.size := by rw [← StrsAre.len_eq hi, Array.length_toList]
      have val : ∀ (i : Nat) (v : Value), items[i]? = some v → ∃ t, v = .str (xs.getD i Str.empty) t := fun i v hv => SS.strs_at hi i v (by rw [Array.getElem?_toList]; exact hv)
      refine fill_loop ((Walks.list h3 _ l n1 items).toS) s.heap.objs.size n2 xs len (by omega) val (items.size - 0) 0 _ (by omega) (Nat.zero_le _) ⟨⟨_, Heap.get?_push_size _ rfl, rfl, rfl⟩, (hl1.push _)⟩ ?start ?stop
      case start =>
        have at_ : ((s.heap.push (newSet led)).push { cls := .type "list_iterator", data := .fields #[.ref l, .int 0 0] }).get? s.heap.objs.size = some (newSet led) := Heap.get?_push_of_some _ new
        exact SetOf_congr ((PyProof.Rows.setObjOf_fresh (knd := PySem.strKind P w) led).setOf at_ (by unfold scanBound; omega)) (fun _ => rfl) rfl
      case stop =>
        intro s' m S'
        obtain ⟨h', g', d', tk', os'⟩ := s'
        have e1 : g' = s.gens := m.gens
        have e2 : d' = s.drawn := m.drawn
        have e3 : os' = s.os := m.os
        subst e1 e2 e3
        show wpAny _ _ _ _ _ _
        refine wpAny_pure ?_
        show wpAny _ _ (ret Value.none) _ _ _
        rw [← len] at S'
        refine wpAny_pure ⟨rfl, h', tk', rfl, S', fun b o hb e => ?_⟩
        refine m.heap b o (fun q => ?_) (Heap.get?_push_of_some _ (Heap.get?_push_of_some _ e))
        rcases List.mem_cons.mp q with q | q
        · exact Nat.ne_of_lt hb q
        · have := List.mem_singleton.mp q
          rw [this, zS] at hb
          omega
    · match r2, hr2 with
      | .error e, hr2 => exact hr2
      | .ok .next, hr2 => exact hr2.elim
      | .ok .brk, hr2 => exact hr2.elim
      | .ok .cont, hr2 => exact hr2.elim
      | .ok (.ret r), hr2 =>
        obtain ⟨rfl, h', tk, rfl, S', k'⟩ := hr2
        repeat (any_goals (first | assumption | wp_step))
        exact h _ _ S' k'
end
/-- len(set(xs)) -/
def tLenSetS (K : PySem.W.Frag) (ta : TE) : TE := fun σ H Q => ta σ H fun x H1 => ∃ (l : Addr) (xs : List Str), x = .ref l ∧ SqL K H1 l (xs.map V.str) ∧ xs.length ≤ 4000 ∧ Q (.int ((uniq xs).length : Nat)) H1
theorem pe_lenSetS {X : Cx} {a : Expr} {ta : TE} {p p2 q pos : Pos} (hg : Gl X "len") (hm : X.mg "len" = none) (hg2 : Gl X "set") (hm2 : X.mg "set" = none) (ha : PE X a ta) (hc : X.calm = true := by rfl)
    (na : starEach [a] X.env = (false, eval a X.env) :: starEach [] X.env := by rfl) : PE X (.Call (.Name "len" p) [.Call (.Name "set" p2) [a] [] q] [] pos) (tLenSetS X.K ta) := by
  refine ⟨fun pins s σ H Q I h => Call_ (ld_blt I hg hm boot_len (PyProof.Rows.callWith_builtin1 (PyProof.Rows.args_cons ?_ rfl) rfl rfl))⟩
  refine Call_ (ld_blt I hg2 hm2 boot_set (PyProof.Rows.callWith_type1 (PyProof.Rows.args_cons (thn (ha.run pins s σ H _ I h) fun v s1 ⟨x, H1, I1, r1, q1⟩ => PyProof.Rows.args_nil ?_) na) na rfl))
  obtain ⟨l, xs, rfl, hq, hl, q1⟩ := q1
  have ev : v = Value.ref l := r1
  subst ev
  obtain ⟨its, r, pl, hz⟩ := I1.list hq
  have few := uniq_le xs xs.length (Nat.le_refl _)
  have sb : scanBound = 4096 := rfl
  refine set_of_strs (I1.ok.hd hc) pl.isList (by simpa using strsAre_of r) (by omega) fun h' tk S' k' => PyProof.Rows.args_nil ?_
  unfold Fills at S'
  rw [List.take_length] at S' few
  obtain ⟨o, es, ep, t, ho, hex, hd, _, _, _, hf, hn⟩ := S'
  have I2 : Inv X pins σ H1 { s1 with heap := h', toks := tk } := I1.kept fun b o e => k' b o (Heap.lt_size e) e
  exact call_len_set ho hex hd hf (by rw [hn]; omega) ⟨.int ((uniq xs).length : Nat), H1, I2.tok _, ⟨_, by rw [hn]⟩, q1⟩
theorem uniq1_mem {acc : List Str} {x y : Str} : y ∈ uniq1 acc x ↔ y ∈ acc ∨ y = x := by
  have h := uniq1_any acc x y
  constructor
  · intro q
    have e : (uniq1 acc x).any (· == y) = true := List.any_eq_true.mpr ⟨y, q, beq_self_eq_true y⟩
    rw [h, Bool.or_eq_true] at e
    rcases e with e | e
    · obtain ⟨z, hz, ez⟩ := List.any_eq_true.mp e
      rw [beq_iff_eq] at ez
      exact .inl (ez ▸ hz)
    · exact .inr (of_decide_eq_true e)
  · intro q
    have e : (uniq1 acc x).any (· == y) = true := by
      rw [h, Bool.or_eq_true]
      rcases q with q | q
      · exact .inl (List.any_eq_true.mpr ⟨y, q, beq_self_eq_true y⟩)
      · exact .inr (decide_eq_true q)
    obtain ⟨z, hz, ez⟩ := List.any_eq_true.mp e
    rw [beq_iff_eq] at ez
    exact ez ▸ hz
theorem uniq_rev (ys : List Str) : ∀ xs : List Str, ys = xs.reverse → ((∀ y, y ∈ uniq xs ↔ y ∈ xs) ∧ (uniq xs).length ≤ xs.length ∧ ((uniq xs).length = xs.length ↔ xs.Nodup)) := by
  induction ys with
  | nil =>
    intro xs h
    have : xs = [] := by simpa using h.symm
    subst this
    simp [uniq]
  | cons y r ih =>
    intro xs h
    have e : xs = r.reverse ++ [y] := by
      have := congrArg List.reverse h
      simpa using this.symm
    obtain ⟨m, l, n⟩ := ih r.reverse (by simp)
    rw [e, uniq_snoc]
    generalize r.reverse = xs0 at m l n
    refine ⟨fun z => ?_, ?_, ?_⟩
    · rw [uniq1_mem, m z]
      simp
    · rw [uniq1_len, List.length_append, List.length_singleton]
      split <;> omega
    · rw [uniq1_len, List.length_append, List.length_singleton, List.nodup_append]
      by_cases c : (uniq xs0).any (· == y) = true
      · rw [if_pos c]
        obtain ⟨z, hz, ez⟩ := List.any_eq_true.mp c
        rw [beq_iff_eq] at ez
        subst ez
        have hz := (m z).mp hz
        constructor
        · intro q
          omega
        · rintro ⟨_, _, q⟩
          exact absurd rfl (q z hz z (by simp))
      · rw [if_neg c]
        have no : y ∉ xs0 := fun q => c (List.any_eq_true.mpr ⟨y, (m y).mpr q, beq_self_eq_true y⟩)
        constructor
        · intro q
          refine ⟨n.mp (by omega), by simp, fun a ha b hb => ?_⟩
          rw [List.mem_singleton.mp hb]
          exact fun z => no (z ▸ ha)
        · rintro ⟨q, _⟩
          have := n.mpr q
          omega
theorem uniq_len (xs : List Str) : (uniq xs).length ≤ xs.length ∧ ((uniq xs).length = xs.length ↔ xs.Nodup) := (uniq_rev xs.reverse xs (by simp)).2
end LG
set_option Elab.async false
set_option linter.all false
set_option maxRecDepth 100000
set_option maxHeartbeats 2000000
/-! len, in, ==, != by an own class's defs. -/
namespace LG
open PySem PySem.Spec PyProof.Rows L2
section
open PySem.W
variable {prog : Program} {w : World} {A : Around} {E : Value → Shared → Prop} {s : Shared} {K : Frag} {x C f : Addr} {ox : Obj} {od : Option Obj} {b tb : Value}
/-- x != b by the text's own ==, where no class behind says what != is -/
theorem ne_by_eq {Q : Value → Shared → Prop} (room : A.units + 1 < cLine) (X : K.In s.heap) (I : PySem.W.InstAt s.heap x ox C od) (tyb : Looks (model prog w) s.heap (typeOf b) tb) (nf : notFirst K C tb = true)
    (fne : findIn K (.ref C) "__ne__" = some (some (.builtin "object.__ne__"))) (isO : mroIn K C (.type "object") = some true) (feq : findIn K (.ref C) "__eq__" = some (some (.ref f))) (fn : isFn K (.ref f) = true)
    (h : wpAny (model prog w) A.in1 (call (.ref f) [.ref x, b]) (fun v z => ∃ r, v = .bool r ∧ Q (.bool (!r)) z) E s) : wpAny (model prog w) A (richCompare .NotEq (.ref x) b) Q E s := by
  have sub : Looks (model prog w) s.heap (isInstance (.ref x) (.type "object")) true := I.type.andThen (looks_mroIn X isO)
  have S := PySem.F.cmp_object.ne
  have body : ∀ {R : Fin → Shared → Prop}, (∀ r z, Q (.bool (!r)) z → R (.done (.ret (.bool (!r)))) z) → wpAny (model prog w) A.in1 (Builtin.«object.__ne__» ⟨[.ref x, b], []⟩) R E s := by
    intro R k
    unfold Builtin.«object.__ne__»
    have room1 : A.in1.units < cLine := room
    repeat (first
      | with_reducible refine wpAny_cRoomFor room1 ?_
      | (refine wpAny_bind (m := callSpecialIfBound? (.ref x) (Str.ofString "__eq__") [b]) (ifBound_K X I feq fn (wpAny_mono h (fun v z hv => ?_) fun _ _ e => e)))
      | wp_step)
    obtain ⟨r, rfl, q⟩ := hv
    repeat (first | exact k r _ q | exact wpAny_pure (k r _ q) | exact wpAny_truthy_bool (k r _ q) | (refine wpAny_bind (m := truthy (.bool _)) (wpAny_truthy_bool ?_)) | wp_step)
  have one : wpAny (model prog w) A (tryCompare (.ref x) "__ne__" b) (fun r z => ∃ v, r = some v ∧ Q v z) E s := by
    simp only [tryCompare]
    refine wpAny_bind ?_
    simp only [callSpecialIfBound?, bindSpecialIfBound?]
    refine wpAny_holding (wpAny_bind (wpAny_bind (wpAny_bind (I.type.here ((looks_findIn X fne).here ?_)))))
    simp only [S.bind]
    have run : wpAny (model prog w) A (call (.builtin "object.__ne__") ([.ref x] ++ [b]) >>= fun v => pure (some v)) (fun r z => wpAny (model prog w) A (match r with | some .notImplemented | none => pure none | some v => pure (some v)) (fun r z => ∃ v, r = some v ∧ Q v z) E z) E s := by
      refine wpAny_bind (wpAny_call (codeAny_call_builtin S.plain PySem.F.cmpEntry_ne (check_slot PySem.F.cmpKind_ne PySem.F.cmpSplit_ne sub (PySem.F.cmpArgs_ne _ _) (body fun r z q => ?_))))
      exact wpAny_pure (wpAny_pure ⟨_, rfl, q⟩)
    refine wpAny_bind (wpAny_askSetting (wpAny_ite ?_))
    split
    · exact wpAny_bind (wpAny_pure (wpAny_pure run))
    · exact wpAny_tryCatch (wpAny_bind (wpAny_pure (wpAny_pure run)))
  unfold richCompare
  simp only [oneThing_ref]
  refine wpAny_holding (wpAny_bind (wpAny_cRoomFor (Nat.lt_of_succ_lt room) ?_))
  rw [cmpInfo_NotEq]
  dsimp only
  refine wpAny_bind (I.type.here (wpAny_bind (tyb.here ?_)))
  have fin : wpAny (model prog w) A (tryCompare (.ref x) "__ne__" b) (fun r z => ∃ v, r = some v ∧ Q v z) E s := one
  by_cases q : (Value.ref C != tb) = true
  · rw [if_pos q]
    have e : subIn K tb (.ref C) = some false := by
      rcases Bool.or_eq_true_iff.mp nf with e | e
      · rw [beq_iff_eq.mp e] at q
        simp at q
      · exact beq_iff_eq.mp e
    refine wpAny_bind ((looks_subIn X e).here ?_)
    simp only [Bool.false_eq_true, if_false]
    refine wpAny_bind (wpAny_mono fin (fun r z hz => ?_) fun _ _ e => e)
    obtain ⟨v, rfl, hq⟩ := hz
    exact wpAny_pure hq
  · rw [if_neg q]
    refine wpAny_bind (wpAny_pure ?_)
    simp only [Bool.false_eq_true, if_false]
    refine wpAny_bind (wpAny_mono fin (fun r z hz => ?_) fun _ _ e => e)
    obtain ⟨v, rfl, hq⟩ := hz
    exact wpAny_pure hq
end
end LG
set_option Elab.async false
set_option linter.all false
set_option maxRecDepth 100000
set_option maxHeartbeats 2000000
namespace LG
open PySem PySem.Spec PyProof.Rows L2
section
variable {X : Cx} {pins : List (Addr × Obj)} {σ : L2.St} {H : Hp} {s : Shared} {k : Nat} {f C : Addr} {fd : FuncData} {ps : List Str} {sp : Sp}
/-- a def is run somewhere below the running body -/
theorem fn_at {A : Around} {Q : VK} {us : List Value} {vs : List V} (F : FnOk X.prog X.w X.K X.mg X.base CX0 k f fd ps sp) (hr : Room k A) (e0 : Env0 X.prog X.w X.K X.mg X.base A X.stack s H) (hb : Binds X.K fd ps []) (I : Inv X pins σ H s) (r : Vals vs us) (h : sp vs H Q E0) :
    wpAny (model X.prog X.w) A (call (.ref f) us) (EP X pins σ Q) X.xe s := by
  have hl : (us ++ []).length = ps.length := by
    rw [List.append_nil, ← r.length]
    exact F.len _ _ _ _ h
  have hb' := hb s us I.kIn hl
  rw [List.append_nil] at hb'
  refine wpAny_call (codeAny_mono (F.run A X.stack s H ⟨us, []⟩ us vs Q E0 hr e0 hb' r h) fun res z' q => ?_)
  match res, q with
  | .ok (.ret u), q => exact I.after q
  | .ok .next, q => exact q.elim
  | .ok .brk, q => exact q.elim
  | .ok .cont, q => exact q.elim
  | .error _, q => exact q.elim
theorem ins_look {a dx : Addr} {fs : List (Str × V)} (I : Inv X pins σ H s) (h : H a = some (.ins C dx fs)) : ∃ (ox : Obj) (od : Option Obj), PySem.W.InstAt s.heap a ox C od := by
  obtain ⟨mA, J, _⟩ := ins_get I.hok h
  obtain ⟨od, J, _⟩ := J.look
  exact ⟨_, _, J⟩
/-- len(x), x an instance of the class at C -/
def rOwnLen (C : Addr) (sp : Sp) : List V → Hp → VK → Prop := fun xs H Q => ∃ a dx fs, xs = [.ref a] ∧ H a = some (.ins C dx fs) ∧ sp [.ref a] H (fun v H' => ∃ n : Nat, v = .int n ∧ (n : Int) < 2 ^ 63 ∧ Q (.int n) H') E0
theorem call_ownLen (hs : PySem.W.findIn X.K (.ref C) "__len__" = some (some (.ref f))) (hf : PySem.W.isFn X.K (.ref f) = true) (F : FnOk X.prog X.w X.K X.mg X.base CX0 k f fd ps sp) (hb : Binds X.K fd ps []) (hr : Room (k + 1) X.A) : CallR X (.builtin "len") (rOwnLen C sp) := by
  intro pins s σ H xs us Q I r h
  obtain ⟨a, dx, fs, rfl, ha, q⟩ := h
  obtain ⟨u, rfl, ru⟩ := vals1 r
  have eu : u = Value.ref a := ru
  subst eu
  obtain ⟨ox, od, J⟩ := ins_look I ha
  obtain ⟨m, hF⟩ := I.fr
  refine PySem.W.len_K hF I.ok.mod.kin J hs hf (wpAny_mono (fn_at (vs := [.ref a]) F (Room.in1 hr) I.env0.in1 hb I (.cons rfl .nil) q) (fun w z hz => ?_) fun _ _ e => e)
  obtain ⟨v, H', I', rv, n, rfl, hn, q'⟩ := hz
  obtain ⟨t, rfl⟩ := rv
  exact ⟨⟨by omega, hn⟩, .int n, H', I'.tok _, ⟨_, rfl⟩, q'⟩
/-- y in x, x an instance of the class at C -/
def rOwnIn (C : Addr) (sp : Sp) (neg : Bool) : R2 := fun y x H Q => ∃ a dx fs, x = .ref a ∧ H a = some (.ins C dx fs) ∧ sp [.ref a, y] H (fun v H' => ∃ b, v = .bl b ∧ Q (.bl (if neg then !b else b)) H') E0
theorem op_ownIn (hs : PySem.W.findIn X.K (.ref C) "__contains__" = some (some (.ref f))) (hf : PySem.W.isFn X.K (.ref f) = true) (F : FnOk X.prog X.w X.K X.mg X.base CX0 k f fd ps sp) (hb : Binds X.K fd ps []) (hr : Room k X.A) : OpR X (compareOp .In) (rOwnIn C sp false) := by
  intro pins s σ H y x v u Q I ry rx h
  obtain ⟨a, dx, fs, rfl, ha, q⟩ := h
  have eu : u = Value.ref a := rx
  subst eu
  obtain ⟨ox, od, J⟩ := ins_look I ha
  obtain ⟨m, hF⟩ := I.fr
  refine PySem.W.in_K hF I.ok.mod.kin J hs hf (wpAny_mono (fn_at (vs := [.ref a, y]) F hr I.env0 hb I (.cons rfl (.cons ry .nil)) q) (fun w z hz => ?_) fun _ _ e => e)
  obtain ⟨v', H', I', rv, b, rfl, q'⟩ := hz
  have ew : w = Value.bool b := rv
  subst ew
  exact wpAny_truthy_bool ⟨.bl b, H', I', rfl, q'⟩
theorem op_ownNotIn (hs : PySem.W.findIn X.K (.ref C) "__contains__" = some (some (.ref f))) (hf : PySem.W.isFn X.K (.ref f) = true) (F : FnOk X.prog X.w X.K X.mg X.base CX0 k f fd ps sp) (hb : Binds X.K fd ps []) (hr : Room k X.A) : OpR X (compareOp .NotIn) (rOwnIn C sp true) := by
  intro pins s σ H y x v u Q I ry rx h
  obtain ⟨a, dx, fs, rfl, ha, q⟩ := h
  have eu : u = Value.ref a := rx
  subst eu
  obtain ⟨ox, od, J⟩ := ins_look I ha
  obtain ⟨m, hF⟩ := I.fr
  refine PySem.W.notIn_K hF I.ok.mod.kin J hs hf (wpAny_mono (fn_at (vs := [.ref a, y]) F hr I.env0 hb I (.cons rfl (.cons ry .nil)) q) (fun w z hz => ?_) fun _ _ e => e)
  obtain ⟨v', H', I', rv, b, rfl, q'⟩ := hz
  have ew : w = Value.bool b := rv
  subst ew
  exact wpAny_truthy_bool ⟨.bl (!b), H', I', rfl, q'⟩
/-- x == y, x != y, x an instance of the class at C, y of a type that is known -/
def rOwnEq (K : PySem.W.Frag) (C : Addr) (sp : Sp) (neg : Bool) : R2 := fun x y H Q => ∃ a dx fs t, x = .ref a ∧ H a = some (.ins C dx fs) ∧ TyX K H y t ∧ PySem.W.notFirst K C t = true ∧ sp [.ref a, y] H (fun v H' => ∃ b, v = .bl b ∧ Q (.bl (if neg then !b else b)) H') E0
theorem ty_looks {x : V} {u t : Value} (I : Inv X pins σ H s) (rx : RelV x u) (ty : TyX X.K H x t) : PySem.W.Looks (model X.prog X.w) s.heap (typeOf u) t := by
  obtain ⟨P, Z, p, _⟩ := kit_of I rx ty
  exact Z.ty _ _ I.kIn p
theorem op_ownEq (hs : PySem.W.findIn X.K (.ref C) "__eq__" = some (some (.ref f))) (hf : PySem.W.isFn X.K (.ref f) = true) (F : FnOk X.prog X.w X.K X.mg X.base CX0 k f fd ps sp) (hb : Binds X.K fd ps []) (hr : Room k X.A) : OpR X (compareOp .Eq) (rOwnEq X.K C sp false) := by
  intro pins s σ H x y v u Q I rx ry h
  obtain ⟨a, dx, fs, t, rfl, ha, ty, nf, q⟩ := h
  have ev : v = Value.ref a := rx
  subst ev
  obtain ⟨ox, od, J⟩ := ins_look I ha
  obtain ⟨m, hF⟩ := I.fr
  show wpAny _ _ (richCompare .Eq (.ref a) u) _ _ _
  refine PySem.W.cmp_K (op := .Eq) hr.units0 hF I.ok.mod.kin J (ty_looks I ry ty) nf hs hf (wpAny_mono (fn_at (vs := [.ref a, y]) F hr I.env0 hb I (.cons rfl (.cons ry .nil)) q) (fun w z hz => ?_) fun _ _ e => e)
  obtain ⟨v', H', I', rv, b, rfl, q'⟩ := hz
  have ew : w = Value.bool b := rv
  subst ew
  exact ⟨.bl b, H', I', rfl, q'⟩
theorem op_ownNe (hs : PySem.W.findIn X.K (.ref C) "__eq__" = some (some (.ref f))) (hf : PySem.W.isFn X.K (.ref f) = true) (hn : PySem.W.findIn X.K (.ref C) "__ne__" = some (some (.builtin "object.__ne__"))) (ho : PySem.W.mroIn X.K C (.type "object") = some true)
    (F : FnOk X.prog X.w X.K X.mg X.base CX0 k f fd ps sp) (hb : Binds X.K fd ps []) (hr : Room (k + 1) X.A) : OpR X (compareOp .NotEq) (rOwnEq X.K C sp true) := by
  intro pins s σ H x y v u Q I rx ry h
  obtain ⟨a, dx, fs, t, rfl, ha, ty, nf, q⟩ := h
  have ev : v = Value.ref a := rx
  subst ev
  obtain ⟨ox, od, J⟩ := ins_look I ha
  show wpAny _ _ (richCompare .NotEq (.ref a) u) _ _ _
  have r1 : Room k X.A.in1 := Room.in1 hr
  refine ne_by_eq r1.units0 I.kIn J (ty_looks I ry ty) nf hn ho hs hf (wpAny_mono (fn_at (vs := [.ref a, y]) F r1 I.env0.in1 hb I (.cons rfl (.cons ry .nil)) q) (fun w z hz => ?_) fun _ _ e => e)
  obtain ⟨v', H', I', rv, b, rfl, q'⟩ := hz
  have ew : w = Value.bool b := rv
  subst ew
  exact ⟨b, rfl, .bl (!b), H', I', rfl, q'⟩
end
end LG
set_option Elab.async false
set_option linter.all false
set_option maxRecDepth 100000
set_option maxHeartbeats 2000000
namespace LG
open PySem PySem.Spec PyProof.Rows L2
section
variable {X : Cx} {o : Expr} {f : Str} {pos : Pos} {to : TE}
/-- o.f as one of several targets -/
def gFld (K : PySem.W.Frag) (to : TE) (f : Str) : TG := fun v σ H Q => to σ H fun x H2 => ∃ a C dx fs, x = .ref a ∧ H2 a = some (.ins C dx fs) ∧ Cls K C ∧ NoAttr K C f ∧ fs.length < 1000 ∧ Q σ (upd H2 a (.ins C dx (putF f v fs)))
theorem assign_at {M : Model} {A : Around} {E : Value → Shared → Prop} {s : Shared} {env : Env} {u : Value} {Q : Unit → Shared → Prop} (h : wpAny M A (eval o env) (fun ov z => wpAny M A (setAttr ov f u) Q E z) E s) : wpAny M A (assign (.Attribute o f pos) env u) Q E s := fun Γ p hΓ => by
  simp only [PySem.assign_Attribute, Sem.wp_bind', Sem.wp_holding, Sem.wp_cmd_standAt, Sem.wp_release, Sem.wp_pure']
  exact Sem.wp_mono M Γ _ (fun ov _ z hz => hz Γ _ hΓ) (fun _ _ _ e => e) _ _ (h Γ _ hΓ)
theorem pg_fld (ho : PE X o to) : PG X (.Attribute o f pos) (gFld X.K to f) := by
  refine ⟨fun pins s σ H v u Q I r hw => assign_at (thn (ho.run pins s σ H _ I hw) fun ov s1 ⟨x, H2, I2, rx, a, C, dx, fs, ex, ea, c, n, l, q⟩ => ?_)⟩
  subst ex
  have eo : ov = Value.ref a := rx
  subst eo
  exact setattr_ok I2 ea c n l r fun s3 I3 => ⟨σ, _, I3, q⟩
end
theorem for_enumT {K : PySem.W.Frag} {a : Addr} {xs : List V} {g : TG} {tb : TS} {D : Ends} {σ : L2.St} {H : Hp} (Pv : Nat → L2.St → Hp → Prop) (h0 : Pv 0 σ H) (hq : ∀ i σ H, Pv i σ H → SqT K H a xs)
    (hs : ∀ (i : Nat) (x : V) (T : Addr) (σ : L2.St) (H : Hp), xs[i]? = some x → Pv i σ H → H T = none → g (.ref T) σ (upd H T (.tup [.int (i : Nat), x])) fun σ2 H2 => tb { D with nx := Pv (i + 1), ct := Pv (i + 1), bk := D.nx } σ2 H2) (hd : ∀ σ H, Pv xs.length σ H → D.nx σ H) :
    ∃ W : Nat → Nat → L2.St → Hp → Prop, (∃ m, W 0 m σ H) ∧ ∀ i m σ H, W i m σ H →
      ((Itet K a).stop i H ∧ D.nx σ H) ∨ ((Itet K a).go i H ∧ ∃ N : L2.St → Hp → Prop, (∀ σ' H', N σ' H' → ∃ m', m' < m ∧ W (i + 1) m' σ' H') ∧ ∀ v H', (Itet K a).yld i H v H' → g v σ H' fun σ2 H2 => tb { D with nx := N, ct := N, bk := D.nx } σ2 H2) := by
  refine ⟨fun i m σ H => m = xs.length - i ∧ i ≤ xs.length ∧ Pv i σ H, ⟨_, rfl, Nat.zero_le _, h0⟩, ?_⟩
  rintro i m σ H ⟨rfl, hi, pv⟩
  have seq := hq i σ H pv
  by_cases more : i < xs.length
  · have there : xs[i]? = some xs[i] := List.getElem?_eq_getElem more
    refine .inr ⟨⟨xs, _, seq, there⟩, Pv (i + 1), fun σ' H' p' => ⟨xs.length - (i + 1), by omega, rfl, more, p'⟩, fun v H' y => ?_⟩
    obtain ⟨T, x', rfl, free, rfl, same⟩ := y
    have e := same xs seq
    rw [there] at e
    cases e
    exact hs i _ T σ H there pv free
  · have e : i = xs.length := by omega
    subst e
    exact .inl ⟨⟨xs, seq, Nat.le_refl _⟩, hd σ H pv⟩
end LG
set_option Elab.async false
set_option linter.all false
set_option maxRecDepth 100000
set_option maxHeartbeats 2000000
/-! What the laws' own small defs have in common: the pot, drawn values that are data. -/
namespace LG
open PySem L2

/-- the built-in names that the defs use -/
structure Bltn (mg : Str → Option Value) : Prop where
  len : mg "len" = none
  sum : mg "sum" = none
  int : mg "int" = none
  abs : mg "abs" = none
  list : mg "list" = none
  range : mg "range" = none
  max : mg "max" = none
  min : mg "min" = none
  isinstance : mg "isinstance" = none
  tuple : mg "tuple" = none
  bool : mg "bool" = none
  str : mg "str" = none
  enumerate : mg "enumerate" = none
  repr : mg "repr" = none
  all : mg "all" = none
  ve : mg "ValueError" = none
  set : mg "set" = none
/-- a pot: own number, seed, how often it was asked (at most b times) -/
def PotAt (H : Hp) (p : Addr) (b : Nat) : Prop := ∃ own sm n : Int, H p = some (.lst [.int own, .int sm, .int n]) ∧ 0 ≤ own ∧ 0 ≤ sm ∧ sm < 2305843009213693951 ∧ 0 ≤ n ∧ n ≤ b
theorem PotAt.same {H H' : Hp} {p : Addr} {b : Nat} (e : Same H H') (h : PotAt H p b) : PotAt H' p b := by
  obtain ⟨own, sm, n, h1, h2⟩ := h
  exact ⟨own, sm, n, e _ _ h1, h2⟩
theorem PotAt.mono {H : Hp} {p : Addr} {b c : Nat} (h : PotAt H p b) (l : b ≤ c) : PotAt H p c := by
  obtain ⟨own, sm, n, h1, h2, h3, h4, h5, h6⟩ := h
  exact ⟨own, sm, n, h1, h2, h3, h4, h5, by omega⟩
/-- all but what stands at p is as it was -/
def But (p : Addr) (H H' : Hp) : Prop := ∀ c o, H c = some o → c ≠ p → H' c = some o
theorem But.trans {p : Addr} {H H1 H2 : Hp} (a : But p H H1) (b : But p H1 H2) : But p H H2 := fun c o h n => b c o (a c o h n) n
theorem But.of {p : Addr} {H H' : Hp} (a : Same H H') : But p H H' := fun c o h _ => a c o h
theorem same_new {H : Hp} {p : Addr} (h : H p = none) (o : HO) : Same H (upd H p o) := fun b u q => by rw [upd_ne (ne_of_none q h)]; exact q
theorem bits60 : (Builtin.Int.intBits ((10 : Int) ^ (60 : Int).toNat) : Int) * 5 ≤ 2 ^ 27 := by decide +kernel
def spPot (K : PySem.W.Frag) : Sp := fun vs H Q _ => ∃ (a : Addr) (ns : List Int) (j : Int), vs = [.ref a, .int j] ∧ SqL K H a (ns.map V.int) ∧ ns.length ≤ 63 ∧ 0 ≤ j ∧ j ≤ 1000 ∧
  ∀ (p : Addr) (H' : Hp), Same H H' → H p = none → PotAt H' p 0 → Q (.ref p) H'
theorem item_there {ns : List Int} {j : Int} (h0 : 0 ≤ j) (h : j < (ns.length : Int)) : ∃ v : Int, atI (ns.map V.int) j = some (.int v) := by
  have hk : j.toNat < ns.length := by omega
  have q : atI (ns.map V.int) ((j.toNat : Nat) : Int) = some (.int ns[j.toNat]) := atI_nat (by rw [List.getElem?_map, List.getElem?_eq_getElem hk] <;> rfl)
  have e : ((j.toNat : Nat) : Int) = j := by omega
  rw [e] at q
  exact ⟨_, q⟩
theorem cut_ints (ns : List Int) (lo hi : Option Int) : ∃ ms : List Int, cutV (ns.map V.int) lo hi = ms.map V.int := by
  unfold cutV
  rw [← List.map_drop, ← List.map_take]
  exact ⟨_, rfl⟩
abbrev rInt1 : List V → Hp → VK → Prop := fun xs H Q => (∃ i, xs = [.int i] ∧ Q (.int i) H) ∨ ∃ k, xs = [.bl k] ∧ Q (.int (if k then 1 else 0)) H
abbrev rAbs : List V → Hp → VK → Prop := fun xs H Q => ∃ i, xs = [.int i] ∧ Q (.int (if i < 0 then -i else i)) H
theorem prime_at {r : Int} (h0 : 0 ≤ r) (h : r < 5) : ∃ v : Int, atI ([.int 2147483647, .int 2147483629, .int 2147483587, .int 2147483579, .int 2147483563] : List V) r = some (.int v) ∧ 1 ≤ v ∧ v ≤ 2147483647 := by
  have e : r = 0 ∨ r = 1 ∨ r = 2 ∨ r = 3 ∨ r = 4 := by omega
  rcases e with rfl | rfl | rfl | rfl | rfl
  · exact ⟨_, rfl, by decide, by decide⟩
  · exact ⟨_, rfl, by decide, by decide⟩
  · exact ⟨_, rfl, by decide, by decide⟩
  · exact ⟨_, rfl, by decide, by decide⟩
  · exact ⟨_, rfl, by decide, by decide⟩
/-! ### one of a list -/
def spOf (K : PySem.W.Frag) : Sp := fun vs H Q _ => ∃ (p l : Addr) (xs : List V) (b : Nat), vs = [.ref p, .ref l] ∧ PotAt H p b ∧ b ≤ 100000 ∧ SqL K H l xs ∧ 0 < xs.length ∧ xs.length ≤ 1000 ∧ l ≠ p ∧
  ∀ (x : V) (H' : Hp), x ∈ xs → But p H H' → PotAt H' p (b + 1) → Q x H'
theorem But.seq {H H' : Hp} {p a : Addr} {xs : List V} (e : But p H H') (ne : a ≠ p) (h : SqL K H a xs) : SqL K H' a xs := by
  rcases h with (h | ⟨o, h⟩) | h
  · exact .inl (.inl (e _ _ h ne))
  · exact .inl (.inr ⟨o, e _ _ h ne⟩)
  · exact .inr h
/-! ### written values that are small data -/
theorem pe_imp {X : Cx} {e : Expr} {t t' : TE} (h : PE X e t) (w : ∀ σ H Q, t' σ H Q → t σ H Q) : PE X e t' := ⟨fun pins s σ H Q I q => h.run pins s σ H Q I (w σ H Q q)⟩
theorem pa_imp {X : Cx} {es : List Expr} {t t' : TA} (h : PA X es t) (w : ∀ σ H Q, t' σ H Q → t σ H Q) : PA X es t' := ⟨fun pos pins s σ H Q I q => h.run pos pins s σ H Q I (w σ H Q q)⟩
def Gd (K : PySem.W.Frag) (n : Nat) (H : Hp) (x : V) : Prop := ∃ d, Dp K H x d ∧ small n d = true
def Gds (K : PySem.W.Frag) (n : Nat) (H : Hp) (xs : List V) : Prop := ∃ ds, DpAll K H xs ds ∧ smalls n ds = true
def Gx (K : PySem.W.Frag) (n : Nat) (H : Hp) (x : V) : Prop := ∃ d, Dx K H x d ∧ small n d = true
theorem Gd.same {K : PySem.W.Frag} {n : Nat} {H H' : Hp} {x : V} (e : Same H H') (h : Gd K n H x) : Gd K n H' x := by
  obtain ⟨d, h1, h2⟩ := h
  exact ⟨d, Dp_same e _ _ h1, h2⟩
theorem Gds.same {K : PySem.W.Frag} {n : Nat} {H H' : Hp} {xs : List V} (e : Same H H') (h : Gds K n H xs) : Gds K n H' xs := by
  obtain ⟨d, h1, h2⟩ := h
  exact ⟨d, DpAll_same e _ _ h1, h2⟩
theorem Gx.same {K : PySem.W.Frag} {n : Nat} {H H' : Hp} {x : V} (e : Same H H') (h : Gx K n H x) : Gx K n H' x := by
  obtain ⟨d, h1, h2⟩ := h
  exact ⟨d, Dx_same e h1, h2⟩
mutual
theorem small_up : ∀ (n : Nat) (d : PyData), small n d = true → small (n + 1) d = true
  | n, .none, _ => by simp only [small]
  | n, .bool _, _ => by simp only [small]
  | n, .int i, h => by
    simp only [small] at h ⊢
    exact h
  | n, .str x, h => by
    simp only [small] at h ⊢
    exact h
  | 0, .list xs, h => by
    simp only [small] at h
    cases h
  | 0, .tuple xs, h => by
    simp only [small] at h
    cases h
  | n + 1, .list xs, h => by
    simp only [small, Bool.and_eq_true] at h ⊢
    exact ⟨h.1, smalls_up n xs h.2⟩
  | n + 1, .tuple xs, h => by
    simp only [small, Bool.and_eq_true] at h ⊢
    exact ⟨h.1, smalls_up n xs h.2⟩
  | n, .dict kvs, h => by
    have h : smallKv kvs = true ∧ kvs.length ≤ 2 := by
      cases n <;> (simp only [small, Bool.and_eq_true, decide_eq_true_eq] at h; exact h)
    simp only [small, Bool.and_eq_true, decide_eq_true_eq]
    exact h
theorem smalls_up : ∀ (n : Nat) (ds : List PyData), smalls n ds = true → smalls (n + 1) ds = true
  | n, [], _ => by simp only [smalls]
  | n, d :: ds, h => by
    simp only [smalls, Bool.and_eq_true] at h ⊢
    exact ⟨small_up n d h.1, smalls_up n ds h.2⟩
end
theorem small_le {n m : Nat} (h : n ≤ m) {d : PyData} (q : small n d = true) : small m d = true := by
  induction h with
  | refl => exact q
  | step _ ih => exact small_up _ _ ih
theorem smalls_le {n m : Nat} (h : n ≤ m) {d : List PyData} (q : smalls n d = true) : smalls m d = true := by
  induction h with
  | refl => exact q
  | step _ ih => exact smalls_up _ _ ih
theorem Gd.le {K : PySem.W.Frag} {n m : Nat} {H : Hp} {x : V} (l : n ≤ m) (h : Gd K n H x) : Gd K m H x := by
  obtain ⟨d, h1, h2⟩ := h
  exact ⟨d, h1, small_le l h2⟩
theorem Gx.le {K : PySem.W.Frag} {n m : Nat} {H : Hp} {x : V} (l : n ≤ m) (h : Gx K n H x) : Gx K m H x := by
  obtain ⟨d, h1, h2⟩ := h
  exact ⟨d, h1, small_le l h2⟩
theorem Gd.x {K : PySem.W.Frag} {n : Nat} {H : Hp} {x : V} (h : Gd K n H x) : Gx K n H x := by
  obtain ⟨d, h1, h2⟩ := h
  exact ⟨d, .flat h1, h2⟩
theorem DpAll_length {K : PySem.W.Frag} {H : Hp} : ∀ (ds : List PyData) (xs : List V), DpAll K H xs ds → ds.length = xs.length
  | [], _, h => by cases h; rfl
  | d :: ds, _, h => by
    cases h with
    | cons _ h2 => simp only [List.length_cons, DpAll_length ds _ h2]
theorem Gd.tup {K : PySem.W.Frag} {n : Nat} {H : Hp} {a : Addr} {xs : List V} (h : Gds K n H xs) (l : xs.length ≤ 25) (t : SqT K H a xs) : Gd K (n + 1) H (.ref a) := by
  obtain ⟨ds, h1, h2⟩ := h
  refine ⟨.tuple ds, .tup t h1, ?_⟩
  simp only [small, Bool.and_eq_true, decide_eq_true_eq]
  exact ⟨by rw [DpAll_length ds xs h1]; exact l, h2⟩
theorem Gd.lst {K : PySem.W.Frag} {n : Nat} {H : Hp} {a : Addr} {xs : List V} (h : Gds K n H xs) (l : xs.length ≤ 25) (t : SqL K H a xs) : Gd K (n + 1) H (.ref a) := by
  obtain ⟨ds, h1, h2⟩ := h
  refine ⟨.list ds, .lst t h1, ?_⟩
  simp only [small, Bool.and_eq_true, decide_eq_true_eq]
  exact ⟨by rw [DpAll_length ds xs h1]; exact l, h2⟩
theorem Gds.nil {K : PySem.W.Frag} {n : Nat} {H : Hp} : Gds K n H [] := ⟨[], .nil, by simp only [smalls]⟩
theorem Gds.cons {K : PySem.W.Frag} {n : Nat} {H : Hp} {x : V} {xs : List V} (h : Gd K n H x) (r : Gds K n H xs) : Gds K n H (x :: xs) := by
  obtain ⟨d, h1, h2⟩ := h
  obtain ⟨ds, h3, h4⟩ := r
  exact ⟨d :: ds, .cons h1 h3, by simp only [smalls, h2, h4, Bool.and_self]⟩
/-- what was made since H0 -/
def mn (H0 H : Hp) : Hp := fun b => match H0 b with
  | none => H b
  | some _ => none
theorem mn_some {H0 H : Hp} {b : Addr} {o : HO} (h : mn H0 H b = some o) : H0 b = none ∧ H b = some o := by
  unfold mn at h
  cases e : H0 b with
  | none =>
    rw [e] at h
    exact ⟨rfl, h⟩
  | some u =>
    rw [e] at h
    cases h
theorem mn_of {H0 H : Hp} {b : Addr} {o : HO} (h0 : H0 b = none) (h : H b = some o) : mn H0 H b = some o := by
  unfold mn
  rw [h0]
  exact h
theorem mn_up {H H1 H2 : Hp} (s : Same H1 H2) : Same (mn H H1) (mn H H2) := fun b o h => by
  obtain ⟨h0, h1⟩ := mn_some h
  exact mn_of h0 (s _ _ h1)
theorem mn_but {H H1 H2 : Hp} {p : Addr} (s : But p H1 H2) (hp : H p ≠ none) : Same (mn H H1) (mn H H2) := fun b o h => by
  obtain ⟨h0, h1⟩ := mn_some h
  exact mn_of h0 (s _ _ h1 fun z => hp (by rw [← z]; exact h0))
theorem mn_down {H H1 H2 : Hp} (s : Same H H1) : Same (mn H1 H2) (mn H H2) := fun b o h => by
  obtain ⟨h0, h1⟩ := mn_some h
  exact mn_of (s.free h0) h1
theorem mn_self (H0 H : Hp) : Same (mn H0 H) H := fun b o h => (mn_some h).2
def tGd (K : PySem.W.Frag) (n : Nat) : TE := fun _ H Q => ∀ x H', Same H H' → Gd K n (mn H H') x → Q x H'
def tGds (K : PySem.W.Frag) (n m : Nat) : TA := fun _ H Q => ∀ xs H', Same H H' → xs.length = m → Gds K n (mn H H') xs → Q xs H'
def tGx (K : PySem.W.Frag) (n : Nat) : TE := fun _ H Q => ∀ x H', Same H H' → Gx K n (mn H H') x → Q x H'
def tGxs (K : PySem.W.Frag) (n m : Nat) : TA := fun _ H Q => ∀ xs H', Same H H' → xs.length = m → (∀ x ∈ xs, Gx K n (mn H H') x) → Q xs H'
section
variable {X : Cx} {e : Expr} {es : List Expr} {n m : Nat} {pos : Pos}
theorem gd_none {j} : PE X (.Constant .none j pos) (tGd X.K n) := pe_imp pe_non fun _ H Q h => h _ _ (Same.refl H) ⟨.none, .non, by simp only [small]⟩
theorem gd_bool {b j} : PE X (.Constant (.bool b) j pos) (tGd X.K n) := pe_imp pe_bl fun _ H Q h => h _ _ (Same.refl H) ⟨.bool b, .bl b, by simp only [small]⟩
theorem gd_int {i j} (hi : i.natAbs < 10 ^ 12 := by decide) : PE X (.Constant (.int i) j pos) (tGd X.K n) := pe_imp pe_int fun _ H Q h => h _ _ (Same.refl H) ⟨.int i, .int i, by simp only [small, decide_eq_true hi]⟩
theorem gd_neg {i j p2} (hi : (-i).natAbs < 10 ^ 12 := by decide) : PE X (.UnaryOp .USub (.Constant (.int i) j p2) pos) (tGd X.K n) :=
  pe_imp (pe_un un_neg pe_int) fun _ H Q h => ⟨i, rfl, h _ _ (Same.refl H) ⟨.int (-i), .int (-i), by simp only [small, decide_eq_true hi]⟩⟩
theorem gd_str {x j} (hx : (decide (x.length ≤ 40) && x.cps.toList.all fun c => decide (c < 16 ^ 8)) = true := by decide +kernel) : PE X (.Constant (.str x) j pos) (tGd X.K n) :=
  pe_imp pe_str fun _ H Q h => h _ _ (Same.refl H) ⟨.str x, .str x, by simp only [small, hx]⟩
theorem gd_nil : PA X [] (tGds X.K n 0) := pa_imp pa_nil fun _ H Q h => h _ _ (Same.refl H) rfl .nil
theorem gd_cons (h : PE X e (tGd X.K n)) (r : PA X es (tGds X.K n m)) (hs : starEach (e :: es) X.env = (false, eval e X.env) :: starEach es X.env := by rfl) : PA X (e :: es) (tGds X.K n (m + 1)) :=
  pa_imp (pa_cons h r hs) fun _ H Q q x H1 s1 g1 xs H2 s2 l2 g2 => q _ _ (s1.trans s2) (by rw [List.length_cons, l2]) (.cons (g1.same (mn_up s2)) (g2.same (mn_down s1)))
theorem gd_tup {x1} (h : PA X es (tGds X.K n m)) (hm : m ≤ 25 := by decide) : PE X (.Tuple es x1 pos) (tGd X.K (n + 1)) :=
  pe_imp (pe_tup h) fun _ H Q q xs H1 s1 l1 g1 => ⟨Nat.le_trans (by omega : xs.length ≤ 25) (by decide), fun p np =>
    q _ _ (s1.trans (same_new np _)) (.tup (g1.same (mn_up (same_new np _))) (by omega) (.inl (.inl (mn_of (s1.free np) upd_same))))⟩
theorem gd_lst (h : PA X es (tGds X.K n m)) (hm : m ≤ 25 := by decide) : PE X (.List es pos) (tGd X.K (n + 1)) :=
  pe_imp (pe_lst h) fun _ H Q q xs H1 s1 l1 g1 => ⟨Nat.le_trans (by omega : xs.length ≤ 25) (by decide), fun p np =>
    q _ _ (s1.trans (same_new np _)) (.lst (g1.same (mn_up (same_new np _))) (by omega) (SqL.of (mn_of (s1.free np) upd_same)))⟩
theorem gx_of (h : PE X e (tGd X.K n)) : PE X e (tGx X.K n) := pe_imp h fun _ H Q q x H1 s1 g1 => q _ _ s1 g1.x
theorem gx_nil : PA X [] (tGxs X.K n 0) := pa_imp pa_nil fun _ H Q h => h _ _ (Same.refl H) rfl (fun _ m => nomatch m)
theorem gx_cons (h : PE X e (tGx X.K n)) (r : PA X es (tGxs X.K n m)) (hs : starEach (e :: es) X.env = (false, eval e X.env) :: starEach es X.env := by rfl) : PA X (e :: es) (tGxs X.K n (m + 1)) :=
  pa_imp (pa_cons h r hs) fun _ H Q q x H1 s1 g1 xs H2 s2 l2 g2 => q _ _ (s1.trans s2) (by rw [List.length_cons, l2]) fun y hy => by
    rcases List.mem_cons.mp hy with rfl | hy
    · exact g1.same (mn_up s2)
    · exact (g2 y hy).same (mn_down s1)
theorem gx_dict0 : PE X (.Dict [] [] pos) (tGx X.K n) := pe_imp pe_dnewK fun _ H Q q p np => q _ _ (same_new np _) ⟨.dict [], .dct (mn_of np upd_same) .nil, by cases n <;> rfl⟩
/-- {'k': i} -/
theorem gx_dict1 {k i j1 j2 p1 p2} (hk : (decide (k.length ≤ 40) && k.cps.toList.all fun c => decide (c < 16 ^ 8)) = true := by decide +kernel) (hi : i.natAbs < 10 ^ 12 := by decide) :
    PE X (.Dict [some (.Constant (.str k) j1 p1)] [.Constant (.int i) j2 p2] pos) (tGx X.K n) :=
  pe_imp (pe_disp (pps_cons pe_str pe_int pps_nil) (by rfl) (by rfl) (fun z => by cases z) (by show 1 ≤ 15; decide)) fun _ H Q q p np => by
    refine ⟨upd_same, [(.inr k, .int i)], rfl, (by show 1 ≤ 15; decide), ?_⟩
    have e : upd (upd H p (.dK [])) p (.dK (mergeK [] [((.inr k : Key), V.int i)])) = upd H p (.dK [((.inr k : Key), V.int i)]) := upd_upd
    rw [e]
    refine q _ _ (same_new np _) ⟨.dict [(.str k, .int i)], .dct (mn_of np upd_same) (.int .nil), ?_⟩
    have s1 : smallKv [(.str k, .int i)] = true := by
      simp only [smallKv, hk, decide_eq_true hi, Bool.and_self]
    cases n <;> simp only [small, s1, List.length_cons, List.length_nil] <;> rfl
end
/-! ### any odd value -/
def spOdd (K : PySem.W.Frag) : Sp := fun vs H Q _ => ∃ (p : Addr) (b : Nat), vs = [.ref p] ∧ PotAt H p b ∧ b ≤ 100000 ∧ ∀ (x : V) (H' : Hp), But p H H' → PotAt H' p (b + 1) → Gx K 2 (mn H H') x → Q x H'
theorem PotAt.there {H : Hp} {p : Addr} {b : Nat} (h : PotAt H p b) : H p ≠ none := by
  obtain ⟨own, sm, n, h1, _⟩ := h
  rw [h1]
  exact fun z => nomatch z
open PySem L2 LG
/-! ### the heap without the pot -/
def mk (p : Addr) (H : Hp) : Hp := fun b => if b = p then none else H b
theorem mk_some {p b : Addr} {H : Hp} {o : HO} (h : mk p H b = some o) : b ≠ p ∧ H b = some o := by
  unfold mk at h
  by_cases e : b = p
  · rw [if_pos e] at h
    cases h
  · rw [if_neg e] at h
    exact ⟨e, h⟩
theorem mk_of {p b : Addr} {H : Hp} {o : HO} (ne : b ≠ p) (h : H b = some o) : mk p H b = some o := by
  unfold mk
  rw [if_neg ne]
  exact h
theorem mk_self (p : Addr) (H : Hp) : Same (mk p H) H := fun b o h => (mk_some h).2
theorem mk_but {p : Addr} {H H' : Hp} (s : But p H H') : Same (mk p H) (mk p H') := fun b o h => by
  obtain ⟨ne, e⟩ := mk_some h
  exact mk_of ne (s _ _ e ne)
theorem mk_up {p : Addr} {H H' : Hp} (s : Same H H') : Same (mk p H) (mk p H') := mk_but (But.of s)
theorem mn_mk {p : Addr} {H H' : Hp} (hp : H p ≠ none) : Same (mn H H') (mk p H') := fun b o h => by
  obtain ⟨h0, h1⟩ := mn_some h
  exact mk_of (fun z => hp (by rw [← z]; exact h0)) h1
theorem new_ne {p q : Addr} {H : Hp} (hp : H p ≠ none) (nq : H q = none) : q ≠ p := fun z => hp (by rw [← z]; exact nq)
theorem mk_new {p q : Addr} {H : Hp} {o : HO} (hp : H p ≠ none) (nq : H q = none) : mk p (upd H q o) q = some o := mk_of (new_ne hp nq) upd_same
theorem Same.there {H H' : Hp} {p : Addr} (s : Same H H') (hp : H p ≠ none) : H' p ≠ none := by
  cases e : H p with
  | none => exact absurd e hp
  | some o =>
    rw [s _ _ e]
    exact fun z => nomatch z
theorem But.same {p : Addr} {H H' : Hp} (s : Same H H') : But p H H' := But.of s
theorem cut_whole {xs : List V} {lo hi : Option Int} (h : HT.sIx xs.length 0 lo = 0 ∧ HT.sIx xs.length xs.length hi = xs.length) : cutV xs lo hi = xs := by
  unfold cutV
  rw [h.1, h.2, List.drop_zero, Nat.sub_zero, List.take_length]
/-- the tuple of xs, out of the pot's reach -/
def TupM (K : PySem.W.Frag) (p : Addr) (H : Hp) (x : V) (xs : List V) : Prop := ∃ a, x = .ref a ∧ SqT K (mk p H) a xs
theorem TupM.same {K : PySem.W.Frag} {p : Addr} {H H' : Hp} {x : V} {xs : List V} (s : But p H H') (h : TupM K p H x xs) : TupM K p H' x xs := by
  obtain ⟨a, e, q⟩ := h
  exact ⟨a, e, same_tup (mk_but s) q⟩
section
variable {X : Cx}
def rCatM (K : PySem.W.Frag) : R2 := fun x y H Q => ∃ p xs ys, H p ≠ none ∧ TupM K p H x xs ∧ TupM K p H y ys ∧ xs.length + ys.length ≤ 1000 ∧ ∀ z H', Same H H' → TupM K p H' z (xs ++ ys) → Q z H'
theorem op_catM : OpR X (binaryOp .Add) (rCatM X.K) := by
  intro pins s σ H x y v u Q I rx ry h
  obtain ⟨p, xs, ys, hp, ⟨a, rfl, ha⟩, ⟨b, rfl, hb⟩, hl, q⟩ := h
  refine op_catA pins s σ H _ _ v u Q I rx ry ⟨a, b, xs, ys, rfl, rfl, same_tup (mk_self p H) ha, same_tup (mk_self p H) hb, Nat.le_trans hl (by decide), fun e => ?_, fun _ e => ?_, fun _ _ r nr => ?_⟩
  · subst e
    exact q _ _ (Same.refl H) ⟨b, rfl, hb⟩
  · subst e
    rw [List.append_nil] at q
    exact q _ _ (Same.refl H) ⟨a, rfl, ha⟩
  · exact q _ _ (same_new nr _) ⟨r, rfl, .inl (.inl (mk_new hp nr))⟩
def rSlM (K : PySem.W.Frag) : V → Option Int → Option Int → Hp → VK → Prop := fun x lo hi H Q => ∃ p xs, H p ≠ none ∧ TupM K p H x xs ∧ ∀ z H', Same H H' → TupM K p H' z (cutV xs lo hi) → Q z H'
theorem sl_tupM : SlR X (rSlM X.K) := by
  intro pins s σ H x v vl vu lo hi sl Q I rx hs pl pu h
  obtain ⟨p, xs, hp, ⟨a, rfl, ha⟩, q⟩ := h
  refine sl_tupA pins s σ H _ v vl vu lo hi sl Q I rx hs pl pu ⟨a, xs, rfl, same_tup (mk_self p H) ha, fun e => ?_, fun _ r nr => ?_⟩
  · rw [cut_whole e] at q
    exact q _ _ (Same.refl H) ⟨a, rfl, ha⟩
  · exact q _ _ (same_new nr _) ⟨r, rfl, .inl (.inl (mk_new hp nr))⟩
end
theorem ty_of {K : PySem.W.Frag} {H : Hp} {d : PyData} {v : V} (h : Dp K H v d) : ∃ T, TyX K H v (.type T) ∧ T = (match d with | .none => "NoneType" | .bool _ => "bool" | .int _ => "int" | .str _ => "str" | .list _ => "list" | .tuple _ => "tuple" | .dict _ => "dict") := by
  cases h with
  | non => exact ⟨_, .base .non, rfl⟩
  | bl b => exact ⟨_, .base (.bl b), rfl⟩
  | int i => exact ⟨_, .base (.int i), rfl⟩
  | str x => exact ⟨_, .base (.str x), rfl⟩
  | lst hs _ =>
    rcases hs with (h | ⟨o, h⟩) | ⟨o, its, n, h, c, _⟩
    · exact ⟨_, .base (.lst h), rfl⟩
    · exact ⟨_, .base (.frz h), rfl⟩
    · exact ⟨_, .kList h c, rfl⟩
  | tup hs _ =>
    rcases hs with (h | ⟨o, h⟩) | ⟨o, its, n, h, c, _⟩
    · exact ⟨_, .base (.tup h), rfl⟩
    · exact ⟨_, .fTuple h, rfl⟩
    · exact ⟨_, .kTuple h c, rfl⟩
theorem Gds.app {K : PySem.W.Frag} {n : Nat} {H : Hp} {xs ys : List V} (h : Gds K n H xs) (r : Gds K n H ys) : Gds K n H (xs ++ ys) := by
  induction xs with
  | nil => exact r
  | cons x xs ih =>
    obtain ⟨ds, h1, h2⟩ := h
    cases h1 with
    | cons a b =>
      simp only [smalls, Bool.and_eq_true] at h2
      exact .cons ⟨_, a, h2.1⟩ (ih ⟨_, b, h2.2⟩)
theorem Gds.of_mem {K : PySem.W.Frag} {n : Nat} {H : Hp} : ∀ {xs : List V}, (∀ x ∈ xs, Gd K n H x) → Gds K n H xs
  | [], _ => .nil
  | x :: xs, h => .cons (h x List.mem_cons_self) (Gds.of_mem fun y hy => h y (List.mem_cons_of_mem _ hy))
theorem Gds.mem {K : PySem.W.Frag} {n : Nat} {H : Hp} {xs : List V} (h : Gds K n H xs) : ∀ x ∈ xs, Gd K n H x := by
  induction xs with
  | nil => exact fun x hx => nomatch hx
  | cons y ys ih =>
    obtain ⟨ds, h1, h2⟩ := h
    cases h1 with
    | cons a b =>
      simp only [smalls, Bool.and_eq_true] at h2
      intro x hx
      rcases List.mem_cons.mp hx with rfl | hx
      · exact ⟨_, a, h2.1⟩
      · exact ih ⟨_, b, h2.2⟩ x hx
theorem Gds.cut {K : PySem.W.Frag} {n : Nat} {H : Hp} {xs : List V} (h : Gds K n H xs) (lo hi : Option Int) : Gds K n H (cutV xs lo hi) :=
  .of_mem fun x hx => h.mem x (by
    unfold cutV at hx
    exact List.mem_of_mem_drop (List.mem_of_mem_take hx))
theorem Gds.back {K : PySem.W.Frag} {n : Nat} {H : Hp} {xs : List V} (h : Gds K n H xs) : Gds K n H xs.reverse := .of_mem fun x hx => h.mem x (List.mem_reverse.mp hx)
theorem Gds.le {K : PySem.W.Frag} {n m : Nat} {H : Hp} {xs : List V} (l : n ≤ m) (h : Gds K n H xs) : Gds K m H xs := .of_mem fun x hx => (h.mem x hx).le l
theorem no_true (n : Nat) : inV (.bl true) ((List.range n).map fun _ => V.bl false) = false := by
  unfold inV
  rw [List.any_eq_false]
  intro y hy
  obtain ⟨_, _, rfl⟩ := List.mem_map.mp hy
  decide
theorem signs3 : signs 3 ≤ sizeLine := by decide +kernel
end LG
set_option Elab.async false
set_option linter.all false
set_option maxRecDepth 100000
set_option maxHeartbeats 2000000
namespace LG
open PySem L2
/-! ### comprehensions that only make objects -/
theorem lc_all {J : It} {n : Nat} {G : Hp → Prop} {Y : Nat → Hp → V → Hp → Prop} (w : Walk J n G Y) {g : TG} {te : TE} {vs : List Nat} {σ : L2.St} {H1 : Hp} {D : Addr} {Qd : Hp → Prop} (nD : H1 D = none) (fv : Nat → V) (hn : n ≤ sizeLine) (hG : ∀ H, Same H1 H → G H)
    (hs : ∀ (i : Nat) (x : V) (H H' : Hp) (Kt : VK), i < n → Same H1 H → Y i H x H' → (∀ H4, Same H H4 → Kt (fv i) H4) → g x (wipe σ vs) H' fun σ2 H2 => wipe σ2 vs = wipe σ vs ∧ te σ2 H2 Kt)
    (hd : ∀ H, Same H1 H → H D = some (.lst ((List.range n).map fv)) → Qd H) :
    ∃ W : Nat → Nat → Hp → Prop, (∃ m, W 0 m (upd H1 D (.lst []))) ∧ ∀ i m H, W i m H →
      (J.stop i H ∧ Qd H) ∨ (J.go i H ∧ ∃ Nx : Hp → Prop, (∀ H', Nx H' → ∃ m', m' < m ∧ W (i + 1) m' H') ∧ ∀ x H', J.yld i H x H' → g x (wipe σ vs) H' fun σ2 H2 => wipe σ2 vs = wipe σ vs ∧ tYes σ2 H2 fun b H3 =>
        if b = true then te σ2 H3 fun y H4 => ∃ acc, H4 D = some (.lst acc) ∧ acc.length < sizeLine ∧ Nx (upd H4 D (.lst (acc ++ [y]))) else Nx H3) := by
  refine lc_it w (fun i H => Same H1 H ∧ H D = some (.lst ((List.range i).map fv))) ⟨same_new nD _, upd_same⟩ (fun i H _ h => hG H h.1) ?_ (fun H h => hd H h.1 h.2)
  rintro i x H H' hi ⟨s, hD⟩ y
  refine hs i x H H' _ hi s y fun H4 s4 => ⟨_, s4 _ _ hD, by simp; omega, fun b o h => ?_, ?_⟩
  · rw [upd_ne (ne_of_none h nD)]
    exact s4 _ _ (s _ _ h)
  · rw [upd_same, List.range_succ, List.map_append]
    rfl
/-! ### names -/
def LET : Str := "abcdefghijklmnopqrstuvwxyz"
def FIG : Str := "0123456789"
def inL (c : Nat) : Bool := decide (c ∈ LET.cps.toList)
def inF (c : Nat) : Bool := decide (c ∈ FIG.cps.toList)
def isNameB (w : Str) : Bool := (decide (1 ≤ w.length) && decide (w.length ≤ 8) && inL (w.cps.toList.headD 0)) && w.cps.toList.all fun c => inL c || inF c
def sp1 : Str := " "
def nl1 : Str := "\n"
/-- the names behind the word head; none of them: [] -/
def namesIn (line head : Str) (few most : Int) : List Str :=
  let ws := Txt.split line sp1
  let ns := ws.tail
  if ws.headD Str.empty ≠ head ∨ ¬ (few ≤ (ns.length : Int) ∧ (ns.length : Int) ≤ most) then []
  else if (uniq ns).length < ns.length ∨ ¬ (ns.all isNameB = true) then [] else ns
structure Dev where
  calls : List Str
  answers : List Str
  states : List Str
  goals : List ((Str × Str) × (Str × Str))
def headsL : List (Str × Int × Int) := [("calls", 1, 3), ("answers", 2, 3), ("states", 1, 4)]
def headAt (lines : List Str) (i : Nat) : List Str := match headsL[i]?, lines[i]? with
  | some (h, f, m), some l => namesIn l h f m
  | _, _ => []
/-- the names of the first lines, and the number of the bad one or 0 -/
def readHeads (lines : List Str) : List (List Str) × Nat :=
  if headAt lines 0 = [] then ([], 1)
  else if headAt lines 1 = [] then ([headAt lines 0], 2)
  else if headAt lines 2 = [] then ([headAt lines 0, headAt lines 1], 3)
  else ([headAt lines 0, headAt lines 1, headAt lines 2], 0)
def isLine (ws : List Str) (C A S : List Str) : Bool :=
  match ws with
  | [r, s, c, a, g] => decide (r = "row") && (S.contains s && (C.contains c && (A.contains a && S.contains g)))
  | _ => false
def goalStep (C A S : List Str) (g : List ((Str × Str) × (Str × Str))) (line : Str) : Option (List ((Str × Str) × (Str × Str))) :=
  match Txt.split line sp1 with
  | [r, s, c, a, t] => if isLine [r, s, c, a, t] C A S = true ∧ (g.lookup (s, c)).isNone = true then some (g ++ [((s, c), (a, t))]) else none
  | _ => none
def goalsFrom (C A S : List Str) : List Str → Nat → List ((Str × Str) × (Str × Str)) → Sum Nat (List ((Str × Str) × (Str × Str)))
  | [], _, g => .inr g
  | l :: r, at_, g => match goalStep C A S g l with
    | none => .inl (at_ + 1)
    | some g' => goalsFrom C A S r (at_ + 1) g'
def readGoals (lines : List Str) (C A S : List Str) : Sum Nat (List ((Str × Str) × (Str × Str))) :=
  match goalsFrom C A S (lines.drop 3) 3 [] with
  | .inl n => .inl n
  | .inr g => if g.length < S.length * C.length then .inl (lines.length + 1) else .inr g
def parse (text : Str) : Sum Nat Dev :=
  let lines := Txt.split text nl1
  match readHeads lines with
  | ([c, a, s], 0) => (match readGoals lines c a s with
    | .inl n => .inl n
    | .inr g => .inr ⟨c, a, s, g⟩)
  | (_, n) => .inl n
end LG
set_option Elab.async false
set_option linter.all false
set_option maxRecDepth 100000
set_option maxHeartbeats 2000000
namespace LG
open PySem L2 TL
theorem spl_some (S : List Nat) : ∀ (l : List Nat) (k : Nat) (acc : List Nat), spl S k acc l ≠ []
  | [], k, acc => by
    rw [spl_nil]
    simp
  | c :: r, 0, acc => by
    cases h : pre S (c :: r) with
    | true =>
      rw [spl_hit h]
      simp
    | false =>
      rw [spl_miss h]
      exact spl_some S r 0 _
  | c :: r, k + 1, acc => by
    show spl S k acc r ≠ []
    exact spl_some S r k acc
theorem split_some (x : Str) {y : Str} (hy : tl y ≠ []) (hk : y.cps.all (· < 256) = true) : Txt.split x y ≠ [] := by
  intro z
  have h := split_spl x y hy (kind_ok hk)
  rw [z] at h
  exact spl_some _ _ _ _ h.symm
theorem join_size (y : Str) : ∀ {ts : List Str}, ts ≠ [] → (Str.join y ts).length + y.length = (ts.map fun t => t.length + y.length).sum
  | [], h => absurd rfl h
  | [x], _ => by
    show x.length + y.length = _
    simp
  | x :: z :: r, _ => by
    have ih := join_size y (ts := z :: r) (by simp)
    have e : Str.join y (x :: z :: r) = x ++ y ++ Str.join y (z :: r) := rfl
    rw [e, strLen_append, strLen_append, List.map_cons, List.sum_cons]
    omega
theorem sum_bounds {ts : List Str} {k : Nat} : (∀ t ∈ ts, t.length + k ≤ (ts.map fun t => t.length + k).sum) ∧ ts.length * k ≤ (ts.map fun t => t.length + k).sum := by
  induction ts with
  | nil => simp
  | cons x r ih =>
    obtain ⟨h1, h2⟩ := ih
    refine ⟨fun t ht => ?_, ?_⟩
    · rw [List.map_cons, List.sum_cons]
      rcases List.mem_cons.mp ht with rfl | ht
      · omega
      · have := h1 t ht
        omega
    · rw [List.map_cons, List.sum_cons, List.length_cons, Nat.succ_mul]
      omega
theorem split_bounds (x : Str) {y : Str} (hy : tl y ≠ []) (hk : y.cps.all (· < 256) = true) (h1 : y.length = 1) : (∀ t ∈ Txt.split x y, t.length ≤ x.length) ∧ (Txt.split x y).length ≤ x.length + 1 := by
  have e := join_size y (split_some x hy hk)
  rw [PySem.StrLaws.join_split, h1] at e
  obtain ⟨b1, b2⟩ := sum_bounds (ts := Txt.split x y) (k := 1)
  refine ⟨fun t ht => ?_, ?_⟩
  · have := b1 t ht
    omega
  · omega
theorem sp1_ne : tl sp1 ≠ [] := by decide +kernel
theorem sp1_k : sp1.cps.all (· < 256) = true := by decide +kernel
theorem sp1_1 : sp1.length = 1 := by decide +kernel
theorem nl1_ne : tl nl1 ≠ [] := by decide +kernel
theorem nl1_k : nl1.cps.all (· < 256) = true := by decide +kernel
theorem nl1_1 : nl1.length = 1 := by decide +kernel
theorem words_some (x : Str) : Txt.split x sp1 ≠ [] := split_some x sp1_ne sp1_k
theorem words_bounds (x : Str) : (∀ t ∈ Txt.split x sp1, t.length ≤ x.length) ∧ (Txt.split x sp1).length ≤ x.length + 1 := split_bounds x sp1_ne sp1_k sp1_1
theorem lines_bounds (x : Str) : (∀ t ∈ Txt.split x nl1, t.length ≤ x.length) ∧ (Txt.split x nl1).length ≤ x.length + 1 := split_bounds x nl1_ne nl1_k nl1_1
theorem cut_from (xs : List V) (k : Nat) : cutV xs (some (k : Int)) none = xs.drop k := by
  unfold cutV
  rw [HT.sIx_nat, HT.sIx_none]
  by_cases h : k ≤ xs.length
  · rw [Nat.min_eq_left h]
    exact List.take_of_length_le (by rw [List.length_drop]; exact Nat.le_refl _)
  · rw [Nat.min_eq_right (by omega), List.drop_of_length_le (Nat.le_refl _), List.drop_of_length_le (by omega)]
    simp
theorem cut_upto (xs : List V) (k : Nat) : cutV xs none (some (k : Int)) = xs.take k := by
  unfold cutV
  rw [HT.sIx_nat, HT.sIx_none, List.drop_zero, Nat.sub_zero]
  by_cases h : k ≤ xs.length
  · rw [Nat.min_eq_left h]
  · rw [Nat.min_eq_right (by omega), List.take_of_length_le (Nat.le_refl _), List.take_of_length_le (by omega)]
end LG
set_option Elab.async false
set_option linter.all false
set_option maxRecDepth 100000
set_option maxHeartbeats 2000000
namespace K03
open PySem L2 LG
def top (i : Nat) : Stmt := PySem.Challenge.pw_toldboxes_k03_whole_walks_begun_and_turn.main.body.getD i (.Pass ⟨0, 0, 0, 0⟩)
abbrev sInit : Stmt := inClass (top 1) 0
abbrev sIsName : Stmt := top 10
abbrev sNamesIn : Stmt := top 11
abbrev sReadHeads : Stmt := top 12
abbrev sIsAmong : Stmt := top 13
abbrev sDInit : Stmt := inClass (top 18) 0
abbrev sDRow : Stmt := inClass (top 18) 1
abbrev sDLen : Stmt := inClass (top 18) 6
abbrev sDContains : Stmt := inClass (top 18) 7
abbrev sDEq : Stmt := inClass (top 18) 8
abbrev sDAsk : Stmt := inClass (top 18) 9
abbrev sReadGoals : Stmt := top 19
abbrev sIsLine : Stmt := top 20
abbrev sIsWalk : Stmt := top 14
abbrev sDHeard : Stmt := inClass (top 18) 2
abbrev sDBehind : Stmt := inClass (top 18) 3
abbrev sDBegun : Stmt := inClass (top 18) 4
abbrev sDTurned : Stmt := inClass (top 18) 5
abbrev sDGone : Stmt := inClass (top 18) 10
abbrev sPot : Stmt := top 22
abbrev sTake : Stmt := top 23
abbrev sOf : Stmt := top 24
abbrev sSome : Stmt := top 25
abbrev sCells : Stmt := top 26
abbrev sTold : Stmt := top 27
abbrev sOdd : Stmt := top 28
abbrev sAny : Stmt := top 29
abbrev sTextBy : Stmt := top 30
abbrev sSizes : Stmt := top 31
abbrev sAWalk : Stmt := top 32
abbrev sRun : Stmt := top 33
abbrev sLines : Stmt := top 34
abbrev sWalks : Stmt := top 35
abbrev sTurnedL : Stmt := top 36
abbrev sTurned : Stmt := top 37
abbrev sRight : Stmt := top 38
abbrev sLaw : Stmt := top 39
section
variable {P : Program} {w : World} {K : PySem.W.Frag} {mg : Str → Option Value} {base : Heap}
theorem scPot : FnScope ["_law_script", "_law_place", "_law_cell", "_law_own", "_law_small"] ["_law_script", "_law_place"] (defScope sPot) := ⟨rfl, rfl, rfl, by decide +kernel, rfl, by decide +kernel, by decide +kernel⟩
def tPotRest : TS :=
  tSeq (tAsg (tOp (rI CMul fun i j => .int (i * j)) (tOp (rI (fun _ j => 0 < j) fun i j => .int (i % j)) (tCB rInt1 (tCons (tCB rAbs (tCons (tVar 2) tNil)) tNil))
      (tOp (rI (fun i j => 0 ≤ j ∧ (Builtin.Int.intBits i : Int) * j ≤ 2 ^ 27) fun i j => .int (i ^ j.toNat)) (tOp (rI CPow fun i j => .int (i ^ j.toNat)) (tC (.int 10)) (tC (.int 60))) (tC (.int 5))))
      (tCB rInt1 (tCons (tOp (rI0 fun i j => .bl (decide (i ≥ j))) (tCB rAbs (tCons (tVar 2) tNil)) (tOp (rI CPow fun i j => .int (i ^ j.toNat)) (tC (.int 10)) (tC (.int 18)))) tNil))) (gName 3))
  (tSeq (tAsg (tOp (rI (fun _ j => 0 < j) fun i j => .int (i % j)) (tCB rInt1 (tCons (tVar 2) tNil)) (tC (.int 2305843009213693951))) (gName 4))
  (tRet (tLst (tCons (tVar 3) (tCons (tOp (rI (fun _ j => 0 < j) fun i j => .int (i % j)) (tCB rInt1 (tCons (tOp (rI0 fun i j => .int (i + j)) (tOp (rI0 fun i j => .int (i + j)) (tOp (rI CMul fun i j => .int (i * j)) (tVar 4) (tC (.int 71357)))
      (tOp (rI CMul fun i j => .int (i * j)) (tOp (rI CMul fun i j => .int (i * j)) (tC (.int 6104)) (tVar 1)) (tVar 1))) (tC (.int 217))) tNil)) (tC (.int 2305843009213693921))) (tCons (tC (.int 0)) tNil))))))
theorem pot_rest {a : Addr} {j : Int} {H : Hp} {Q : VK} (z : Int) (H1 : Hp) (s1 : Same H H1) (f1 : ∀ p, H1 p = none → H p = none) (h0 : 0 ≤ j) (h1 : j ≤ 1000)
    (q : ∀ (p : Addr) (H' : Hp), Same H H' → H p = none → PotAt H' p 0 → Q (.ref p) H') : tPotRest { nx := fun _ H' => Q .non H', rt := Q } [some (.ref a), some (.int j), some (.int z), none, none] H1 := by
  have dec0 : (0 : Int) < (10 ^ (60 : Int).toNat) ^ (5 : Int).toNat := by decide +kernel
  refine ⟨_, rfl, _, rfl, .inl ⟨_, rfl, _, _, rfl, rfl, ⟨by decide, by decide, by decide⟩, _, _, rfl, rfl, ⟨by decide, bits60⟩, _, _, rfl, rfl, dec0, _, rfl, _, rfl, _, _, rfl, rfl, ⟨by decide, by decide, by decide⟩, _, _, rfl, rfl, .inr ⟨_, rfl, ?_⟩⟩⟩
  generalize hv : (if z < 0 then -z else z) % (10 ^ (60 : Int).toNat) ^ (5 : Int).toNat = own
  have own0 : 0 ≤ own := by rw [← hv]; exact Int.emod_nonneg _ (by omega)
  generalize hk : decide ((if z < 0 then -z else z) ≥ 10 ^ (18 : Int).toNat) = k
  clear hk
  have k01 : (if k = true then (1 : Int) else 0) = 0 ∨ (if k = true then (1 : Int) else 0) = 1 := by cases k <;> simp
  generalize (if k = true then (1 : Int) else 0) = kk at k01 ⊢
  have own1 : 0 ≤ own * kk := by
    rcases k01 with e | e
    · rw [e]; omega
    · rw [e]; omega
  refine ⟨_, _, rfl, rfl, .inr ⟨by omega, by omega⟩, ?_⟩
  refine ⟨_, rfl, .inl ⟨_, rfl, _, _, rfl, rfl, (by show (0 : Int) < 2305843009213693951; decide), ?_⟩⟩
  refine ⟨_, rfl, _, rfl, _, _, rfl, rfl, .inr ⟨by decide, by decide⟩, _, rfl, _, _, rfl, rfl, .inl ⟨by decide, by decide⟩, _, rfl, _, _, rfl, rfl, .inr ⟨by omega, by omega⟩, _, _, rfl, rfl, _, _, rfl, rfl, .inl ⟨_, rfl, _, _, rfl, rfl, (by show (0 : Int) < 2305843009213693921; decide), (by show 3 ≤ sizeLine; decide), fun p np => ?_⟩⟩
  refine q p _ (s1.trans (same_new np _)) (f1 p np) ⟨_, _, _, upd_same, (by rw [hv]; exact own1), ?_, ?_, by decide, by decide⟩
  · exact Int.emod_nonneg _ (by decide)
  · exact Int.lt_trans (Int.emod_lt_of_pos _ (by decide)) (by decide)
theorem ok_pot {f : Addr} {fd : FuncData} (F : Fun K "_law_pot" "_law_pot" sPot f fd) (T : Bltn mg) : FnOk P w K mg base CX0 1 f fd ["_law_script", "_law_place"] (spPot K) := by
  refine F.ok scPot (fun vs H Q E h => ?_) (fun cdv A outer s H vs Q E hr h => ?_)
  · obtain ⟨a, ns, j, rfl, _⟩ := h
    rfl
  obtain ⟨a, ns, j, rfl, hS, h63, h0, h1, q⟩ := h
  refine ⟨_, pss_cons (ps_set (i := 2) scPot.nd rfl (Or.inl rfl) (pe_ifExp (pt_cmpR op_lt (pv 1) (pe_callB call_len_seq rfl T.len PySem.boot_len (pa_cons (pv 0) pa_nil)) (nomark _)) (pe_ix ix_list (pv 0) (pv 1) (fun _ _ => rfl))
      (pe_op op_add (pe_op op_add (pe_op op_mod (pe_callB (cr_sum rfl) rfl T.sum (by decide +kernel) (pa_cons (pe_slice sl_list (pv 0) po_none (po_some pe_int)) pa_nil)) pe_int) (pe_op op_mul pe_int (pv 1))) pe_int)))
    (pss_cons (ps_set (i := 3) scPot.nd rfl (Or.inl rfl) (pe_op op_mul (pe_op op_mod (pe_callTy call_int1 rfl T.int (by decide +kernel) (pa_cons (pe_callB call_abs rfl T.abs (by decide +kernel) (pa_cons (pv 2) pa_nil)) pa_nil)) (pe_op op_powB (pe_op op_pow pe_int pe_int) pe_int))
      (pe_callTy call_int1 rfl T.int (by decide +kernel) (pa_cons (pe_cmpR op_ge (pe_callB call_abs rfl T.abs (by decide +kernel) (pa_cons (pv 2) pa_nil)) (pe_op op_pow pe_int pe_int) (nomark _)) pa_nil))))
    (pss_cons (ps_set (i := 4) scPot.nd rfl (Or.inl rfl) (pe_op op_mod (pe_callTy call_int1 rfl T.int (by decide +kernel) (pa_cons (pv 2) pa_nil)) pe_int))
    (pss_one (ps_ret (pe_lst (pa_cons (pv 3) (pa_cons (pe_op op_mod (pe_callTy call_int1 rfl T.int (by decide +kernel) (pa_cons (pe_op op_add (pe_op op_add (pe_op op_mul (pv 4) pe_int) (pe_op op_mul (pe_op op_mul pe_int (pv 1)) (pv 1))) pe_int) pa_nil)) pe_int) (pa_cons pe_int pa_nil)))))))), ?_⟩
  refine ⟨_, rfl, _, rfl, a, _, rfl, .inl hS, _, _, rfl, rfl, _, rfl, ?_⟩
  have dec0 : (0 : Int) < (10 ^ (60 : Int).toNat) ^ (5 : Int).toNat := by decide +kernel
  refine ite2 (fun c => ?_) (fun c => ?_)
  · have c' : j < (((ns.map V.int).length : Nat) : Int) := of_decide_eq_true c
    rw [List.length_map] at c'
    obtain ⟨z, hz⟩ := item_there h0 c'
    have H0 : Same H H := Same.refl H
    have free : ∀ p, H p = none → H p = none := fun _ e => e
    refine ⟨_, rfl, _, rfl, a, _, _, _, rfl, rfl, hS, hz, ?_⟩
    exact pot_rest z H H0 free h0 h1 q
  · obtain ⟨ms, em⟩ := cut_ints ns none (some 1)
    refine ⟨_, rfl, 1, rfl, a, _, rfl, hS, fun t nt => ?_⟩
    refine ⟨t, ms, rfl, SqL.of (by rw [upd_same, em]), _, _, rfl, rfl, (by show (0 : Int) < 1000003; decide), _, rfl, _, _, rfl, rfl, .inl ⟨by decide, by decide⟩, _, _, rfl, rfl, _, _, rfl, rfl, ?_⟩
    exact pot_rest _ _ (same_new nt _) (fun p e => (same_new nt _).free e) h0 h1 q
/-! ### one digit out of the pot -/
def spTake : Sp := fun vs H Q _ => ∃ (p : Addr) (u : Int) (b : Nat), vs = [.ref p, .int u] ∧ PotAt H p b ∧ b ≤ 100000 ∧ 1 ≤ u ∧ u < 1073741824 ∧
  ∀ (k : Int) (H' : Hp), 0 ≤ k → k < u → But p H H' → PotAt H' p (b + 1) → Q (.int k) H'
theorem scTake : FnScope ["_law_pot_here", "_law_upto", "_law_digit", "_law_prime", "_law_blend"] ["_law_pot_here", "_law_upto"] (defScope sTake) := ⟨rfl, rfl, rfl, by decide +kernel, rfl, by decide +kernel, by decide +kernel⟩
theorem sq_bound {n : Int} (h0 : 0 ≤ n) (h : n ≤ 200000) : 0 ≤ 93313 * n * n ∧ 93313 * n * n ≤ 3732520000000000 := by
  have h1 : 0 ≤ 93313 * n := by omega
  have h2 : 93313 * n ≤ 18662600000 := by omega
  have h3 := Int.mul_le_mul h2 h h0 (by decide)
  exact ⟨Int.mul_nonneg h1 h0, h3⟩
theorem ok_take {f : Addr} {fd : FuncData} (F : Fun K "_law_take" "_law_take" sTake f fd) (T : Bltn mg) : FnOk P w K mg base CX0 1 f fd ["_law_pot_here", "_law_upto"] spTake := by
  refine F.ok scTake (fun vs H Q E h => ?_) (fun cdv A outer s H vs Q E hr h => ?_)
  · obtain ⟨p, u, b, rfl, _⟩ := h
    rfl
  obtain ⟨p, u, b, rfl, ⟨own, sm, n, hp, hown, hs0, hs1, hn0, hn1⟩, hb, hu1, hu2, q⟩ := h
  refine ⟨_, pss_cons (ps_if (pt_cmpR op_gt (pe_ix ix_list (pv 0) pe_int (fun _ _ => rfl)) pe_int (nomark _))
      (pss_cons (ps_set (i := 2) scTake.nd rfl (Or.inl rfl) (pe_op op_mod (pe_callTy call_int1 rfl T.int (by decide +kernel) (pa_cons (pe_ix ix_list (pv 0) pe_int (fun _ _ => rfl)) pa_nil)) (pv 1)))
      (pss_cons (ps_asg (pe_op op_fdiv (pe_ix ix_list (pv 0) pe_int (fun _ _ => rfl)) (pv 1)) (pg_sub (pv 0) pe_int set_list))
      (pss_one (ps_ret (pv 2))))) pss_nil)
    (pss_cons (ps_asg (pe_op op_add (pe_ix ix_list (pv 0) pe_int (fun _ _ => rfl)) pe_int) (pg_sub (pv 0) pe_int set_list))
    (pss_cons (ps_set (i := 3) scTake.nd rfl (Or.inl rfl) (pe_ix ix_list (pe_lst (pa_cons pe_int (pa_cons pe_int (pa_cons pe_int (pa_cons pe_int (pa_cons pe_int pa_nil)))))) (pe_op op_mod (pe_callTy call_int1 rfl T.int (by decide +kernel) (pa_cons (pe_ix ix_list (pv 0) pe_int (fun _ _ => rfl)) pa_nil)) pe_int) (fun _ _ => rfl)))
    (pss_cons (ps_set (i := 4) scTake.nd rfl (Or.inl rfl) (pe_op op_mod (pe_callTy call_int1 rfl T.int (by decide +kernel) (pa_cons (pe_op op_pow (pe_callTy call_int1 rfl T.int (by decide +kernel) (pa_cons (pe_op op_add (pe_op op_add (pe_ix ix_list (pv 0) pe_int (fun _ _ => rfl)) (pe_op op_mul (pe_op op_mul pe_int (pe_ix ix_list (pv 0) pe_int (fun _ _ => rfl))) (pe_ix ix_list (pv 0) pe_int (fun _ _ => rfl)))) pe_int) pa_nil)) pe_int) pa_nil)) (pv 3)))
    (pss_one (ps_ret (pe_op op_mod (pe_callTy call_int1 rfl T.int (by decide +kernel) (pa_cons (pe_op op_fdiv (pe_op op_mul (pv 4) (pe_op op_add (pe_op op_mod (pe_callTy call_int1 rfl T.int (by decide +kernel) (pa_cons (pv 4) pa_nil)) pe_int) (pe_op op_mul pe_int (pe_ix ix_list (pv 0) pe_int (fun _ _ => rfl))))) pe_int) pa_nil)) (pv 1))))))), ?_⟩
  refine ⟨_, rfl, p, _, _, _, rfl, rfl, SqL.of hp, rfl, _, _, rfl, rfl, _, rfl, ?_⟩
  refine ite2 (fun c => ?_) (fun c => ?_)
  · refine ⟨_, rfl, p, _, _, _, rfl, rfl, SqL.of hp, rfl, .inl ⟨_, rfl, _, rfl, _, _, rfl, rfl, (by show 0 < u; omega), ?_⟩⟩
    refine ⟨_, rfl, p, _, _, _, rfl, rfl, SqL.of hp, rfl, _, rfl, _, _, rfl, rfl, ⟨by omega, by omega⟩, _, rfl, p, _, _, 0, rfl, rfl, hp, rfl, _, rfl, ?_⟩
    refine q _ _ (Int.emod_nonneg _ (by omega)) (Int.emod_lt_of_pos _ (by omega)) (fun c o e ne => by rw [upd_ne ne]; exact e) ⟨_, _, _, upd_same, ?_, hs0, hs1, hn0, by omega⟩
    exact Int.ediv_nonneg hown (by omega)
  · refine ⟨_, rfl, p, _, _, _, rfl, rfl, SqL.of hp, rfl, _, _, rfl, rfl, _, rfl, p, _, _, 2, rfl, rfl, hp, rfl, ?_⟩
    have hp1 : (upd H p (.lst [.int own, .int sm, .int (n + 1)])) p = some (.lst [.int own, .int sm, .int (n + 1)]) := upd_same
    have but1 : But p H (upd H p (.lst [.int own, .int sm, .int (n + 1)])) := fun c o e ne => by rw [upd_ne ne]; exact e
    show tSeq _ _ _ _ (upd H p (.lst [.int own, .int sm, .int (n + 1)]))
    generalize upd H p (.lst [.int own, .int sm, .int (n + 1)]) = H1 at hp1 but1 ⊢
    refine ⟨(by show 5 ≤ sizeLine; decide), fun t nt => ?_⟩
    have s2 : Same H1 (upd H1 t (.lst [.int 2147483647, .int 2147483629, .int 2147483587, .int 2147483579, .int 2147483563])) := same_new nt _
    have ht : (upd H1 t (.lst [.int 2147483647, .int 2147483629, .int 2147483587, .int 2147483579, .int 2147483563])) t = some (.lst [.int 2147483647, .int 2147483629, .int 2147483587, .int 2147483579, .int 2147483563]) := upd_same
    generalize upd H1 t (.lst [.int 2147483647, .int 2147483629, .int 2147483587, .int 2147483579, .int 2147483563]) = H2 at s2 ht ⊢
    have hp2 := s2 _ _ hp1
    obtain ⟨pr, hpr, pr1, pr2⟩ := prime_at (r := (n + 1) % 5) (Int.emod_nonneg _ (by decide)) (Int.emod_lt_of_pos _ (by decide))
    refine ⟨_, rfl, p, _, _, _, rfl, rfl, SqL.of hp2, rfl, .inl ⟨_, rfl, _, _, rfl, rfl, (by show (0 : Int) < 5; decide), t, _, _, _, rfl, rfl, SqL.of ht, hpr, ?_⟩⟩
    have sq := sq_bound (n := n + 1) (by omega) (by omega)
    refine ⟨_, rfl, p, _, _, _, rfl, rfl, SqL.of hp2, rfl, _, rfl, p, _, _, _, rfl, rfl, SqL.of hp2, rfl, _, _, rfl, rfl, .inl ⟨by decide, by decide⟩, _, rfl, p, _, _, _, rfl, rfl, SqL.of hp2, rfl, _, _, rfl, rfl, .inr ⟨by omega, by omega⟩,
      _, _, rfl, rfl, _, _, rfl, rfl, .inl ⟨_, rfl, _, _, rfl, rfl, ⟨by decide, by decide, ?_⟩, .inl ⟨_, rfl, _, rfl, _, _, rfl, rfl, (by show 0 < pr; omega), ?_⟩⟩⟩
    · show (sm + 93313 * (n + 1) * (n + 1) + 50).natAbs < 2 ^ 64
      omega
    · generalize hb2 : (sm + 93313 * (n + 1) * (n + 1) + 50) ^ (3 : Int).toNat % pr = bl
      have b0 : 0 ≤ bl := by rw [← hb2]; exact Int.emod_nonneg _ (by omega)
      have b1 : bl < pr := by rw [← hb2]; exact Int.emod_lt_of_pos _ (by omega)
      refine ⟨_, rfl, _, rfl, .inl ⟨_, rfl, _, _, rfl, rfl, (by show (0 : Int) < 10014; decide), _, rfl, p, _, _, _, rfl, rfl, SqL.of hp2, rfl, _, _, rfl, rfl, .inl ⟨by decide, by decide⟩, _, _, rfl, rfl, _, _, rfl, rfl, .inl ⟨by rw [hb2]; omega, by rw [hb2]; omega⟩,
        _, _, rfl, rfl, ⟨by decide, by decide⟩, .inl ⟨_, rfl, _, rfl, _, _, rfl, rfl, (by show 0 < u; omega), ?_⟩⟩⟩
      refine q _ _ (Int.emod_nonneg _ (by omega)) (Int.emod_lt_of_pos _ (by omega)) (but1.trans (But.of s2)) ⟨_, _, _, hp2, hown, hs0, hs1, by omega, by omega⟩
theorem scOf : FnScope ["_law_pot_here", "_law_some_here"] ["_law_pot_here", "_law_some_here"] (defScope sOf) := ⟨rfl, rfl, rfl, by decide +kernel, rfl, by decide +kernel, by decide +kernel⟩
theorem ok_of {f g : Addr} {fd gd : FuncData} (F : Fun K "_law_of" "_law_of" sOf f fd) (T : Bltn mg) (G : FnOk P w K mg base CX0 1 g gd ["_law_pot_here", "_law_upto"] spTake) (mG : mg "_law_take" = some (.ref g)) (kG : PySem.W.keepIn K (.ref g) = true) (bG : Binds K gd ["_law_pot_here", "_law_upto"] []) :
    FnOk P w K mg base CX0 2 f fd ["_law_pot_here", "_law_some_here"] (spOf K) := by
  refine F.ok scOf (fun vs H Q E h => ?_) (fun cdv A outer s H vs Q E hr h => ?_)
  · obtain ⟨p, l, xs, b, rfl, _⟩ := h
    rfl
  obtain ⟨p, l, xs, b, rfl, hp, hb, hl, x0, x1, ne, q⟩ := h
  refine ⟨_, pss_one (ps_ret (pe_ix ix_list (pv 1) (pe_call G hr rfl mG kG bG .nil pass0 (pa_cons (pv 0) (pa_cons (pe_callB call_len_seq rfl T.len PySem.boot_len (pa_cons (pv 1) pa_nil)) pa_nil))) (fun _ _ => rfl))), ?_⟩
  refine ⟨_, rfl, _, rfl, _, rfl, l, _, rfl, .inl hl, p, _, b, rfl, hp, hb, by omega, by omega, fun k H' k0 k1 but pot => ?_⟩
  have hk : k.toNat < xs.length := by omega
  have at_ : atI xs k = some xs[k.toNat] := at_of (j := k.toNat) (by omega) (List.getElem?_eq_getElem hk)
  exact ⟨l, xs, k, _, rfl, rfl, But.seq but ne hl, at_, q _ _ (List.getElem_mem hk) but pot⟩
/-! ### the cells -/
def spCells (K : PySem.W.Frag) : Sp := fun vs H Q _ => ∃ (a : Addr) (ns : List Int) (m : Int), vs = [.ref a, .int m] ∧ SqL K H a (ns.map V.int) ∧ ns.length ≤ 63 ∧ 1 ≤ m ∧ m ≤ 63 ∧
  ∀ (p : Addr) (n : Nat) (H' : Hp), Same H H' → H p = none → 1 ≤ n → n ≤ 63 → H' p = some (.lst ((List.range n).map fun i => V.int (i : Nat))) → Q (.ref p) H'
theorem scCells : FnScope ["_law_script", "_law_most"] ["_law_script", "_law_most"] (defScope sCells) := ⟨rfl, rfl, rfl, by decide +kernel, rfl, by decide +kernel, by decide +kernel⟩
theorem ok_cells {f : Addr} {fd : FuncData} (F : Fun K "_law_cells" "_law_cells" sCells f fd) (T : Bltn mg) : FnOk P w K mg base CX0 1 f fd ["_law_script", "_law_most"] (spCells K) := by
  refine F.ok scCells (fun vs H Q E h => ?_) (fun cdv A outer s H vs Q E hr h => ?_)
  · obtain ⟨a, ns, m, rfl, _⟩ := h
    rfl
  obtain ⟨a, ns, m, rfl, hS, h63, m0, m1, q⟩ := h
  refine ⟨_, pss_one (ps_ret (pe_listRg rfl rfl T.list (prg_1 rfl T.range (pe_callB (call_max2 rfl) rfl T.max (by decide +kernel) (pa_cons pe_int (pa_cons (pe_callB (call_min2 rfl) rfl T.min (by decide +kernel)
    (pa_cons (pv 1) (pa_cons (pe_callB call_len_seq rfl T.len PySem.boot_len (pa_cons (pv 0) pa_nil)) pa_nil))) pa_nil)))))), ?_⟩
  refine ⟨_, rfl, _, rfl, a, _, rfl, .inl hS, _, _, rfl, _, _, rfl, _, rfl, ?_⟩
  have hl : (ns.map V.int).length = ns.length := List.length_map _
  rw [hl]
  generalize hz : (if (if (ns.length : Int) < m then (ns.length : Int) else m) > 1 then (if (ns.length : Int) < m then (ns.length : Int) else m) else 1) = z
  have z0 : 1 ≤ z ∧ z ≤ 63 := by
    rw [← hz]
    split <;> split <;> omega
  refine ⟨RgOk.of_le (by decide) (by omega) (by decide) (by omega), fun p np => ?_⟩
  refine q p z.toNat _ (same_new np _) np (by omega) (by omega) ?_
  rw [upd_same]
  have e : rgV 0 z = (List.range z.toNat).map fun i => V.int (i : Nat) := by
    unfold rgV
    have e1 : (z - 0).toNat = z.toNat := by omega
    rw [e1]
    refine List.map_congr_left fun i _ => ?_
    rw [Int.zero_add]
  rw [e]
end
end K03
set_option Elab.async false
set_option linter.all false
set_option maxRecDepth 100000
set_option maxHeartbeats 4000000
namespace K03
open PySem L2 LG
section
variable {P : Program} {w : World} {K : PySem.W.Frag} {mg : Str → Option Value} {base : Heap}
/-- the module's own constants -/
structure Consts (K : PySem.W.Frag) (mg : Str → Option Value) : Prop where
  let_ : ∃ t, mg "LETTERS" = some (.str LET t)
  fig : ∃ t, mg "FIGURES" = some (.str FIG t)
def spName : Sp := fun vs H Q _ => ∃ (x : Str), vs = [.str x] ∧ x.length ≤ 100000 ∧ ∀ H', Same H H' → Q (.bl (isNameB x)) H'
theorem scName : FnScope ["word", "sign"] ["word"] (defScope sIsName) := ⟨rfl, rfl, rfl, by decide +kernel, rfl, by decide +kernel, by decide +kernel⟩
theorem name_bits (x : Str) : (List.range x.cps.size).map (fun i => V.bl (inL (x.cps.getD i 0) || inF (x.cps.getD i 0))) = (x.cps.toList.map fun c => inL c || inF c).map V.bl := by
  apply List.ext_getElem
  · simp
  · intro k h1 h2
    have hk : k < x.cps.size := by simpa using h1
    simp [Array.getD, hk]
theorem ok_name {f : Addr} {fd : FuncData} (F : Fun K "is_name" "is_name" sIsName f fd) (T : Bltn mg) (C : Consts K mg) : FnOk P w K mg base CX0 1 f fd ["word"] spName := by
  obtain ⟨tL, mL⟩ := C.let_
  obtain ⟨tF, mF⟩ := C.fig
  refine F.ok scName (fun vs H Q E h => ?_) (fun cdv A outer s H vs Q E hr h => ?_)
  · obtain ⟨x, rfl, _⟩ := h
    rfl
  obtain ⟨x, rfl, hx, q⟩ := h
  refine ⟨_, pss_cons (ps_if (PW.pt (pw_or (pt_not (pt_chain op_le op_le pe_int (pe_callB call_len_str rfl T.len PySem.boot_len (pa_cons (pv 0) pa_nil)) pe_int)) (pw_or1 (pt_cmpR op_notIn_sign (pe_ix ix_str (pv 0) pe_int (fun _ _ => rfl)) (pe_glob (v := .str LET) rfl mL ⟨_, rfl⟩) (by rfl)))))
      (pss_one (ps_ret pe_bl)) pss_nil)
    (pss_one (ps_ret (pe_callB (cr_all rfl) rfl T.all (by decide +kernel) (pa_cons (pe_lc (own := [("sign", 1)]) (g := gName 1) (tt := tYes) rfl scName.nd (pi_str (pv 0)) (blkOk_by (own := [("sign", 1)]) (N := ["word", "sign"]) (sc := defScope sIsName) (by decide +kernel))
      (fun _ _ _ _ _ => pg_name (i := 1) scName.nd rfl (Or.inl rfl)) (fun _ _ _ _ _ => pts_nil)
      (fun _ _ _ _ _ => pe_or (pe_cmpR op_in_sign (pv 1) (pe_glob (v := .str LET) rfl mL ⟨_, rfl⟩) (by rfl)) (pe_one (pe_cmpR op_in_sign (pv 1) (pe_glob (v := .str FIG) rfl mF ⟨_, rfl⟩) (by rfl))))) pa_nil)))), ?_⟩
  have len0 : x.length ≤ sizeLine := Nat.le_trans hx (by rw [sizeLine_eq]; decide)
  have no : isNameB x = false → Q (.bl false) H := fun e => by
    have := q H (Same.refl H)
    rw [e] at this
    exact this
  refine ⟨_, rfl, _, rfl, len0, _, _, rfl, rfl, _, rfl, ?_⟩
  refine ite2 (fun c1 => ?_) (fun c1 => ?_)
  · refine ⟨_, _, rfl, rfl, _, rfl, ?_⟩
    have l1 : 1 ≤ x.length := by
      have := of_decide_eq_true c1
      omega
    show (if (!decide ((x.length : Int) ≤ 8)) = true then _ else _)
    by_cases c2 : (x.length : Int) ≤ 8
    · rw [if_neg (by simp [c2])]
      have hc : x.cps[0]? = some (x.cps.getD 0 0) := by
        have : 0 < x.cps.size := l1
        simp [Array.getD, this]
      have hd0 : x.cps.toList.headD 0 = x.cps.getD 0 0 := by
        have : 0 < x.cps.size := l1
        rw [List.headD_eq_head?_getD, List.head?_eq_getElem?, Array.getElem?_toList, hc]
        rfl
      refine ⟨_, rfl, x, 0, x.cps.getD 0 0, rfl, rfl, len0, ?_, _, _, rfl, rfl, _, rfl, ?_⟩
      · have z : atI x.cps.toList ((0 : Nat) : Int) = some (x.cps.getD 0 0) := atI_nat (by rw [Array.getElem?_toList]; exact hc)
        exact z
      refine ite2 (fun c3 => ?_) (fun c3 => ?_)
      · refine no ?_
        have c3' : inL (x.cps.getD 0 0) = false := by
          unfold inL
          simpa using c3
        rw [show isNameB x = ((decide (1 ≤ x.length) && decide (x.length ≤ 8) && inL (x.cps.toList.headD 0)) && x.cps.toList.all fun c => inL c || inF c) from rfl, hd0, c3']
        simp
      · refine ⟨_, rfl, x, rfl, fun D nD => ?_⟩
        refine lc_all walk_str nD (fun i => V.bl (inL (x.cps.getD i 0) || inF (x.cps.getD i 0))) (Nat.le_trans (show x.cps.size ≤ _ from len0) (Nat.le_refl _)) (fun _ _ => trivial) ?_ ?_
        · rintro i y H0 H' Kt hi s0 ⟨rfl, c, hc, rfl⟩ hK
          have ec : x.cps.getD i 0 = c := by
            rw [Array.getD_eq_getD_getElem?, hc]
            rfl
          refine ⟨rfl, _, rfl, _, _, rfl, rfl, _, rfl, ?_⟩
          have hK := hK H' (Same.refl _)
          rw [ec] at hK
          unfold inL inF at hK
          by_cases m : c ∈ LET.cps.toList
          · simp only [m, decide_true, Bool.true_or, if_true] at hK ⊢
            exact hK
          · simp only [m, decide_false, Bool.false_or, if_neg, Bool.false_eq_true, if_false] at hK ⊢
            exact ⟨_, rfl, _, _, rfl, rfl, hK⟩
        · intro H2 s2 hD
          rw [name_bits] at hD
          refine ⟨D, _, rfl, SqL.of hD, ?_⟩
          have c3' : inL (x.cps.getD 0 0) = true := by
            unfold inL
            simpa using c3
          have e : isNameB x = (x.cps.toList.map fun c => inL c || inF c).all id := by
            rw [show isNameB x = ((decide (1 ≤ x.length) && decide (x.length ≤ 8) && inL (x.cps.toList.headD 0)) && x.cps.toList.all fun c => inL c || inF c) from rfl, hd0, c3', decide_eq_true l1, decide_eq_true (by omega : x.length ≤ 8), List.all_map]
            rfl
          rw [← e]
          exact q H2 s2
    · rw [if_pos (by simp [c2])]
      refine no ?_
      have : ¬ x.length ≤ 8 := by omega
      simp [isNameB, this]
  · refine ⟨_, rfl, iteT (iteT (no ?_))⟩
    have : ¬ 1 ≤ x.length := fun h => c1 (decide_eq_true (by omega))
    simp [isNameB, this]
end
end K03
set_option Elab.async false
set_option linter.all false
set_option maxRecDepth 100000
set_option maxHeartbeats 4000000
namespace K03
open PySem L2 LG
section
variable {P : Program} {w : World} {K : PySem.W.Frag} {mg : Str → Option Value} {base : Heap}
def spNames (K : PySem.W.Frag) : Sp := fun vs H Q _ => ∃ (l h : Str) (a b : Int), vs = [.str l, .str h, .int a, .int b] ∧ l.length ≤ 3000 ∧ ∀ (p : Addr) (H' : Hp), Same H H' → SqT K H' p ((namesIn l h a b).map V.str) → Q (.ref p) H'
abbrev nN : List Str := ["line", "head", "fewest", "most", "words", "names", "name"]
theorem scNames : FnScope nN ["line", "head", "fewest", "most"] (defScope sNamesIn) := ⟨rfl, rfl, rfl, by decide +kernel, rfl, by decide +kernel, by decide +kernel⟩
theorem cut_tail (ws : List Str) : cutV (ws.map V.str) (some 1) none = ws.tail.map V.str := by
  rw [show (1 : Int) = ((1 : Nat) : Int) from rfl, cut_from, List.drop_one, List.map_tail]
theorem names_bits (ns : List Str) : (List.range ns.length).map (fun i => V.bl (isNameB (ns.getD i Str.empty))) = (ns.map isNameB).map V.bl := by
  apply List.ext_getElem
  · simp
  · intro k h1 h2
    have hk : k < ns.length := by simpa using h1
    simp [List.getD, hk]
theorem ok_names {f g : Addr} {fd gd : FuncData} (F : Fun K "names_in" "names_in" sNamesIn f fd) (T : Bltn mg) (G : FnOk P w K mg base CX0 1 g gd ["word"] spName) (mG : mg "is_name" = some (.ref g)) (kG : PySem.W.keepIn K (.ref g) = true) (bG : Binds K gd ["word"] []) :
    FnOk P w K mg base CX0 2 f fd ["line", "head", "fewest", "most"] (spNames K) := by
  refine F.ok scNames (fun vs H Q E h => ?_) (fun cdv A outer s H vs Q E hr h => ?_)
  · obtain ⟨l, h, a, b, rfl, _⟩ := h
    rfl
  obtain ⟨l, h, a, b, rfl, hl, q⟩ := h
  refine ⟨_, pss_cons (ps_set (i := 4) scNames.nd rfl (Or.inl rfl) (pe_split (pv 0) pe_str))
    (pss_cons (ps_set (i := 5) scNames.nd rfl (Or.inl rfl) (pe_slice sl_list (pv 4) (po_some pe_int) po_none))
    (pss_cons (ps_if (PW.pt (pw_or (pt_cmpR op_ne (pe_ix ix_list (pv 4) pe_int (fun _ _ => rfl)) (pv 1) (nomark _)) (pw_or1 (pt_not (pt_chain op_le op_le (pv 2) (pe_callB call_len_seq rfl T.len PySem.boot_len (pa_cons (pv 5) pa_nil)) (pv 3))))))
      (pss_one (ps_ret (pe_tup pa_nil))) pss_nil)
    (pss_cons (ps_if (PW.pt (pw_or (pt_cmpR op_lt (pe_lenSetS rfl T.len rfl T.set (pv 5)) (pe_callB call_len_seq rfl T.len PySem.boot_len (pa_cons (pv 5) pa_nil)) (nomark _))
        (pw_or1 (pt_not (pt_val (pe_callB (cr_all rfl) rfl T.all (by decide +kernel) (pa_cons (pe_lc (own := [("name", 6)]) (g := gName 6) (tt := tYes) rfl scNames.nd (pi_list (pv 5)) (blkOk_by (own := [("name", 6)]) (N := nN) (sc := defScope sNamesIn) (by decide +kernel))
          (fun _ _ _ _ _ => pg_name (i := 6) scNames.nd rfl (Or.inl rfl)) (fun _ _ _ _ _ => pts_nil)
          (fun _ _ _ _ _ => pe_call G hr rfl mG kG bG .nil pass0 (pa_cons (pv 6) pa_nil))) pa_nil)))))))
      (pss_one (ps_ret (pe_tup pa_nil))) pss_nil)
    (pss_one (ps_ret (pe_callTy call_tuple_of rfl T.tuple (by decide +kernel) (pa_cons (pv 5) pa_nil))))))), ?_⟩
  refine ⟨_, rfl, ⟨_, rfl⟩, l, sp1, rfl, rfl, rfl, ?_, fun p np => ?_⟩
  · rw [sizeLine_eq]
    omega
  obtain ⟨wb1, wb2⟩ := words_bounds l
  have wne := words_some l
  generalize hws : Txt.split l sp1 = ws at wb1 wb2 wne
  have hp : (upd H p (.lst (ws.map V.str))) p = some (.lst (ws.map V.str)) := upd_same
  have s1 := same_new np (.lst (ws.map V.str))
  generalize upd H p (.lst (ws.map V.str)) = H1 at hp s1 ⊢
  refine ⟨_, rfl, 1, rfl, p, _, rfl, SqL.of hp, fun p2 np2 => ?_⟩
  rw [cut_tail]
  have hp2 : (upd H1 p2 (.lst (ws.tail.map V.str))) p2 = some (.lst (ws.tail.map V.str)) := upd_same
  have s2 := s1.trans (same_new np2 (.lst (ws.tail.map V.str)))
  have hp' := same_new np2 (.lst (ws.tail.map V.str)) _ _ hp
  generalize upd H1 p2 (.lst (ws.tail.map V.str)) = H2 at hp2 s2 hp' ⊢
  have hlen : (ws.tail.map V.str).length = ws.tail.length := List.length_map _
  have tl3 : ws.tail.length ≤ 3001 := by
    rw [List.length_tail]
    omega
  have h0 : atI (ws.map V.str) ((0 : Nat) : Int) = some (.str (ws.headD Str.empty)) := by
    cases ws with
    | nil => exact absurd rfl wne
    | cons x r => exact atI_nat (by simp)
  have bad : LG.namesIn l h a b = [] → ∀ G, Same H2 G → ∀ t, G t = none → Q (.ref t) (upd G t (.tup [])) := by
    intro e G sG t nt
    refine q t _ ((s2.trans sG).trans (same_new nt _)) ?_
    rw [e]
    exact .inl (.inl upd_same)
  have hN : LG.namesIn l h a b = if ws.headD Str.empty ≠ h ∨ ¬ (a ≤ (ws.tail.length : Int) ∧ (ws.tail.length : Int) ≤ b) then [] else if (uniq ws.tail).length < ws.tail.length ∨ ¬ (ws.tail.all isNameB = true) then [] else ws.tail := by
    unfold LG.namesIn
    rw [hws]
  generalize ws.headD Str.empty = hd at h0 hN
  refine ⟨_, rfl, p, _, _, _, rfl, rfl, SqL.of hp', h0, _, rfl, rfl, _, rfl, ?_⟩
  refine ite2 (fun c1 => ?_) (fun c1 => ?_)
  · refine ⟨(by show 0 ≤ sizeLine; decide), fun t nt => bad ?_ _ (Same.refl _) t nt⟩
    rw [hN, if_pos]
    left
    intro e
    rw [e] at c1
    simp at c1
  have hh : hd = h := Classical.byContradiction fun ne => c1 (by simp [ne])
  refine ⟨_, rfl, _, rfl, p2, _, rfl, .inl (SqL.of hp2), _, _, rfl, rfl, _, rfl, ?_⟩
  rw [hlen]
  have good : (a ≤ (ws.tail.length : Int) ∧ (ws.tail.length : Int) ≤ b) → LG.namesIn l h a b = if (uniq ws.tail).length < ws.tail.length ∨ ¬ (ws.tail.all isNameB = true) then [] else ws.tail := fun c => by
    rw [hN, if_neg]
    rintro (e | e)
    · exact e hh
    · exact e c
  have worse : ¬ (a ≤ (ws.tail.length : Int) ∧ (ws.tail.length : Int) ≤ b) → LG.namesIn l h a b = [] := fun c => by
    rw [hN, if_pos (.inr c)]
  refine ite2 (fun c2 => ?_) (fun c2 => ?_)
  · refine ⟨_, rfl, _, _, rfl, rfl, _, rfl, ?_⟩
    by_cases c3 : (ws.tail.length : Int) ≤ b
    · rw [decide_eq_true c3]
      refine iteF ?_
      have gd2 := good ⟨of_decide_eq_true c2, c3⟩
      clear good worse
      refine ⟨_, rfl, p2, ws.tail, rfl, SqL.of hp2, by omega, _, rfl, p2, _, rfl, .inl (SqL.of hp2), _, _, rfl, rfl, _, rfl, ?_⟩
      rw [hlen]
      refine ite2 (fun c4 => ?_) (fun c4 => ?_)
      · refine ⟨(by show 0 ≤ sizeLine; decide), fun t nt => bad ?_ _ (Same.refl _) t nt⟩
        rw [gd2, if_pos]
        left
        have := of_decide_eq_true c4
        omega
      have c4' : ¬ (uniq ws.tail).length < ws.tail.length := fun z => c4 (decide_eq_true (by omega))
      refine ⟨_, rfl, p2, rfl, ⟨_, SqL.of hp2⟩, fun D nD => ?_⟩
      refine lc_all walk_list nD (fun i => V.bl (isNameB (ws.tail.getD i Str.empty))) ?_ (fun G sG => SqL.of (sG _ _ hp2)) ?_ ?_
      · rw [hlen, sizeLine_eq]
        omega
      · rintro i x G G' Kt hi sG ⟨rfl, hx⟩ hK
        rw [hlen] at hi
        rw [List.getElem?_map, List.getElem?_eq_getElem hi] at hx
        have ex : x = .str ws.tail[i] := (Option.some.inj hx).symm
        subst ex
        refine ⟨rfl, _, rfl, _, rfl, ?_, fun G4 s4 => ?_⟩
        · have := wb1 _ (List.mem_of_mem_tail (List.getElem_mem hi))
          omega
        · have := hK G4 s4
          rw [List.getD_eq_getElem?_getD, List.getElem?_eq_getElem hi] at this
          exact this
      · intro G sG hD
        rw [hlen, names_bits] at hD
        refine ⟨D, _, rfl, SqL.of hD, _, rfl, ?_⟩
        have ea : (ws.tail.map isNameB).all id = ws.tail.all isNameB := by
          rw [List.all_map]
          rfl
        rw [ea]
        by_cases c5 : ws.tail.all isNameB = true
        · rw [c5]
          refine iteF ⟨_, rfl, p2, _, rfl, .inl ⟨SqL.of (sG _ _ hp2), fun t nt => q t _ ((s2.trans sG).trans (same_new nt _)) ?_⟩⟩
          rw [gd2, if_neg (by rintro (z | z); exact c4' z; exact z c5)]
          exact .inl (.inl upd_same)
        · have c5' : ws.tail.all isNameB = false := by simpa using c5
          rw [c5']
          refine iteT ⟨(by show 0 ≤ sizeLine; decide), fun t nt => bad ?_ _ sG t nt⟩
          rw [gd2, if_pos (.inr c5)]
    · rw [decide_eq_false c3]
      refine iteT ⟨(by show 0 ≤ sizeLine; decide), fun t nt => bad (worse fun z => c3 z.2) _ (Same.refl _) t nt⟩
  · refine ⟨_, rfl, iteT ⟨(by show 0 ≤ sizeLine; decide), fun t nt => bad (worse fun z => c2 (decide_eq_true z.1)) _ (Same.refl _) t nt⟩⟩
end
end K03
set_option Elab.async false
set_option linter.all false
set_option maxRecDepth 100000
set_option maxHeartbeats 4000000
namespace LG
open PySem L2
/-- texts' tuples -/
def TxtT (K : PySem.W.Frag) (H : Hp) (v : V) (ns : List Str) : Prop := ∃ t, v = .ref t ∧ SqT K H t (ns.map V.str)
theorem TxtT.same {K : PySem.W.Frag} {H H' : Hp} {v : V} {ns : List Str} (e : Same H H') (h : TxtT K H v ns) : TxtT K H' v ns := by
  obtain ⟨t, h1, h2⟩ := h
  exact ⟨t, h1, same_tup e h2⟩
theorem tup_lst {K : PySem.W.Frag} {H : Hp} {p t : Addr} {xs ys zs : List V} (h : H p = some (.lst xs)) (q : SqT K H t zs) : SqT K (upd H p (.lst ys)) t zs := by
  rcases q with (q | ⟨o, q⟩) | q
  · exact .inl (.inl (by rw [upd_ne (fun z => by rw [z, h] at q; cases q)]; exact q))
  · exact .inl (.inr ⟨o, by rw [upd_ne (fun z => by rw [z, h] at q; cases q)]; exact q⟩)
  · exact .inr q
theorem TxtT.lst {K : PySem.W.Frag} {H : Hp} {p : Addr} {xs ys : List V} {v : V} {ns : List Str} (hp : H p = some (.lst xs)) (h : TxtT K H v ns) : TxtT K (upd H p (.lst ys)) v ns := by
  obtain ⟨t, h1, h2⟩ := h
  exact ⟨t, h1, tup_lst hp h2⟩
inductive TxtTs (K : PySem.W.Frag) (H : Hp) : List V → List (List Str) → Prop
  | nil : TxtTs K H [] []
  | cons {v : V} {ns : List Str} {vs : List V} {nss : List (List Str)} : TxtT K H v ns → TxtTs K H vs nss → TxtTs K H (v :: vs) (ns :: nss)
theorem TxtTs.same {K : PySem.W.Frag} {H H' : Hp} {vs : List V} {nss : List (List Str)} (e : Same H H') (h : TxtTs K H vs nss) : TxtTs K H' vs nss := by
  induction h with
  | nil => exact .nil
  | cons a _ ih => exact .cons (a.same e) ih
theorem TxtTs.snoc {K : PySem.W.Frag} {H : Hp} {vs : List V} {nss : List (List Str)} {v : V} {ns : List Str} (h : TxtTs K H vs nss) (a : TxtT K H v ns) : TxtTs K H (vs ++ [v]) (nss ++ [ns]) := by
  induction h with
  | nil => exact .cons a .nil
  | cons b _ ih => exact .cons b ih
theorem TxtTs.lst {K : PySem.W.Frag} {H : Hp} {p : Addr} {xs ys : List V} {vs : List V} {nss : List (List Str)} (h : TxtTs K H vs nss) (hp : H p = some (.lst xs)) : TxtTs K (upd H p (.lst ys)) vs nss := by
  induction h with
  | nil => exact .nil
  | cons a _ ih => exact .cons (a.lst hp) ih
theorem TxtTs.len {K : PySem.W.Frag} {H : Hp} {vs : List V} {nss : List (List Str)} (h : TxtTs K H vs nss) : vs.length = nss.length := by
  induction h with
  | nil => rfl
  | cons _ _ ih => rw [List.length_cons, List.length_cons, ih]
/-- the written table of the first lines -/
structure HeadsAt (K : PySem.W.Frag) (a : Addr) : Prop where
  ex : ∃ a0 a1 a2 : Addr, (∀ H, SqT K H a [.ref a0, .ref a1, .ref a2]) ∧ (∀ H, SqT K H a0 [.str "calls", .int 1, .int 3]) ∧ (∀ H, SqT K H a1 [.str "answers", .int 2, .int 3]) ∧ (∀ H, SqT K H a2 [.str "states", .int 1, .int 4])
theorem HeadsAt.at {K : PySem.W.Frag} {a : Addr} (h : HeadsAt K a) : ∃ hs : List Addr, hs.length = 3 ∧ (∀ H, SqT K H a (hs.map V.ref)) ∧ ∀ (i : Nat) (b : Addr), hs[i]? = some b → ∃ t, headsL[i]? = some t ∧ ∀ H, SqT K H b [.str t.1, .int t.2.1, .int t.2.2] := by
  obtain ⟨a0, a1, a2, h1, h2, h3, h4⟩ := h.ex
  refine ⟨[a0, a1, a2], rfl, h1, fun i b e => ?_⟩
  match i, e with
  | 0, e => cases e; exact ⟨_, rfl, h2⟩
  | 1, e => cases e; exact ⟨_, rfl, h3⟩
  | 2, e => cases e; exact ⟨_, rfl, h4⟩
  | n + 3, e => simp at e
theorem readHeads_bad {lines : List Str} {i : Nat} (hi : i < 3) (ok : ∀ j, j < i → headAt lines j ≠ []) (bad : headAt lines i = []) : readHeads lines = ((List.range i).map (headAt lines), i + 1) := by
  unfold readHeads
  match i, hi with
  | 0, _ => rw [if_pos bad]; rfl
  | 1, _ => rw [if_neg (ok 0 (by omega)), if_pos bad]; rfl
  | 2, _ => rw [if_neg (ok 0 (by omega)), if_neg (ok 1 (by omega)), if_pos bad]; rfl
theorem readHeads_ok {lines : List Str} (ok : ∀ j, j < 3 → headAt lines j ≠ []) : readHeads lines = ((List.range 3).map (headAt lines), 0) := by
  unfold readHeads
  rw [if_neg (ok 0 (by omega)), if_neg (ok 1 (by omega)), if_neg (ok 2 (by omega))]
  rfl
end LG
namespace K03
open PySem L2 LG
section
variable {P : Program} {w : World} {K : PySem.W.Frag} {mg : Str → Option Value} {base : Heap}
def spHeads (K : PySem.W.Frag) : Sp := fun vs H Q _ => ∃ (l hA : Addr) (lines : List Str), vs = [.ref l, .ref hA] ∧ HeadsAt K hA ∧ SqL K H l (lines.map V.str) ∧ (∀ t ∈ lines, t.length ≤ 3000) ∧ lines.length ≤ 4000 ∧
  ∀ (p q : Addr) (xs : List V) (H' : Hp), Same H H' → H q = none → SqT K H' p [.ref q, .int ((readHeads lines).2 : Nat)] → H' q = some (.lst xs) → TxtTs K H' xs (readHeads lines).1 → Q (.ref p) H'
abbrev nH : List Str := ["lines", "heads", "read", "at", "head", "fewest", "most", "names"]
theorem scHeads : FnScope nH ["lines", "heads"] (defScope sReadHeads) := ⟨rfl, rfl, rfl, by decide +kernel, rfl, by decide +kernel, by decide +kernel⟩
theorem ok_heads {f g : Addr} {fd gd : FuncData} (F : Fun K "read_heads" "read_heads" sReadHeads f fd) (T : Bltn mg) (G : FnOk P w K mg base CX0 2 g gd ["line", "head", "fewest", "most"] (spNames K)) (mG : mg "names_in" = some (.ref g)) (kG : PySem.W.keepIn K (.ref g) = true) (bG : Binds K gd ["line", "head", "fewest", "most"] []) :
    FnOk P w K mg base CX0 3 f fd ["lines", "heads"] (spHeads K) := by
  refine F.ok scHeads (fun vs H Q E h => ?_) (fun cdv A outer s H vs Q E hr h => ?_)
  · obtain ⟨l, hA, lines, rfl, _⟩ := h
    rfl
  obtain ⟨l, hA, lines, rfl, hA3, hl, hb, hn, q⟩ := h
  refine ⟨_, pss_cons (ps_set (i := 2) scHeads.nd rfl (Or.inl rfl) (pe_lst pa_nil))
    (pss_cons (ps_for PassesOwn.never rfl (pi_enumT rfl T.enumerate (pa_cons (pv 1) pa_nil))
        (pg_tup rfl (pgs_cons (pg_name (i := 3) scHeads.nd rfl (Or.inl rfl)) (pgs_cons (pg_tup rfl (pgs_cons (pg_name (i := 4) scHeads.nd rfl (Or.inl rfl)) (pgs_cons (pg_name (i := 5) scHeads.nd rfl (Or.inl rfl)) (pgs_cons (pg_name (i := 6) scHeads.nd rfl (Or.inl rfl)) pgs_nil)))) pgs_nil)))
      (pss_cons (ps_set (i := 7) scHeads.nd rfl (Or.inl rfl) (pe_ifExp (pt_cmpR op_lt (pv 3) (pe_callB call_len_seq rfl T.len PySem.boot_len (pa_cons (pv 0) pa_nil)) (nomark _))
          (pe_call G hr rfl mG kG bG .nil pass0 (pa_cons (pe_ix ix_list (pv 0) (pv 3) (fun _ _ => rfl)) (pa_cons (pv 4) (pa_cons (pv 5) (pa_cons (pv 6) pa_nil))))) (pe_tup pa_nil)))
      (pss_cons (ps_if (pt_not (pt_truth (pv 7) (by intro _; rfl))) (pss_one (ps_ret (pe_tup (pa_cons (pv 2) (pa_cons (pe_op op_add (pv 3) pe_int) pa_nil))))) pss_nil)
      (pss_one (ps_expr (pe_bm PySem.F.plainAttrs_list PySem.F.slot_list_append PySem.F.type_list_append mt_append (pv 2) (pa_cons (pv 7) pa_nil)))))))
    (pss_one (ps_ret (pe_tup (pa_cons (pv 2) (pa_cons pe_int pa_nil)))))), ?_⟩
  obtain ⟨hs, hs3, hsT, hsI⟩ := hA3.at
  refine ⟨(by show 0 ≤ sizeLine; decide), fun p np => ?_⟩
  have hp : (upd H p (.lst [])) p = some (.lst []) := upd_same
  have s1 := same_new np (.lst [])
  show _
  generalize upd H p (.lst []) = H1 at hp s1 ⊢
  refine ⟨_, rfl, hA, _, rfl, hsT H1, ?_⟩
  refine for_enumT (xs := hs.map V.ref) (fun i σ G => ∃ x3 x4 x5 x6 x7 xs, σ = [some (.ref l), some (.ref hA), some (.ref p), x3, x4, x5, x6, x7] ∧ Same H G ∧ G p = some (.lst xs) ∧ TxtTs K G xs ((List.range i).map (headAt lines)) ∧ ∀ j, j < i → headAt lines j ≠ [])
    ⟨_, _, _, _, _, [], rfl, s1, hp, .nil, fun j hj => absurd hj (by omega)⟩ (fun i σ G _ => hsT G) ?_ ?_
  · rintro i x T1 σ G hx ⟨x3, x4, x5, x6, x7, xs, rfl, sG, hG, tG, okG⟩ nT
    have hi : i < hs.length := by
      have := (List.getElem?_eq_some_iff.mp hx).1
      simpa using this
    rw [List.getElem?_map, List.getElem?_eq_getElem hi] at hx
    have ex : x = .ref hs[i] := (Option.some.inj hx).symm
    subst ex
    obtain ⟨⟨hd, fw, ms⟩, et, hb3⟩ := hsI i hs[i] (List.getElem?_eq_getElem hi)
    have sT := same_new nT (.tup [.int (i : Nat), .ref hs[i]])
    have hT : (upd G T1 (.tup [.int (i : Nat), .ref hs[i]])) T1 = some (.tup [.int (i : Nat), .ref hs[i]]) := upd_same
    show _
    generalize upd G T1 (.tup [.int (i : Nat), .ref hs[i]]) = G1 at sT hT ⊢
    refine ⟨T1, _, rfl, .inl (.inl hT), rfl, _, _, rfl, _, _, rfl, ⟨hs[i], _, rfl, hb3 G1, rfl, _, _, rfl, _, _, rfl, _, _, rfl, rfl, ?_⟩⟩
    have sG1 := sG.trans sT
    have lG1 : SqL K G1 l (lines.map V.str) := sG1.seq hl
    have hG1 := sT _ _ hG
    have tG1 := tG.same sT
    have i3 : i < 3 := by omega
    refine ⟨rfl, _, rfl, _, rfl, l, _, rfl, .inl lG1, _, _, rfl, rfl, _, rfl, ?_⟩
    rw [List.length_map]
    refine ite2 (fun c1 => ?_) (fun c1 => ?_)
    · have c1' : i < lines.length := by
        have := of_decide_eq_true c1
        omega
      refine ⟨_, rfl, _, rfl, l, _, _, _, rfl, rfl, lG1, atI_nat (by rw [List.getElem?_map, List.getElem?_eq_getElem c1']; rfl), _, rfl, _, rfl, _, rfl, lines[i], hd, fw, ms, rfl, hb _ (List.getElem_mem c1'), fun t G2 s2 ht => ?_⟩
      have eh : headAt lines i = LG.namesIn lines[i] hd fw ms := by
        unfold headAt
        rw [et, List.getElem?_eq_getElem c1']
      rw [← eh] at ht
      have hG2 := s2 _ _ hG1
      have tG2 := tG1.same s2
      have sG2 := sG1.trans s2
      by_cases e0 : headAt lines i = []
      · rw [e0] at ht
        refine ⟨_, rfl, false, .inr (.inl ⟨[], ht, rfl⟩), iteT ⟨_, rfl, _, rfl, _, _, rfl, rfl, (by show 2 ≤ sizeLine; decide), fun t2 n2 => ?_⟩⟩
        have s3 := same_new n2 (.tup [.ref p, .int ((i : Nat) + 1 : Int)])
        refine q t2 p xs _ (sG2.trans s3) np ?_ (s3 _ _ hG2) ?_
        · rw [readHeads_bad i3 okG e0]
          exact .inl (.inl upd_same)
        · rw [readHeads_bad i3 okG e0]
          exact tG2.same s3
      · obtain ⟨n0, nr, en⟩ : ∃ n0 nr, headAt lines i = n0 :: nr := by
          cases hh : headAt lines i with
          | nil => exact absurd hh e0
          | cons a b => exact ⟨a, b, rfl⟩
        have lx := tG2.len
        rw [List.length_map, List.length_range] at lx
        refine ⟨_, rfl, true, .inr (.inl ⟨_, ht, ?_⟩), iteF ⟨_, rfl, .inl ⟨rfl, _, SqL.of hG2⟩, _, rfl, p, _, _, rfl, rfl, hG2, ?_, ?_⟩⟩
        · rw [en]
          rfl
        · rw [lx, sizeLine_eq]
          omega
        · refine ⟨_, _, _, _, _, xs ++ [.ref t], rfl, fun b o e => ?_, upd_same, ?_, fun j hj => ?_⟩
          · rw [upd_ne (ne_of_none e np)]
            exact sG2 _ _ e
          · rw [List.range_succ, List.map_append]
            exact (tG2.lst hG2).snoc ⟨t, rfl, tup_lst hG2 ht⟩
          · by_cases ej : j = i
            · rw [ej]
              exact e0
            · exact okG j (by omega)
    · have e0 : headAt lines i = [] := by
        have : lines[i]? = none := by
          rw [List.getElem?_eq_none_iff]
          have : ¬ ((i : Int) < (lines.length : Int)) := fun z => c1 (decide_eq_true z)
          omega
        unfold headAt
        rw [this]
        cases headsL[i]? <;> rfl
      refine ⟨(by show 0 ≤ sizeLine; decide), fun t nt => ?_⟩
      have s2 := same_new nt (.tup [])
      have ht : (upd G1 t (.tup [])) t = some (.tup []) := upd_same
      show _
      generalize upd G1 t (.tup []) = G2 at s2 ht ⊢
      refine ⟨_, rfl, false, .inr (.inl ⟨[], .inl (.inl ht), rfl⟩), iteT ⟨_, rfl, _, rfl, _, _, rfl, rfl, (by show 2 ≤ sizeLine; decide), fun t2 n2 => ?_⟩⟩
      have s3 := same_new n2 (.tup [.ref p, .int ((i : Nat) + 1 : Int)])
      refine q t2 p xs _ ((sG1.trans s2).trans s3) np ?_ (s3 _ _ (s2 _ _ hG1)) ?_
      · rw [readHeads_bad i3 okG e0]
        exact .inl (.inl upd_same)
      · rw [readHeads_bad i3 okG e0]
        exact (tG1.same s2).same s3
  · rintro σ G ⟨x3, x4, x5, x6, x7, xs, rfl, sG, hG, tG, okG⟩
    rw [List.length_map, hs3] at tG okG
    refine ⟨_, rfl, (by show 2 ≤ sizeLine; decide), fun t2 n2 => ?_⟩
    have s3 := same_new n2 (.tup [.ref p, .int 0])
    refine q t2 p xs _ (sG.trans s3) np ?_ (s3 _ _ hG) ?_
    · rw [readHeads_ok okG]
      exact .inl (.inl upd_same)
    · rw [readHeads_ok okG]
      exact tG.same s3
end
end K03
set_option Elab.async false
set_option linter.all false
set_option maxRecDepth 100000
set_option maxHeartbeats 4000000
namespace LG
open PySem L2
theorem inV_str (x : Str) (ns : List Str) : inV (.str x) (ns.map V.str) = ns.contains x := by
  unfold inV
  rw [List.any_map, List.contains_eq_any_beq]
  congr 1
  funext y
  show (y == x) = (x == y)
  by_cases h : y = x
  · rw [h]
  · have h1 : (y == x) = false := by simpa using h
    have h2 : (x == y) = false := by simpa using fun z : x = y => h z.symm
    rw [h1, h2]
theorem iteC {c : Bool} {A B : Prop} (hc : c = true) (h : A) : if c = true then A else B := by
  rw [if_pos hc]
  exact h
theorem iteN {c : Bool} {A B : Prop} (hc : c = false) (h : B) : if c = true then A else B := by
  rw [hc]
  exact iteF h
theorem flat_txt (ns : List Str) : (ns.map V.str).all flatV = true := by
  rw [List.all_eq_true]
  intro y hy
  obtain ⟨_, _, rfl⟩ := List.mem_map.mp hy
  rfl
/-- x in texts, x a text -/
def rInTxt (K : PySem.W.Frag) : R2 := fun x y H Q => ∃ (z : Str) (p : Addr) (ns : List Str), x = .str z ∧ y = .ref p ∧ (SqL K H p (ns.map V.str) ∨ SqT K H p (ns.map V.str)) ∧ Q (.bl (ns.contains z)) H
theorem op_in_txt {X : Cx} : OpR X (compareOp .In) (rInTxt X.K) := by
  intro pins s σ H x y v u Q I rx ry h
  obtain ⟨z, p, ns, rfl, rfl, hq, q⟩ := h
  refine op_in_seq pins s σ H _ _ v u Q I rx ry ⟨p, _, rfl, hq, rfl, flat_txt ns, ?_⟩
  rw [inV_str]
  exact q
/-- a text, or of a type that is no text's -/
def StrOr (K : PySem.W.Frag) (H : Hp) (v : V) : Prop := (∃ x, v = .str x) ∨ ∃ t, TyX K H v t ∧ PySem.W.kitOne K t (.type "str") = some false ∧ ∀ x, v ≠ .str x
def amongB (v : V) (ns : List Str) : Bool := match v with
  | .str x => ns.contains x
  | _ => false
theorem among_not {v : V} {ns : List Str} (h : ∀ x, v ≠ .str x) : amongB v ns = false := by
  cases v with
  | str x => exact absurd rfl (h x)
  | _ => rfl
end LG
namespace K03
open PySem L2 LG
section
variable {P : Program} {w : World} {K : PySem.W.Frag} {mg : Str → Option Value} {base : Heap}
def spAmong (K : PySem.W.Frag) : Sp := fun vs H Q _ => ∃ (v : V) (t : Addr) (ns : List Str), vs = [v, .ref t] ∧ StrOr K H v ∧ (SqL K H t (ns.map V.str) ∨ SqT K H t (ns.map V.str)) ∧ Q (.bl (amongB v ns)) H
theorem scAmong : FnScope ["value", "names"] ["value", "names"] (defScope sIsAmong) := ⟨rfl, rfl, rfl, by decide +kernel, rfl, by decide +kernel, by decide +kernel⟩
theorem ok_among {f : Addr} {fd : FuncData} (F : Fun K "is_among" "is_among" sIsAmong f fd) (T : Bltn mg) : FnOk P w K mg base CX0 1 f fd ["value", "names"] (spAmong K) := by
  refine F.ok scAmong (fun vs H Q E h => ?_) (fun cdv A outer s H vs Q E hr h => ?_)
  · obtain ⟨v, t, ns, rfl, _⟩ := h
    rfl
  obtain ⟨v, t, ns, rfl, ty, hq, q⟩ := h
  refine ⟨_, pss_one (ps_ret (pe_and (pe_callB call_isi rfl T.isinstance (by decide +kernel) (pa_cons (pv 0) (pa_cons (pe_bltn (v := .ty "str") (u := .type "str") rfl T.str (by decide +kernel) rfl) pa_nil))) (pe_one (pe_cmpR op_in_txt (pv 0) (pv 1) (by rfl))))), ?_⟩
  rcases ty with ⟨x, rfl⟩ | ⟨tv, ty, k, no⟩
  · refine ⟨_, rfl, .str x, .ty "str", .type "str", .type "str", true, rfl, .ty _, .base (.str x), if_pos (beq_self_eq_true _), _, rfl, iteT ⟨_, rfl, _, rfl, x, t, ns, rfl, rfl, hq, q⟩⟩
  · refine ⟨_, rfl, v, .ty "str", tv, .type "str", false, rfl, .ty _, ty, k, _, rfl, iteF ?_⟩
    rw [among_not no] at q
    exact q
def spLine (K : PySem.W.Frag) : Sp := fun vs H Q _ => ∃ (l c a s : Addr) (ws C A S : List Str), vs = [.ref l, .ref c, .ref a, .ref s] ∧ SqL K H l (ws.map V.str) ∧ SqT K H c (C.map V.str) ∧ SqT K H a (A.map V.str) ∧ SqT K H s (S.map V.str) ∧ Q (.bl (isLine ws C A S)) H
theorem scLine : FnScope ["words", "calls", "answers", "states"] ["words", "calls", "answers", "states"] (defScope sIsLine) := ⟨rfl, rfl, rfl, by decide +kernel, rfl, by decide +kernel, by decide +kernel⟩
theorem ok_line {f : Addr} {fd : FuncData} (F : Fun K "is_line_of_row" "is_line_of_row" sIsLine f fd) (T : Bltn mg) : FnOk P w K mg base CX0 1 f fd ["words", "calls", "answers", "states"] (spLine K) := by
  refine F.ok scLine (fun vs H Q E h => ?_) (fun cdv A0 outer st H vs Q E hr h => ?_)
  · obtain ⟨l, c, a, s, ws, C, A, S, rfl, _⟩ := h
    rfl
  obtain ⟨l, c, a, s, ws, C, A, S, rfl, hl, hc, ha, hs, q⟩ := h
  refine ⟨_, pss_cons (ps_if (PW.pt (pw_or (pt_cmpR op_ne (pe_callB call_len_seq rfl T.len PySem.boot_len (pa_cons (pv 0) pa_nil)) pe_int (nomark _)) (pw_or1 (pt_cmpR op_ne (pe_ix ix_list (pv 0) pe_int (fun _ _ => rfl)) pe_str (nomark _)))))
      (pss_one (ps_ret pe_bl)) pss_nil)
    (pss_one (ps_ret (pe_and (pe_cmpR op_in_txt (pe_ix ix_list (pv 0) pe_int (fun _ _ => rfl)) (pv 3) (by rfl)) (pe_and (pe_cmpR op_in_txt (pe_ix ix_list (pv 0) pe_int (fun _ _ => rfl)) (pv 1) (by rfl))
      (pe_and (pe_cmpR op_in_txt (pe_ix ix_list (pv 0) pe_int (fun _ _ => rfl)) (pv 2) (by rfl)) (pe_one (pe_cmpR op_in_txt (pe_ix ix_list (pv 0) pe_int (fun _ _ => rfl)) (pv 3) (by rfl)))))))), ?_⟩
  refine ⟨_, rfl, l, _, rfl, .inl hl, rfl, _, rfl, ?_⟩
  rw [List.length_map]
  by_cases h5 : ws.length = 5
  · obtain ⟨x0, x1, x2, x3, x4, rfl⟩ : ∃ x0 x1 x2 x3 x4, ws = [x0, x1, x2, x3, x4] := by
      match ws, h5 with
      | [x0, x1, x2, x3, x4], _ => exact ⟨_, _, _, _, _, rfl⟩
    refine iteF ⟨_, rfl, l, _, _, _, rfl, rfl, hl, atI_nat (j := 0) rfl, rfl, _, rfl, ?_⟩
    have e : isLine [x0, x1, x2, x3, x4] C A S = (decide (x0 = "row") && (S.contains x1 && (C.contains x2 && (A.contains x3 && S.contains x4)))) := rfl
    rw [e] at q
    have i1 : atI ([x0, x1, x2, x3, x4].map V.str) 1 = some (.str x1) := rfl
    have i2 : atI ([x0, x1, x2, x3, x4].map V.str) 2 = some (.str x2) := rfl
    have i3 : atI ([x0, x1, x2, x3, x4].map V.str) 3 = some (.str x3) := rfl
    have i4 : atI ([x0, x1, x2, x3, x4].map V.str) 4 = some (.str x4) := rfl
    by_cases h0 : x0 = "row"
    · rw [decide_eq_true h0, Bool.true_and] at q
      subst h0
      refine iteF ⟨_, rfl, l, _, _, _, rfl, rfl, hl, i1, _, rfl, _, s, S, rfl, rfl, .inr hs, _, rfl, ?_⟩
      cases e1 : S.contains x1 with
      | false =>
        rw [e1] at q
        exact iteF q
      | true =>
        rw [e1, Bool.true_and] at q
        refine iteT ⟨_, rfl, l, _, _, _, rfl, rfl, hl, i2, _, rfl, _, c, C, rfl, rfl, .inr hc, _, rfl, ?_⟩
        cases e2 : C.contains x2 with
        | false =>
          rw [e2] at q
          exact iteF q
        | true =>
          rw [e2, Bool.true_and] at q
          refine iteT ⟨_, rfl, l, _, _, _, rfl, rfl, hl, i3, _, rfl, _, a, A, rfl, rfl, .inr ha, _, rfl, ?_⟩
          cases e3 : A.contains x3 with
          | false =>
            rw [e3] at q
            exact iteF q
          | true =>
            rw [e3, Bool.true_and] at q
            exact iteT ⟨_, rfl, l, _, _, _, rfl, rfl, hl, i4, _, rfl, _, s, S, rfl, rfl, .inr hs, q⟩
    · rw [decide_eq_false h0, Bool.false_and] at q
      have ne : (!decide ((V.str x0) = V.str "row")) = true := by simp [h0]
      exact iteC ne q
  · have e : isLine ws C A S = false := by
      unfold isLine
      split
      · rename_i r s c a g
        exact absurd rfl h5
      · rfl
    rw [e] at q
    have ne : (!decide (V.int (ws.length : Nat) = V.int 5)) = true := by
      have : ¬ ((ws.length : Int) = 5) := by omega
      simp [this]
    exact iteC ne (iteT q)
end
end K03
set_option Elab.async false
set_option linter.all false
set_option maxRecDepth 100000
set_option maxHeartbeats 4000000
namespace LG
open PySem L2
/-! ### errors that keep one value, raised -/
def vf (v : V) : List (Str × V) := [(("value" : Str), v)]
theorem vf_get (v : V) : (vf v).lookup ("value" : Str) = some v := by
  unfold vf
  simp [List.lookup]
def spInit (K : PySem.W.Frag) : Sp := fun vs H Q _ => ∃ (a C : Addr) (v : V), vs = [.ref a, v] ∧ OexC K C ∧ PySem.W.findIn K (.ref C) "value" = some none ∧ H a = some (exo a C none) ∧
  ∀ d, H d = none → d ≠ a → Q .non (upd (upd H d (exd d (vf v))) a (exo a C (some d)))
/-- a class of errors by its name -/
structure ECl (K : PySem.W.Frag) (mg : Str → Option Value) (fI : Addr) (x : Str) (C : Addr) : Prop where
  mg : mg x = some (.ref C)
  er : ErrC K C
  ini : PySem.W.findIn K (.ref C) "__init__" = some (some (.ref fI))
  no : PySem.W.findIn K (.ref C) "value" = some none
/-- the init as a callee -/
structure Ini (P : Program) (w : World) (K : PySem.W.Frag) (mg : Str → Option Value) (base : Heap) (fI : Addr) : Prop where
  ex : ∃ fd, FnOk P w K mg base CX0 1 fI fd ["self", "value"] (spInit K) ∧ Binds K fd ["self", "value"] []
  ty : PySem.W.typeIn K (.ref fI) = some (.type "function")
/-- any reading is as good as one from which it follows -/
theorem pe_mono {X : Cx} {e : Expr} {te : TE} (h : PE X e te) : PE X e (fun σ H Q => ∃ R : VK, te σ H R ∧ ∀ v H1, R v H1 → Q v H1) :=
  ⟨fun pins s σ H Q I ⟨R, q, k⟩ => thn (h.run pins s σ H R I q) fun u s1 ⟨v, H1, I1, r, q1⟩ => ⟨v, H1, I1, r, k v H1 q1⟩⟩
/-- raise X(e): the error's own dict at a new d -/
def tErrR (C : Addr) (W : WX) (te : TE) : TS := fun _ σ H => te σ H fun v H1 => ∀ d, H1 d = none → W (.ref C) (some d) σ (upd H1 d (.xd (vf v)))
theorem ps_err {X : Cx} {C fI : Addr} {x : Str} {e : Expr} {te : TE} {W : WX} {p1 pos pos2 : Pos} (hc : X.calm = true) (I : Ini X.prog X.w X.K X.mg X.base fI) (c : ECl X.K X.mg fI x C) (hr : Room 2 X.A) (tk : Takes X W) (he : PE X e te) (hg : Gl X x) (hdb : (x == ("__debug__" : Str)) = false := by decide)
    (hs : starEach [e] X.env = (false, eval e X.env) :: starEach [] X.env := by rfl) (hpl : (backTo pos (starEach [] X.env)).any (·.1) = false := by rfl) :
    PS X (.Raise (some (.Call (.Name x p1) [e] [] pos)) none pos2) (tErrR C W te) := by
  obtain ⟨fd, G, bG⟩ := I.ex
  have h := ps_raise (pos := pos2) hc tk (pmk_oex (p := p1) (dvs := []) (pos := pos) c.er.ox c.ini I.ty G hr bG .nil pass0 hg c.mg (pa_cons (pe_mono he) pa_nil hs) hdb hs hpl)
  refine ⟨fun pins s σ H D J q => h.run pins s σ H D J ⟨_, q, ?_⟩⟩
  intro v H1 k
  refine ⟨(by show 1 ≤ 1000; decide), fun a na => ⟨a, C, v, rfl, c.er.ox, c.no, upd_same, fun d nd ne => ⟨rfl, d, vf v, upd_same, ?_, ?_, ?_⟩⟩⟩
  · rw [upd_ne ne, upd_same]
  · rw [upd_ne ne] at nd
    exact nd
  · rw [upd_ne ne] at nd
    have e : upd (del (upd (upd (upd H1 a (exo a C none)) d (exd d (vf v))) a (exo a C (some d))) a) d (.xd (vf v)) = upd H1 d (.xd (vf v)) := by
      funext b
      by_cases hb : b = d
      · rw [hb, upd_same, upd_same]
      · rw [upd_ne hb, upd_ne hb]
        by_cases ha : b = a
        · rw [ha, del_same, na]
        · rw [del_ne ha, upd_ne ha, upd_ne hb, upd_ne ha]
    rw [e]
    exact k d nd
end LG
set_option Elab.async false
set_option linter.all false
set_option maxRecDepth 100000
set_option maxHeartbeats 8000000
namespace LG
open PySem L2
/-! ### rows by (state, call) -/
abbrev Goals := List ((Str × Str) × (Str × Str))
def kT (k : Str × Str) : List Key := [.inr k.1, .inr k.2]
inductive GR (K : PySem.W.Frag) (H : Hp) : List (List Key × V) → Goals → Prop
  | nil : GR K H [] []
  | cons {k x : Str × Str} {t : Addr} {kvs : List (List Key × V)} {g : Goals} : SqT K H t [.str x.1, .str x.2] → GR K H kvs g → GR K H ((kT k, .ref t) :: kvs) ((k, x) :: g)
theorem GR.same {K : PySem.W.Frag} {H H' : Hp} {kvs : List (List Key × V)} {g : Goals} (e : Same H H') (h : GR K H kvs g) : GR K H' kvs g := by
  induction h with
  | nil => exact .nil
  | cons a _ ih => exact .cons (same_tup e a) ih
theorem GR.len {K : PySem.W.Frag} {H : Hp} {kvs : List (List Key × V)} {g : Goals} (h : GR K H kvs g) : kvs.length = g.length := by
  induction h with
  | nil => rfl
  | cons _ _ ih => rw [List.length_cons, List.length_cons, ih]
theorem kT_inj {a b : Str × Str} : kT a = kT b ↔ a = b := by
  constructor
  · intro h
    simp [kT] at h
    exact Prod.ext h.1 h.2
  · rintro rfl
    rfl
theorem GR.snoc {K : PySem.W.Frag} {H : Hp} {kvs : List (List Key × V)} {g : Goals} {k x : Str × Str} {t : Addr} (h : GR K H kvs g) (a : SqT K H t [.str x.1, .str x.2]) : GR K H (kvs ++ [(kT k, .ref t)]) (g ++ [(k, x)]) := by
  induction h with
  | nil => exact .cons a .nil
  | cons b _ ih => exact .cons b ih
theorem GR.val {K : PySem.W.Frag} {H : Hp} {kvs : List (List Key × V)} {g : Goals} (h : GR K H kvs g) (k : Str × Str) :
    (g.lookup k = none ∧ valV kvs (kT k) = none) ∨ ∃ x t, g.lookup k = some x ∧ valV kvs (kT k) = some (.ref t) ∧ SqT K H t [.str x.1, .str x.2] := by
  induction h with
  | nil => exact .inl ⟨rfl, rfl⟩
  | @cons j x t kvs g a _ ih =>
    by_cases e : j = k
    · subst e
      exact .inr ⟨x, t, by simp [List.lookup], valV_pos rfl, a⟩
    · have ne : (k == j) = false := by simpa using fun z : k = j => e z.symm
      have l : List.lookup k ((j, x) :: g) = List.lookup k g := by simp [List.lookup, ne]
      rw [l, valV_neg (fun z => e (kT_inj.mp z))]
      exact ih
theorem GR.upd {K : PySem.W.Frag} {H : Hp} {kvs : List (List Key × V)} {g : Goals} {p : Addr} {o : HO} {zs : List (List Key × V)} (hp : H p = some (.dT zs)) (h : GR K H kvs g) : GR K (upd H p o) kvs g := by
  induction h with
  | nil => exact .nil
  | cons a _ ih =>
    refine .cons ?_ ih
    rcases a with (q | ⟨ob, q⟩) | q
    · exact .inl (.inl (by rw [upd_ne (fun z => by rw [z, hp] at q; cases q)]; exact q))
    · exact .inl (.inr ⟨ob, by rw [upd_ne (fun z => by rw [z, hp] at q; cases q)]; exact q⟩)
    · exact .inr q
theorem step_bad {C A S : List Str} {g : Goals} {line : Str} (h : isLine (Txt.split line sp1) C A S = false) : goalStep C A S g line = none := by
  unfold goalStep
  split
  · rename_i e
    rw [e] at h
    rw [if_neg (by rw [h]; simp)]
  · rfl
theorem step_two {C A S : List Str} {g : Goals} {line r s c a t : Str} {x : Str × Str} (e : Txt.split line sp1 = [r, s, c, a, t]) (h : g.lookup (s, c) = some x) : goalStep C A S g line = none := by
  unfold goalStep
  rw [e]
  show (if _ then _ else _) = _
  rw [if_neg (by rw [h]; simp)]
theorem step_ok {C A S : List Str} {g : Goals} {line r s c a t : Str} (e : Txt.split line sp1 = [r, s, c, a, t]) (hl : isLine [r, s, c, a, t] C A S = true) (h : g.lookup (s, c) = none) : goalStep C A S g line = some (g ++ [((s, c), (a, t))]) := by
  unfold goalStep
  rw [e]
  show (if _ then _ else _) = _
  rw [if_pos ⟨hl, by rw [h]; rfl⟩]
theorem line_form {ws C A S : List Str} (h : isLine ws C A S = true) : ∃ r s c a t, ws = [r, s, c, a, t] := by
  unfold isLine at h
  split at h
  · exact ⟨_, _, _, _, _, rfl⟩
  · cases h
theorem read_bad {lines C A S : List Str} {n : Nat} (h : goalsFrom C A S (lines.drop 3) 3 [] = .inl n) : readGoals lines C A S = .inl n := by
  unfold readGoals
  rw [h]
def GoalsW (K : PySem.W.Frag) (H : Hp) (a : Addr) (g : Goals) : Prop := ∃ kvs, H a = some (.dT kvs) ∧ GR K H kvs g
/-- to be read -/
def GoalsAt (K : PySem.W.Frag) (H : Hp) (a : Addr) (g : Goals) : Prop := ∃ kvs, Rd H a (.dT kvs) ∧ GR K H kvs g
theorem rd_same {H H' : Hp} {a : Addr} {u : HO} (e : Same H H') (h : Rd H a u) : Rd H' a u := h.elim (fun q => .inl (e _ _ q)) fun ⟨o, q⟩ => .inr ⟨o, e _ _ q⟩
theorem GoalsAt.same {K : PySem.W.Frag} {H H' : Hp} {a : Addr} {g : Goals} (e : Same H H') (h : GoalsAt K H a g) : GoalsAt K H' a g := by
  obtain ⟨kvs, h1, h2⟩ := h
  exact ⟨kvs, rd_same e h1, h2.same e⟩
end LG
namespace K03
open PySem L2 LG
section
variable {P : Program} {w : World} {K : PySem.W.Frag} {mg : Str → Option Value} {base : Heap} {fI : Addr}
def spGoals (K : PySem.W.Frag) (CB : Addr) : Sp := fun vs H Q E => ∃ (l c a s : Addr) (lines C A S : List Str), vs = [.ref l, .ref c, .ref a, .ref s] ∧ SqL K H l (lines.map V.str) ∧ (∀ t ∈ lines, t.length ≤ 3000) ∧ lines.length ≤ 4000 ∧
  SqT K H c (C.map V.str) ∧ SqT K H a (A.map V.str) ∧ SqT K H s (S.map V.str) ∧ C.length ≤ 1000 ∧ S.length ≤ 1000 ∧
  (∀ g, readGoals lines C A S = .inr g → ∀ p H', Same H H' → H p = none → GoalsAt K H' p g → Q (.ref p) H') ∧
  (∀ n : Nat, readGoals lines C A S = .inl n → ∀ d H', Same H H' → H d = none → H' d = some (.xd (vf (.int n))) → E (.ref CB) (some d) H')
abbrev nG : List Str := ["lines", "calls", "answers", "states", "goals", "at", "words"]
theorem scGoals : FnScope nG ["lines", "calls", "answers", "states"] (defScope sReadGoals) := ⟨rfl, rfl, rfl, by decide +kernel, rfl, by decide +kernel, by decide +kernel⟩
theorem ok_goals {f g hA CB : Addr} {fd gd : FuncData} (F : Fun K "read_goals" "read_goals" sReadGoals f fd) (T : Bltn mg) (hH : mg "HEADS" = some (.ref hA)) (HA : HeadsAt K hA) (I : Ini P w K mg base fI) (cB : ECl K mg fI "BadDevice" CB)
    (G : FnOk P w K mg base CX0 1 g gd ["words", "calls", "answers", "states"] (spLine K)) (mG : mg "is_line_of_row" = some (.ref g)) (kG : PySem.W.keepIn K (.ref g) = true) (bG : Binds K gd ["words", "calls", "answers", "states"] []) :
    FnOk P w K mg base (L2.CX P w) 3 f fd ["lines", "calls", "answers", "states"] (spGoals K CB) := by
  refine F.okX scGoals (fun vs H Q E h => ?_) (fun cdv A0 outer st H vs Q E hr h => ?_)
  · obtain ⟨l, c, a, s, lines, C, A, S, rfl, _⟩ := h
    rfl
  obtain ⟨l, c, a, s, lines, C, A, S, rfl, hl, hb, hn, hc, ha, hs, lC, lS, qok, qbad⟩ := h
  have hu := hu_of hr
  have r1 : Room 1 _ := hr.mono (by decide)
  have tk := takes_of (X := cxOf (L2.CX P w) P w K mg base nG "read_goals" (defScope sReadGoals) f cdv A0 outer st H E) rfl rfl rfl rfl
  refine ⟨_, pss_cons (ps_set (i := 4) scGoals.nd rfl (Or.inl rfl) pe_dnewT)
    (pss_cons (ps_for (passes_of rfl) rfl (pi_range2 rfl T.range (pa_cons (pe_callB call_len_seq rfl T.len PySem.boot_len (pa_cons (pe_glob (v := .ref hA) rfl hH rfl) pa_nil)) (pa_cons (pe_callB call_len_seq rfl T.len PySem.boot_len (pa_cons (pv 0) pa_nil)) pa_nil))) (pg_name (i := 5) scGoals.nd rfl (Or.inl rfl))
      (pss_cons (ps_set (i := 6) scGoals.nd rfl (Or.inl rfl) (pe_split (pe_ix ix_list (pv 0) (pv 5) (fun _ _ => rfl)) pe_str))
      (pss_cons (ps_if (PW.pt (pw_or (pt_not (pt_val (pe_call G r1 rfl mG kG bG .nil pass0 (pa_cons (pv 6) (pa_cons (pv 1) (pa_cons (pv 2) (pa_cons (pv 3) pa_nil))))))) (pw_or1 (pt_cmp (pc_din hu (pe_tup (pa_cons (pe_ix ix_list (pv 6) pe_int (fun _ _ => rfl)) (pa_cons (pe_ix ix_list (pv 6) pe_int (fun _ _ => rfl)) pa_nil))) (pv 4))))))
        (pss_one (ps_err rfl I cB hr tk (pe_op op_add (pv 5) pe_int) rfl)) pss_nil)
      (pss_one (ps_dput hu (pv 4) (pe_tup (pa_cons (pe_ix ix_list (pv 6) pe_int (fun _ _ => rfl)) (pa_cons (pe_ix ix_list (pv 6) pe_int (fun _ _ => rfl)) pa_nil))) (pe_tup (pa_cons (pe_ix ix_list (pv 6) pe_int (fun _ _ => rfl)) (pa_cons (pe_ix ix_list (pv 6) pe_int (fun _ _ => rfl)) pa_nil))) rfl)))))
    (pss_cons (ps_if (pt_cmpR op_lt (pe_callB call_len_dT rfl T.len PySem.boot_len (pa_cons (pv 4) pa_nil)) (pe_op op_mul (pe_callB call_len_seq rfl T.len PySem.boot_len (pa_cons (pv 3) pa_nil)) (pe_callB call_len_seq rfl T.len PySem.boot_len (pa_cons (pv 1) pa_nil))) (nomark _))
        (pss_one (ps_err rfl I cB hr tk (pe_op op_add (pe_callB call_len_seq rfl T.len PySem.boot_len (pa_cons (pv 0) pa_nil)) pe_int) rfl)) pss_nil)
    (pss_one (ps_ret (pv 4))))), ?_⟩
  intro p np
  have hp : (upd H p (.dT [])) p = some (.dT []) := upd_same
  have s1 := same_new np (.dT [])
  show _
  generalize upd H p (.dT []) = H1 at hp s1 ⊢
  obtain ⟨hs0, hs3, hsT, _⟩ := HA.at
  refine ⟨hA, _, rfl, .inr (hsT H1), _, rfl, l, _, rfl, .inl (s1.seq hl), _, _, rfl, ?_⟩
  have e3 : ((hs0.map V.ref).length : Int) = 3 := by
    rw [List.length_map, hs3]
    rfl
  have en : ((lines.map V.str).length : Int) = (lines.length : Int) := by rw [List.length_map]
  rw [e3, en]
  refine ⟨⟨by decide, by decide, by omega, by omega⟩, ?_⟩
  have start : goalsFrom C A S (lines.drop 3) 3 [] = goalsFrom C A S (lines.drop (3 + 0)) (3 + 0) [] := rfl
  refine for_range (lo := 3) (n := ((lines.length : Int) - 3).toNat) (fun i σ G => ∃ x5 x6 g, σ = [some (.ref l), some (.ref c), some (.ref a), some (.ref s), some (.ref p), x5, x6] ∧ Same H G ∧ GoalsW K G p g ∧ g.length ≤ i ∧ goalsFrom C A S (lines.drop 3) 3 [] = goalsFrom C A S (lines.drop (3 + i)) (3 + i) g)
    ⟨_, _, [], rfl, s1, ⟨[], hp, .nil⟩, by simp, rfl⟩ ?_ ?_
  · rintro i σ G hi ⟨x5, x6, g, rfl, sG, ⟨kvs, hG, rG⟩, hgi, eG⟩
    have lt : 3 + i < lines.length := by omega
    have lG := sG.seq hl
    rw [List.drop_eq_getElem_cons lt] at eG
    have i3 : ((3 : Int) + (i : Int)) = ((3 + i : Nat) : Int) := by omega
    refine ⟨_, rfl, _, rfl, l, _, _, _, rfl, rfl, lG, ?_, ⟨_, rfl⟩, lines[3 + i], sp1, rfl, rfl, rfl, ?_, fun q nq => ?_⟩
    · rw [i3]
      exact atI_nat (by rw [List.getElem?_map, List.getElem?_eq_getElem lt]; rfl)
    · have := hb _ (List.getElem_mem lt)
      rw [sizeLine_eq]
      omega
    have hws : isLine (Txt.split lines[3 + i] sp1) C A S = isLine (Txt.split lines[3 + i] sp1) C A S := rfl
    generalize hw : Txt.split lines[3 + i] sp1 = ws at hws
    have hq : (upd G q (.lst (ws.map V.str))) q = some (.lst (ws.map V.str)) := upd_same
    have s2 := same_new nq (.lst (ws.map V.str))
    show _
    generalize upd G q (.lst (ws.map V.str)) = G1 at hq s2 ⊢
    have sG1 := sG.trans s2
    have hq' : SqL K G1 q (ws.map V.str) := SqL.of hq
    refine ⟨_, rfl, _, rfl, _, rfl, _, rfl, q, c, a, s, ws, C, A, S, rfl, hq', same_tup sG1 hc, same_tup sG1 ha, same_tup sG1 hs, _, rfl, ?_⟩
    cases hline : isLine ws C A S with
    | false =>
      refine iteT (iteT ⟨_, rfl, _, _, rfl, rfl, fun d nd => ?_⟩)
      have s3 := same_new nd (.xd (vf (.int (3 + (i : Int) + 1))))
      have eb : readGoals lines C A S = .inl (3 + i + 1) := read_bad (by
        rw [eG]
        show (match goalStep C A S g lines[3 + i] with | none => _ | some g' => _) = _
        rw [step_bad (by rw [hw]; exact hline)])
      refine qbad _ eb d _ (sG1.trans s3) (sG1.free nd) ?_
      rw [upd_same]
      have e4 : (((3 + i + 1 : Nat) : Nat) : Int) = 3 + (i : Int) + 1 := by omega
      rw [e4]
    | true =>
      obtain ⟨x0, x1, x2, x3, x4, rfl⟩ := line_form hline
      have i1 : atI ([x0, x1, x2, x3, x4].map V.str) 1 = some (.str x1) := rfl
      have i2 : atI ([x0, x1, x2, x3, x4].map V.str) 2 = some (.str x2) := rfl
      have i3' : atI ([x0, x1, x2, x3, x4].map V.str) 3 = some (.str x3) := rfl
      have i4 : atI ([x0, x1, x2, x3, x4].map V.str) 4 = some (.str x4) := rfl
      refine iteF ⟨_, rfl, q, _, _, _, rfl, rfl, hq', i1, _, rfl, q, _, _, _, rfl, rfl, hq', i2, (by show 2 ≤ sizeLine; decide), fun t nt => ?_⟩
      have s3 := same_new nt (.tup [.str x1, .str x2])
      have ht : (upd G1 t (.tup [.str x1, .str x2])) t = some (.tup ((kT (x1, x2)).map kV)) := upd_same
      show _
      generalize upd G1 t (.tup [.str x1, .str x2]) = G2 at s3 ht ⊢
      have hG2 := s3 _ _ (s2 _ _ hG)
      have sG2 := sG1.trans s3
      refine ⟨_, rfl, p, _, rfl, DGet.t hG2 ht, _, rfl, ?_⟩
      rcases rG.val (x1, x2) with ⟨l1, l2⟩ | ⟨x, tx, l1, l2, _⟩
      · rw [l2]
        refine iteF ?_
        have hq2 := s3.seq hq'
        refine ⟨_, rfl, q, _, _, _, rfl, rfl, hq2, i3', _, rfl, q, _, _, _, rfl, rfl, hq2, i4, (by show 2 ≤ sizeLine; decide), fun tv ntv => ?_⟩
        have s4 := same_new ntv (.tup [.str x3, .str x4])
        have htv : (upd G2 tv (.tup [.str x3, .str x4])) tv = some (.tup [.str x3, .str x4]) := upd_same
        show _
        generalize upd G2 tv (.tup [.str x3, .str x4]) = G3 at s4 htv ⊢
        have hq3 := s4.seq hq2
        have hG3 := s4 _ _ hG2
        refine ⟨_, rfl, _, rfl, q, _, _, _, rfl, rfl, hq3, i1, _, rfl, q, _, _, _, rfl, rfl, hq3, i2, (by show 2 ≤ sizeLine; decide), fun tk ntk => ?_⟩
        have s5 := same_new ntk (.tup [.str x1, .str x2])
        have htk : (upd G3 tk (.tup [.str x1, .str x2])) tk = some (.tup ((kT (x1, x2)).map kV)) := upd_same
        show _
        generalize upd G3 tk (.tup [.str x1, .str x2]) = G4 at s5 htk ⊢
        have hG4 := s5 _ _ hG3
        have sG4 := (sG2.trans s4).trans s5
        have hlen := rG.len
        refine ⟨p, _, rfl, DPut.t hG4 htk (by rw [hlen, sizeLine_eq]; omega), ?_⟩
        rw [putK_new _ l2]
        refine ⟨_, _, g ++ [((x1, x2), (x3, x4))], rfl, fun b o e => ?_, ⟨_, upd_same, ?_⟩, ?_, ?_⟩
        · rw [upd_ne (ne_of_none e np)]
          exact sG4 _ _ e
        · refine GR.upd hG4 (.snoc (rG.same (((s2.trans s3).trans s4).trans s5)) ?_)
          exact .inl (.inl (s5 _ _ htv))
        · rw [List.length_append, List.length_singleton]
          omega
        · rw [eG]
          show (match goalStep C A S g lines[3 + i] with | none => _ | some g' => _) = _
          rw [step_ok hw hline l1]
          rfl
      · rw [l2]
        refine iteT ⟨_, rfl, _, _, rfl, rfl, fun d nd => ?_⟩
        have s4 := same_new nd (.xd (vf (.int (3 + (i : Int) + 1))))
        have eb : readGoals lines C A S = .inl (3 + i + 1) := read_bad (by
          rw [eG]
          show (match goalStep C A S g lines[3 + i] with | none => _ | some g' => _) = _
          rw [step_two hw l1])
        refine qbad _ eb d _ (sG2.trans s4) (sG2.free nd) ?_
        rw [upd_same]
        have e4 : (((3 + i + 1 : Nat) : Nat) : Int) = 3 + (i : Int) + 1 := by omega
        rw [e4]
  · rintro σ G ⟨x5, x6, g, rfl, sG, ⟨kvs, hG, rG⟩, hgi, eG⟩
    have ed : lines.drop (3 + ((lines.length : Int) - 3).toNat) = [] := List.drop_of_length_le (by omega)
    rw [ed] at eG
    have eR : readGoals lines C A S = if g.length < S.length * C.length then .inl (lines.length + 1) else .inr g := by
      unfold readGoals
      rw [eG]
      rfl
    refine ⟨_, rfl, p, kvs, rfl, hG, _, rfl, s, _, rfl, .inr (same_tup sG hs), _, rfl, c, _, rfl, .inr (same_tup sG hc), _, _, rfl, rfl, .inl ⟨?_, ?_⟩, _, _, rfl, rfl, _, rfl, ?_⟩
    · omega
    · rw [List.length_map]
      omega
    rw [List.length_map, List.length_map, rG.len]
    have em : ((S.length : Int) * (C.length : Int)) = ((S.length * C.length : Nat) : Int) := by
      rw [Int.natCast_mul]
    rw [em]
    refine ite2 (fun k => ?_) (fun k => ?_)
    · refine ⟨_, rfl, l, _, rfl, .inl (sG.seq hl), _, _, rfl, rfl, fun d nd => ?_⟩
      rw [List.length_map]
      have s4 := same_new nd (.xd (vf (.int ((lines.length : Int) + 1))))
      refine qbad (lines.length + 1) ?_ d _ (sG.trans s4) (sG.free nd) ?_
      · rw [eR, if_pos]
        have := of_decide_eq_true k
        omega
      · rw [upd_same]
        rfl
    · refine ⟨_, rfl, qok g ?_ p G sG np ⟨kvs, .inl hG, rG⟩⟩
      rw [eR, if_neg]
      intro z
      exact k (decide_eq_true (by omega))
end
end K03
set_option Elab.async false
set_option linter.all false
set_option maxRecDepth 100000
set_option maxHeartbeats 8000000
namespace LG
open PySem L2
/-- what the written part says of the class of devices -/
structure DevCl (K : PySem.W.Frag) (mg : Str → Option Value) (C : Addr) : Prop where
  mg : mg "Device" = some (.ref C)
  cl : Cls K C
  nt : NoAttr K C "text"
  nc : NoAttr K C "calls"
  na : NoAttr K C "answers"
  ns : NoAttr K C "states"
  ng : NoAttr K C "_goals"
def devF (T : Str) (c a s g : Addr) : List (Str × V) := [("text", .str T), ("calls", .ref c), ("answers", .ref a), ("states", .ref s), ("_goals", .ref g)]
theorem put_new {f : Str} {v : V} : ∀ {fs : List (Str × V)}, (∀ p ∈ fs, p.1 ≠ f) → putF f v fs = fs ++ [(f, v)]
  | [], _ => rfl
  | (g, x) :: r, h => by
    show (if g = f then _ else _) = _
    rw [if_neg (h _ List.mem_cons_self), put_new fun p hp => h p (List.mem_cons_of_mem _ hp)]
    rfl
/-- a device of the text T, read as D -/
def DevAt (K : PySem.W.Frag) (H : Hp) (x C : Addr) (T : Str) (D : Dev) : Prop := ∃ dx c a s g, H x = some (.ins C dx (devF T c a s g)) ∧ SqT K H c (D.calls.map V.str) ∧ SqT K H a (D.answers.map V.str) ∧ SqT K H s (D.states.map V.str) ∧ GoalsAt K H g D.goals
theorem DevAt.same {K : PySem.W.Frag} {H H' : Hp} {x C : Addr} {T : Str} {D : Dev} (e : Same H H') (h : DevAt K H x C T D) : DevAt K H' x C T D := by
  obtain ⟨dx, c, a, s, g, h1, h2, h3, h4, h5⟩ := h
  exact ⟨dx, c, a, s, g, e _ _ h1, same_tup e h2, same_tup e h3, same_tup e h4, h5.same e⟩
def parseV (v : V) : Sum Nat Dev := match v with
  | .str T => parse T
  | _ => .inl 0
theorem parse_heads {T : Str} {c a s : List Str} {g : Goals} (h : readHeads (Txt.split T nl1) = ([c, a, s], 0)) : parse T = match readGoals (Txt.split T nl1) c a s with | .inl n => .inl n | .inr g => .inr ⟨c, a, s, g⟩ := by
  unfold parse
  show (match readHeads (Txt.split T nl1) with | ([c, a, s], 0) => _ | (_, n) => _) = _
  rw [h]
  rfl
theorem namesIn_len (l h : Str) (a b : Int) (hb : 0 ≤ b) : ((LG.namesIn l h a b).length : Int) ≤ b := by
  unfold LG.namesIn
  show (((if _ then _ else _ : List Str).length : Nat) : Int) ≤ b
  split
  · simpa using hb
  · rename_i c
    split
    · simpa using hb
    · exact Classical.byContradiction fun z => c (.inr fun y => z y.2)
theorem headAt_len (lines : List Str) (i : Nat) : (headAt lines i).length ≤ 4 := by
  unfold headAt
  match i with
  | 0 => cases h : lines[0]? with
    | none => simp
    | some l =>
      have := namesIn_len l "calls" 1 3 (by decide)
      show (LG.namesIn l "calls" 1 3).length ≤ 4
      omega
  | 1 => cases h : lines[1]? with
    | none => simp
    | some l =>
      have := namesIn_len l "answers" 2 3 (by decide)
      show (LG.namesIn l "answers" 2 3).length ≤ 4
      omega
  | 2 => cases h : lines[2]? with
    | none => simp
    | some l =>
      have := namesIn_len l "states" 1 4 (by decide)
      show (LG.namesIn l "states" 1 4).length ≤ 4
      omega
  | n + 3 => simp [headsL]
theorem heads_cases (lines : List Str) : (∃ c a s, readHeads lines = ([c, a, s], 0) ∧ c.length ≤ 4 ∧ s.length ≤ 4) ∨ ∃ r n, readHeads lines = (r, n + 1) := by
  unfold readHeads
  by_cases h0 : headAt lines 0 = []
  · rw [if_pos h0]
    exact .inr ⟨_, _, rfl⟩
  · rw [if_neg h0]
    by_cases h1 : headAt lines 1 = []
    · rw [if_pos h1]
      exact .inr ⟨_, _, rfl⟩
    · rw [if_neg h1]
      by_cases h2 : headAt lines 2 = []
      · rw [if_pos h2]
        exact .inr ⟨_, _, rfl⟩
      · rw [if_neg h2]
        exact .inl ⟨_, _, _, rfl, headAt_len _ _, headAt_len _ _⟩
theorem ft1 : ("text" : Str) ≠ "calls" := by decide
theorem ft2 : ("text" : Str) ≠ "answers" := by decide
theorem ft3 : ("calls" : Str) ≠ "answers" := by decide
theorem ft4 : ("text" : Str) ≠ "states" := by decide
theorem ft5 : ("calls" : Str) ≠ "states" := by decide
theorem ft6 : ("answers" : Str) ≠ "states" := by decide
theorem ft7 : ("text" : Str) ≠ "_goals" := by decide
theorem ft8 : ("calls" : Str) ≠ "_goals" := by decide
theorem ft9 : ("answers" : Str) ≠ "_goals" := by decide
theorem ft0 : ("states" : Str) ≠ "_goals" := by decide
theorem devF_text {T : Str} {c a s g : Addr} : (devF T c a s g).lookup ("text" : Str) = some (.str T) := rfl
theorem parse_bad {T : Str} {r : List (List Str)} {n : Nat} (h : readHeads (Txt.split T nl1) = (r, n + 1)) : parse T = .inl (n + 1) := by
  unfold parse
  show (match readHeads (Txt.split T nl1) with | ([c, a, s], 0) => _ | (_, n) => _) = _
  rw [h]
  split
  · rename_i e
    cases e
  · rename_i e
    cases e
    rfl
theorem tup_but {K : PySem.W.Frag} {H H' : Hp} {x t C dx : Addr} {fs : List (Str × V)} {zs : List V} (e : But x H H') (hx : H x = some (.ins C dx fs)) (h : SqT K H t zs) : SqT K H' t zs := by
  rcases h with (q | ⟨o, q⟩) | q
  · exact .inl (.inl (e _ _ q (fun z => by rw [z, hx] at q; cases q)))
  · exact .inl (.inr ⟨o, e _ _ q (fun z => by rw [z, hx] at q; cases q)⟩)
  · exact .inr q
theorem lst_but {K : PySem.W.Frag} {H H' : Hp} {x t C dx : Addr} {fs : List (Str × V)} {zs : List V} (e : But x H H') (hx : H x = some (.ins C dx fs)) (h : SqL K H t zs) : SqL K H' t zs := by
  rcases h with (q | ⟨o, q⟩) | q
  · exact .inl (.inl (e _ _ q (fun z => by rw [z, hx] at q; cases q)))
  · exact .inl (.inr ⟨o, e _ _ q (fun z => by rw [z, hx] at q; cases q)⟩)
  · exact .inr q
theorem gr_but {K : PySem.W.Frag} {H H' : Hp} {x C dx : Addr} {fs : List (Str × V)} {kvs : List (List Key × V)} {g : Goals} (e : But x H H') (hx : H x = some (.ins C dx fs)) (h : GR K H kvs g) : GR K H' kvs g := by
  induction h with
  | nil => exact .nil
  | cons a _ ih => exact .cons (tup_but e hx a) ih
theorem goals_but {K : PySem.W.Frag} {H H' : Hp} {x p C dx : Addr} {fs : List (Str × V)} {g : Goals} (e : But x H H') (hx : H x = some (.ins C dx fs)) (h : GoalsAt K H p g) : GoalsAt K H' p g := by
  obtain ⟨kvs, h1, h2⟩ := h
  refine ⟨kvs, ?_, gr_but e hx h2⟩
  rcases h1 with q | ⟨o, q⟩
  · exact .inl (e _ _ q (fun z => by rw [z, hx] at q; cases q))
  · exact .inr ⟨o, e _ _ q (fun z => by rw [z, hx] at q; cases q)⟩
theorem but_upd (x : Addr) (H : Hp) (o : HO) : But x H (upd H x o) := fun b u e ne => by
  rw [upd_ne ne]
  exact e
end LG
namespace K03
open PySem L2 LG
section
variable {P : Program} {w : World} {K : PySem.W.Frag} {mg : Str → Option Value} {base : Heap} {fI : Addr}
def spDInit (K : PySem.W.Frag) (C CB : Addr) : Sp := fun vs H Q E => ∃ (x dx : Addr) (v : V), vs = [.ref x, v] ∧ H x = some (.ins C dx []) ∧ StrOr K H v ∧ (∀ T, v = .str T → T.length ≤ 3000) ∧
  (∀ T D, v = .str T → parse T = .inr D → ∀ H', But x H H' → DevAt K H' x C T D → Q .non H') ∧
  (∀ n : Nat, parseV v = .inl n → ∀ d H', But x H H' → H d = none → H' d = some (.xd (vf (.int n))) → E (.ref CB) (some d) H')
abbrev nD : List Str := ["self", "text", "lines", "heads", "bad"]
theorem scDInit : FnScope nD ["self", "text"] (defScope sDInit) := ⟨rfl, rfl, rfl, by decide +kernel, rfl, by decide +kernel, by decide +kernel⟩
theorem ok_dinit {f g1 g2 hA C CB : Addr} {fd gd1 gd2 : FuncData} (F : Fun K "__init__" "Device.__init__" sDInit f fd) (T : Bltn mg) (hH : mg "HEADS" = some (.ref hA)) (HA : HeadsAt K hA) (I : Ini P w K mg base fI) (cB : ECl K mg fI "BadDevice" CB) (DC : DevCl K mg C)
    (G1 : FnOk P w K mg base CX0 3 g1 gd1 ["lines", "heads"] (spHeads K)) (m1 : mg "read_heads" = some (.ref g1)) (k1 : PySem.W.keepIn K (.ref g1) = true) (b1 : Binds K gd1 ["lines", "heads"] [])
    (G2 : FnOk P w K mg base (L2.CX P w) 3 g2 gd2 ["lines", "calls", "answers", "states"] (spGoals K CB)) (m2 : mg "read_goals" = some (.ref g2)) (k2 : PySem.W.keepIn K (.ref g2) = true) (b2 : Binds K gd2 ["lines", "calls", "answers", "states"] []) :
    FnOk P w K mg base (L2.CX P w) 4 f fd ["self", "text"] (spDInit K C CB) := by
  refine F.okX scDInit (fun vs H Q E h => ?_) (fun cdv A0 outer st H vs Q E hr h => ?_)
  · obtain ⟨x, dx, v, rfl, _⟩ := h
    rfl
  obtain ⟨x, dx, v, rfl, hx, ty, hz, qok, qbad⟩ := h
  have r2 : Room 2 _ := hr.mono (by decide)
  have tk := takes_of (X := cxOf (L2.CX P w) P w K mg base nD "Device.__init__" (defScope sDInit) f cdv A0 outer st H E) rfl rfl rfl rfl
  refine ⟨_, pss_cons (ps_if (pt_not (pt_val (pe_callB call_isi rfl T.isinstance (by decide +kernel) (pa_cons (pv 1) (pa_cons (pe_bltn (v := .ty "str") (u := .type "str") rfl T.str (by decide +kernel) rfl) pa_nil)))))
      (pss_one (ps_err rfl I cB r2 tk pe_int rfl)) pss_nil)
    (pss_cons (ps_set (i := 2) scDInit.nd rfl (Or.inl rfl) (pe_split (pv 1) pe_str))
    (pss_cons (ps_asg (pe_call G1 hr rfl m1 k1 b1 .nil pass0 (pa_cons (pv 2) (pa_cons (pe_glob (v := .ref hA) rfl hH rfl) pa_nil))) (pg_tup rfl (pgs_cons (pg_name (i := 3) scDInit.nd rfl (Or.inl rfl)) (pgs_cons (pg_name (i := 4) scDInit.nd rfl (Or.inl rfl)) pgs_nil))))
    (pss_cons (ps_if (pt_cmpR op_gt (pv 4) pe_int (nomark _)) (pss_one (ps_err rfl I cB r2 tk (pv 4) rfl)) pss_nil)
    (pss_cons (ps_fld (pv 0) (pv 1) rfl)
    (pss_cons (ps_asg (pv 3) (pg_unl rfl (pgs_cons (pg_fld (pv 0)) (pgs_cons (pg_fld (pv 0)) (pgs_cons (pg_fld (pv 0)) pgs_nil)))))
    (pss_one (ps_fld (pv 0) (pe_call G2 hr rfl m2 k2 b2 .nil (passes_call tk (fun _ _ _ _ h => h)) (pa_cons (pv 2) (pa_cons (pe_fld (pv 0) rfl) (pa_cons (pe_fld (pv 0) rfl) (pa_cons (pe_fld (pv 0) rfl) pa_nil))))) rfl))))))), ?_⟩
  have bx : ∀ {H' : Hp}, Same H H' → But x H H' := fun e => But.of e
  rcases ty with ⟨X, rfl⟩ | ⟨tv, ty, k, no⟩
  · refine ⟨_, rfl, .str X, .ty "str", .type "str", .type "str", true, rfl, .ty _, .base (.str X), if_pos (beq_self_eq_true _), _, rfl, iteF ?_⟩
    have hX := hz X rfl
    obtain ⟨lb1, lb2⟩ := lines_bounds X
    refine ⟨_, rfl, ⟨_, rfl⟩, X, nl1, rfl, rfl, rfl, (by rw [sizeLine_eq]; omega), fun l nl => ?_⟩
    have hl : (upd H l (.lst ((Txt.split X nl1).map V.str))) l = some (.lst ((Txt.split X nl1).map V.str)) := upd_same
    have s1 := same_new nl (.lst ((Txt.split X nl1).map V.str))
    show _
    generalize upd H l (.lst ((Txt.split X nl1).map V.str)) = H1 at hl s1 ⊢
    have hp : parseV (.str X) = parse X := rfl
    have hd := heads_cases (Txt.split X nl1)
    have pb := @parse_bad X
    have ph := @parse_heads X
    generalize Txt.split X nl1 = lines at hl lb1 lb2 hd pb ph ⊢
    refine ⟨_, rfl, l, hA, lines, rfl, HA, SqL.of hl, fun t ht => Nat.le_trans (lb1 t ht) hX, by omega, fun p q xs H2 s2 nq hp2 hq hxs => ?_⟩
    have s12 := s1.trans s2
    refine ⟨p, _, rfl, hp2, rfl, _, _, rfl, _, _, rfl, rfl, ?_⟩
    rcases hd with ⟨c, a, s, e, lc, ls⟩ | ⟨r, n, e⟩
    · rw [e] at hxs
      refine ⟨_, rfl, _, _, rfl, rfl, _, rfl, ?_⟩
      rw [e]
      refine iteF ?_
      cases hxs with
      | cons h1 r1 => cases r1 with
        | cons h2 r2 => cases r2 with
          | cons h3 r3 =>
            cases r3
            obtain ⟨tc, rfl, h1⟩ := h1
            obtain ⟨ta, rfl, h2⟩ := h2
            obtain ⟨ts, rfl, h3⟩ := h3
            have hx2 := s12 _ _ hx
            have b2 : But x H H2 := bx s12
            have hl2 : SqL K H2 l (lines.map V.str) := s2.seq (SqL.of hl)
            have hq2 : SqL K H2 q [.ref tc, .ref ta, .ref ts] := SqL.of hq
            refine ⟨_, rfl, _, rfl, x, C, dx, _, rfl, hx2, DC.cl, DC.nt, by show 0 < 1000; decide, ?_⟩
            have hx3 : (upd H2 x (.ins C dx (putF "text" (.str X) []))) x = some (.ins C dx [("text", .str X)]) := upd_same
            have e3 := but_upd x H2 (.ins C dx (putF "text" (.str X) []))
            generalize upd H2 x (.ins C dx (putF "text" (.str X) [])) = H3 at hx3 e3 ⊢
            have h1 := tup_but e3 hx2 h1
            have h2 := tup_but e3 hx2 h2
            have h3 := tup_but e3 hx2 h3
            have hl3 := lst_but e3 hx2 hl2
            have hq3 := lst_but e3 hx2 hq2
            have b3 := b2.trans e3
            refine ⟨_, rfl, q, _, rfl, hq3, rfl, _, _, rfl, _, rfl, x, C, dx, _, rfl, hx3, DC.cl, DC.nc, by show 1 < 1000; decide, ?_⟩
            have hx4 : (upd H3 x (.ins C dx (putF "calls" (.ref tc) [("text", .str X)]))) x = some (.ins C dx [("text", .str X), ("calls", .ref tc)]) := by
              rw [upd_same, put_new (by intro p hp; simp at hp; rw [hp]; exact ft1)]
              rfl
            have e4 := but_upd x H3 (.ins C dx (putF "calls" (.ref tc) [("text", .str X)]))
            generalize upd H3 x (.ins C dx (putF "calls" (.ref tc) [("text", .str X)])) = H4 at hx4 e4 ⊢
            refine ⟨_, _, rfl, _, rfl, x, C, dx, _, rfl, hx4, DC.cl, DC.na, by show 2 < 1000; decide, ?_⟩
            have hx5 : (upd H4 x (.ins C dx (putF "answers" (.ref ta) [("text", .str X), ("calls", .ref tc)]))) x = some (.ins C dx [("text", .str X), ("calls", .ref tc), ("answers", .ref ta)]) := by
              rw [upd_same, put_new (by intro p hp; simp at hp; rcases hp with rfl | rfl; exact ft2; exact ft3)]
              rfl
            have e5 := but_upd x H4 (.ins C dx (putF "answers" (.ref ta) [("text", .str X), ("calls", .ref tc)]))
            generalize upd H4 x (.ins C dx (putF "answers" (.ref ta) [("text", .str X), ("calls", .ref tc)])) = H5 at hx5 e5 ⊢
            refine ⟨_, _, rfl, _, rfl, x, C, dx, _, rfl, hx5, DC.cl, DC.ns, by show 3 < 1000; decide, ?_⟩
            have hx6 : (upd H5 x (.ins C dx (putF "states" (.ref ts) [("text", .str X), ("calls", .ref tc), ("answers", .ref ta)]))) x = some (.ins C dx [("text", .str X), ("calls", .ref tc), ("answers", .ref ta), ("states", .ref ts)]) := by
              rw [upd_same, put_new (by intro p hp; simp at hp; rcases hp with rfl | rfl | rfl; exact ft4; exact ft5; exact ft6)]
              rfl
            have e6 := but_upd x H5 (.ins C dx (putF "states" (.ref ts) [("text", .str X), ("calls", .ref tc), ("answers", .ref ta)]))
            generalize upd H5 x (.ins C dx (putF "states" (.ref ts) [("text", .str X), ("calls", .ref tc), ("answers", .ref ta)])) = H6 at hx6 e6 ⊢
            have e36 : But x H3 H6 := (e4.trans e5).trans e6
            have h1 := tup_but e36 hx3 h1
            have h2 := tup_but e36 hx3 h2
            have h3 := tup_but e36 hx3 h3
            have hl6 := lst_but e36 hx3 hl3
            have b6 := b3.trans e36
            refine ⟨rfl, _, rfl, _, rfl, x, C, dx, _, _, rfl, hx6, DC.cl, DC.nc, rfl, _, rfl, x, C, dx, _, _, rfl, hx6, DC.cl, DC.na, rfl, _, rfl, x, C, dx, _, _, rfl, hx6, DC.cl, DC.ns, rfl, ?_⟩
            have ph := ph (c := c) (a := a) (s := s) (g := []) e
            refine ⟨l, tc, ta, ts, lines, c, a, s, rfl, hl6, fun t ht => Nat.le_trans (lb1 t ht) hX, by omega, h1, h2, h3, by omega, by omega, fun g eg p7 H7 s7 np7 hg7 => ?_, fun n en d H7 s7 nd7 hd7 => ?_⟩
            · have hx7 := s7 _ _ hx6
              refine ⟨_, rfl, x, C, dx, _, rfl, hx7, DC.cl, DC.ng, by show 4 < 1000; decide, ?_⟩
              have e8 := but_upd x H7 (.ins C dx (putF "_goals" (.ref p7) [("text", .str X), ("calls", .ref tc), ("answers", .ref ta), ("states", .ref ts)]))
              refine qok X ⟨c, a, s, g⟩ rfl (by rw [ph, eg]) _ ((b6.trans (But.of s7)).trans e8) ⟨dx, tc, ta, ts, p7, ?_, tup_but e8 hx7 (same_tup s7 h1), tup_but e8 hx7 (same_tup s7 h2), tup_but e8 hx7 (same_tup s7 h3), ?_⟩
              · rw [upd_same, put_new (by intro p hp; simp at hp; rcases hp with rfl | rfl | rfl | rfl; exact ft7; exact ft8; exact ft9; exact ft0)]
                rfl
              · exact goals_but e8 hx7 hg7
            · refine qbad n ?_ d H7 (b6.trans (But.of s7)) ?_ hd7
              · show parse X = _
                rw [ph, en]
              · have n6 := nd7
                cases q : H d with
                | none => rfl
                | some o =>
                  by_cases hb : d = x
                  · rw [hb, hx6] at n6
                    cases n6
                  · rw [b6 d o q hb] at n6
                    cases n6
    · refine ⟨_, rfl, _, _, rfl, rfl, _, rfl, ?_⟩
      rw [e]
      have gt : decide ((((r, n + 1) : List (List Str) × Nat).2 : Int) > 0) = true := decide_eq_true (by show ((n + 1 : Nat) : Int) > 0; omega)
      refine iteC gt ⟨_, rfl, fun d nd => ?_⟩
      have s3 := same_new nd (.xd (vf (.int ((n + 1 : Nat) : Int))))
      refine qbad (n + 1) (pb e) d _ (bx (s12.trans s3)) (s12.free nd) ?_
      exact upd_same
  · refine ⟨_, rfl, v, .ty "str", tv, .type "str", false, rfl, .ty _, ty, k, _, rfl, iteT (fun d nd => ?_)⟩
    have s3 := same_new nd (.xd (vf (.int 0)))
    refine qbad 0 ?_ d _ (bx s3) nd upd_same
    cases v with
    | str X => exact absurd rfl (no X)
    | _ => rfl
end
end K03
set_option Elab.async false
set_option linter.all false
set_option maxRecDepth 100000
set_option maxHeartbeats 8000000
namespace LG
open PySem L2
/-- what is due where (state, call) is no row -/
def NoRow (CS CC : Addr) (D : Dev) (s c : V) (H : Hp) (E : XK) : Prop :=
  (amongB s D.states = false → ∀ d, H d = none → E (.ref CS) (some d) (upd H d (.xd (vf s)))) ∧ (amongB s D.states = true → amongB c D.calls = false → ∀ d, H d = none → E (.ref CC) (some d) (upd H d (.xd (vf c))))
end LG
namespace K03
open PySem L2 LG
section
variable {P : Program} {w : World} {K : PySem.W.Frag} {mg : Str → Option Value} {base : Heap} {fI C : Addr}
def spHas (K : PySem.W.Frag) (C : Addr) : Sp := fun vs H Q _ => ∃ (x : Addr) (v : V) (T : Str) (D : Dev), vs = [.ref x, v] ∧ DevAt K H x C T D ∧ StrOr K H v ∧ Q (.bl (amongB v D.states)) H
theorem scHas : FnScope ["self", "value"] ["self", "value"] (defScope sDContains) := ⟨rfl, rfl, rfl, by decide +kernel, rfl, by decide +kernel, by decide +kernel⟩
theorem ok_has {f g : Addr} {fd gd : FuncData} (F : Fun K "__contains__" "Device.__contains__" sDContains f fd) (DC : DevCl K mg C) (G : FnOk P w K mg base CX0 1 g gd ["value", "names"] (spAmong K)) (mG : mg "is_among" = some (.ref g)) (kG : PySem.W.keepIn K (.ref g) = true) (bG : Binds K gd ["value", "names"] []) :
    FnOk P w K mg base CX0 2 f fd ["self", "value"] (spHas K C) := by
  refine F.ok scHas (fun vs H Q E h => ?_) (fun cdv A outer s H vs Q E hr h => ?_)
  · obtain ⟨x, v, T, D, rfl, _⟩ := h
    rfl
  obtain ⟨x, v, T, D, rfl, ⟨dx, c, a, st, g0, hx, hc, ha, hs, hg⟩, ty, q⟩ := h
  refine ⟨_, pss_one (ps_ret (pe_call G hr rfl mG kG bG .nil pass0 (pa_cons (pv 1) (pa_cons (pe_fld (pv 0) rfl) pa_nil)))), ?_⟩
  exact ⟨_, rfl, _, rfl, x, C, dx, _, _, rfl, hx, DC.cl, DC.ns, rfl, v, st, _, rfl, ty, .inr hs, q⟩
def spLen (K : PySem.W.Frag) (C : Addr) : Sp := fun vs H Q _ => ∃ (x : Addr) (T : Str) (D : Dev), vs = [.ref x] ∧ DevAt K H x C T D ∧ Q (.int D.states.length) H
theorem scLen : FnScope ["self"] ["self"] (defScope sDLen) := ⟨rfl, rfl, rfl, by decide +kernel, rfl, by decide +kernel, by decide +kernel⟩
theorem ok_len {f : Addr} {fd : FuncData} (F : Fun K "__len__" "Device.__len__" sDLen f fd) (T : Bltn mg) (DC : DevCl K mg C) : FnOk P w K mg base CX0 1 f fd ["self"] (spLen K C) := by
  refine F.ok scLen (fun vs H Q E h => ?_) (fun cdv A outer s H vs Q E hr h => ?_)
  · obtain ⟨x, T, D, rfl, _⟩ := h
    rfl
  obtain ⟨x, T', D, rfl, ⟨dx, c, a, st, g0, hx, hc, ha, hs, hg⟩, q⟩ := h
  refine ⟨_, pss_one (ps_ret (pe_callB call_len_seq rfl T.len PySem.boot_len (pa_cons (pe_fld (pv 0) rfl) pa_nil))), ?_⟩
  refine ⟨_, rfl, x, C, dx, _, _, rfl, hx, DC.cl, DC.ns, rfl, st, _, rfl, .inr hs, ?_⟩
  rw [List.length_map]
  exact q
/-- what isinstance asks of the class -/
structure DevIs (K : PySem.W.Frag) (C : Addr) : Prop where
  ca : PySem.W.findIn K (.ref C) "__class__" = some (some (.builtin "object.__class__"))
  cn : PySem.W.specialIn K (.builtin "object.__class__") "__get__" = some (some (.builtin "getset_descriptor.__get__"))
  ct : PySem.W.takesIn K (.builtin "object.__class__") = some true
  cm : PySem.W.mroIn K C (.type "object") = some true
theorem dev_ty {H : Hp} {x : Addr} {T : Str} {D : Dev} (DC : DevCl K mg C) (S : DevIs K C) (h : DevAt K H x C T D) : TyX K H (.ref x) (.ref C) := by
  obtain ⟨dx, c, a, st, g0, hx, _⟩ := h
  exact .base (.ins hx DC.cl S.ca S.cn S.ct S.cm)
def spDEq (K : PySem.W.Frag) (C : Addr) : Sp := fun vs H Q _ => ∃ (x : Addr) (y : V) (T : Str) (D : Dev), vs = [.ref x, y] ∧ DevAt K H x C T D ∧
  ((∃ (x2 : Addr) (T2 : Str) (D2 : Dev), y = .ref x2 ∧ DevAt K H x2 C T2 D2 ∧ Q (.bl (decide (T = T2))) H) ∨ ∃ t, TyX K H y t ∧ PySem.W.kitOne K t (.ref C) = some false ∧ Q (.bl false) H)
theorem scDEq : FnScope ["self", "other"] ["self", "other"] (defScope sDEq) := ⟨rfl, rfl, rfl, by decide +kernel, rfl, by decide +kernel, by decide +kernel⟩
theorem ok_eq {f : Addr} {fd : FuncData} (F : Fun K "__eq__" "Device.__eq__" sDEq f fd) (T : Bltn mg) (DC : DevCl K mg C) (S : DevIs K C) : FnOk P w K mg base CX0 1 f fd ["self", "other"] (spDEq K C) := by
  refine F.ok scDEq (fun vs H Q E h => ?_) (fun cdv A outer s H vs Q E hr h => ?_)
  · obtain ⟨x, y, T, D, rfl, _⟩ := h
    rfl
  obtain ⟨x, y, T', D, rfl, hD, q⟩ := h
  refine ⟨_, pss_one (ps_ret (pe_and (pe_callB call_isi rfl T.isinstance (by decide +kernel) (pa_cons (pv 1) (pa_cons (pe_glob (v := .ref C) rfl DC.mg rfl) pa_nil))) (pe_one (pe_cmpR op_eq (pe_fld (pv 0) rfl) (pe_fld (pv 1) rfl) (nomark _))))), ?_⟩
  rcases q with ⟨x2, T2, D2, rfl, hD2, q⟩ | ⟨t, ty, k, q⟩
  · have ty2 := dev_ty DC S hD2
    obtain ⟨dx, c, a, st, g0, hx, _⟩ := hD
    obtain ⟨dx2, c2, a2, st2, g2, hx2, _⟩ := hD2
    refine ⟨_, rfl, .ref x2, .ref C, .ref C, .ref C, true, rfl, .own C, ty2, if_pos (beq_self_eq_true _), _, rfl, iteT ⟨_, rfl, x, C, dx, _, _, rfl, hx, DC.cl, DC.nt, rfl, _, rfl, x2, C, dx2, _, _, rfl, hx2, DC.cl, DC.nt, rfl, rfl, ?_⟩⟩
    have e : decide (V.str T' = V.str T2) = decide (T' = T2) := by
      by_cases h : T' = T2
      · simp [h]
      · simp [h]
    rw [e]
    exact q
  · exact ⟨_, rfl, y, .ref C, t, .ref C, false, rfl, .own C, ty, k, _, rfl, iteF q⟩
def spAsk (K : PySem.W.Frag) (C CS CC : Addr) : Sp := fun vs H Q E => ∃ (x : Addr) (s c : V) (T : Str) (D : Dev), vs = [.ref x, s, c] ∧ DevAt K H x C T D ∧ StrOr K H s ∧ StrOr K H c ∧ (amongB s D.states = true → amongB c D.calls = true → Q .non H) ∧ NoRow CS CC D s c H E
theorem scAsk : FnScope ["self", "state", "call"] ["self", "state", "call"] (defScope sDAsk) := ⟨rfl, rfl, rfl, by decide +kernel, rfl, by decide +kernel, by decide +kernel⟩
theorem ok_ask {f g h2 CS CC : Addr} {fd gd hd : FuncData} (F : Fun K "_ask_for_row" "Device._ask_for_row" sDAsk f fd) (DC : DevCl K mg C) (I : Ini P w K mg base fI) (cS : ECl K mg fI "NoState" CS) (cC : ECl K mg fI "NoCall" CC)
    (G : FnOk P w K mg base CX0 1 g gd ["value", "names"] (spAmong K)) (mG : mg "is_among" = some (.ref g)) (kG : PySem.W.keepIn K (.ref g) = true) (bG : Binds K gd ["value", "names"] [])
    (Hs : FnOk P w K mg base CX0 2 h2 hd ["self", "value"] (spHas K C)) (fH : PySem.W.findIn K (.ref C) "__contains__" = some (some (.ref h2))) (nH : PySem.W.isFn K (.ref h2) = true) (bH : Binds K hd ["self", "value"] []) :
    FnOk P w K mg base (L2.CX P w) 3 f fd ["self", "state", "call"] (spAsk K C CS CC) := by
  refine F.okX scAsk (fun vs H Q E h => ?_) (fun cdv A0 outer st H vs Q E hr h => ?_)
  · obtain ⟨x, s, c, T, D, rfl, _⟩ := h
    rfl
  obtain ⟨x, s, c, T, D, rfl, hD, ts, tc, qok, qs, qc⟩ := h
  have r1 : Room 1 _ := hr.mono (by decide)
  have tk := takes_of (X := cxOf (L2.CX P w) P w K mg base ["self", "state", "call"] "Device._ask_for_row" (defScope sDAsk) f cdv A0 outer st H E) rfl rfl rfl rfl
  refine ⟨_, pss_cons (ps_if (pt_cmpR (op_ownNotIn fH nH Hs bH hr) (pv 1) (pv 0) (by rfl)) (pss_one (ps_err rfl I cS hr tk (pv 1) rfl)) pss_nil)
    (pss_one (ps_if (pt_not (pt_val (pe_call G r1 rfl mG kG bG .nil pass0 (pa_cons (pv 2) (pa_cons (pe_fld (pv 0) rfl) pa_nil))))) (pss_one (ps_err rfl I cC hr tk (pv 2) rfl)) pss_nil)), ?_⟩
  obtain ⟨dx, c0, a0, s0, g0, hx, hc, ha, hs, hg⟩ := id hD
  refine ⟨_, rfl, _, rfl, x, dx, _, rfl, hx, x, s, T, D, rfl, hD, ts, _, rfl, _, rfl, ?_⟩
  cases e1 : amongB s D.states with
  | false => exact iteT ⟨_, rfl, fun d nd => qs e1 d nd⟩
  | true =>
    refine iteF ⟨_, rfl, _, rfl, x, C, dx, _, _, rfl, hx, DC.cl, DC.nc, rfl, c, c0, _, rfl, tc, .inr hc, _, rfl, ?_⟩
    cases e2 : amongB c D.calls with
    | false => exact iteT ⟨_, rfl, fun d nd => qc e1 e2 d nd⟩
    | true => exact iteF (qok e1 e2)
def spRow (K : PySem.W.Frag) (C CS CC : Addr) : Sp := fun vs H Q E => ∃ (x : Addr) (s c : V) (T : Str) (D : Dev), vs = [.ref x, s, c] ∧ DevAt K H x C T D ∧ StrOr K H s ∧ StrOr K H c ∧
  (amongB s D.states = true → amongB c D.calls = true → ∃ S Cn r, s = .str S ∧ c = .str Cn ∧ D.goals.lookup (S, Cn) = some r ∧ ∀ t H', Same H H' → SqT K H' t [.str r.1, .str r.2] → Q (.ref t) H') ∧ NoRow CS CC D s c H E
theorem scRow : FnScope ["self", "state", "call"] ["self", "state", "call"] (defScope sDRow) := ⟨rfl, rfl, rfl, by decide +kernel, rfl, by decide +kernel, by decide +kernel⟩
theorem ok_row {f g CS CC : Addr} {fd gd : FuncData} (F : Fun K "row" "Device.row" sDRow f fd) (DC : DevCl K mg C) (G : FnOk P w K mg base (L2.CX P w) 3 g gd ["self", "state", "call"] (spAsk K C CS CC)) (mG : Meth K C "_ask_for_row" g) (bG : Binds K gd ["self", "state", "call"] []) :
    FnOk P w K mg base (L2.CX P w) 4 f fd ["self", "state", "call"] (spRow K C CS CC) := by
  refine F.okX scRow (fun vs H Q E h => ?_) (fun cdv A0 outer st H vs Q E hr h => ?_)
  · obtain ⟨x, s, c, T, D, rfl, _⟩ := h
    rfl
  obtain ⟨x, s, c, T, D, rfl, hD, ts, tc, qok, qn⟩ := h
  have hu := hu_of hr
  have tk := takes_of (X := cxOf (L2.CX P w) P w K mg base ["self", "state", "call"] "Device.row" (defScope sDRow) f cdv A0 outer st H E) rfl rfl rfl rfl
  refine ⟨_, pss_cons (ps_expr (pe_meth (pv 0) DC.cl mG G hr bG .nil (passes_call tk (fun _ _ _ _ h => h)) (pa_cons (pv 1) (pa_cons (pv 2) pa_nil))))
    (pss_one (ps_ret (pe_dget hu (pe_fld (pv 0) rfl) (pe_tup (pa_cons (pv 1) (pa_cons (pv 2) pa_nil))) (fun _ _ => rfl)))), ?_⟩
  obtain ⟨dx, c0, a0, s0, g0, hx, hc, ha, hs, kvs, hg, gr⟩ := id hD
  refine ⟨_, rfl, x, dx, _, rfl, hx, rfl, _, rfl, _, rfl, x, s, c, T, D, rfl, hD, ts, tc, fun e1 e2 => ?_, qn⟩
  obtain ⟨S, Cn, r, rfl, rfl, hl, q⟩ := qok e1 e2
  refine ⟨_, rfl, x, C, dx, _, _, rfl, hx, DC.cl, DC.ng, rfl, _, rfl, _, rfl, (by show 2 ≤ sizeLine; decide), fun t nt => ?_⟩
  have ht : (upd H t (.tup [.str S, .str Cn])) t = some (.tup ((kT (S, Cn)).map kV)) := upd_same
  have s1 := same_new nt (.tup [.str S, .str Cn])
  rcases gr.val (S, Cn) with ⟨l1, _⟩ | ⟨r2, t2, l1, l2, l3⟩
  · rw [l1] at hl
    cases hl
  · rw [l1] at hl
    cases hl
    have g1 : DGet _ g0 (.ref t) (valV kvs (kT (S, Cn))) := .inr ⟨kvs, kT (S, Cn), t, rd_same s1 hg, rfl, ht, rfl⟩
    rw [l2] at g1
    exact ⟨g0, _, rfl, g1, q t2 _ s1 (same_tup s1 l3)⟩
end
end K03
set_option Elab.async false
set_option linter.all false
set_option maxRecDepth 100000
set_option maxHeartbeats 2000000
/-! A lambda handed to a def that catches, what is raised wished for at the slots of that def. -/
namespace LG
open PySem PySem.Spec PyProof.Rows L2 LamX
section
variable {X : Cx} {pins : List (Addr × Obj)} {σ : L2.St} {H HZ : Hp} {s s1 : Shared}
theorem pe_act2 {Eg : XK} {Ng : List Str} {qg : Str} {sg : Scope} {g f c' : Addr} {cdg pm ctv : Value} {params : Arguments} {body : Expr} {scope : Scope} {k i : Nat} {a : Str} {pn : List (Addr × Obj)} {xe : Value → Shared → Prop} {W : WX} {tb : XK → TE} {p1 p2 : Pos}
    (I : Inv X pins σ H s) (L : LamS X.env.scope scope) (hf : s.heap.get? f = some (PySem.W.kla_obj "<lambda>" (X.env.qual ++ "<lambda>") params body scope (cloFrom X.env.cells scope.names []) pm c' ctv)) (hfn : H f = none) (hfr : f ∉ frs X.stack)
    (hbind : bindArgs (PySem.W.kla_fn "<lambda>" (X.env.qual ++ "<lambda>") params body scope (cloFrom X.env.cells scope.names []) pm (.ref c') ctv) ⟨[], []⟩ = pure [])
    (tk : Takes ((cxOf CX0 X.prog X.w X.K X.mg X.base Ng qg sg g cdg X.A X.stack s H Eg).tr pn xe) W) (hr : Room (k + 1) (X.A.deeper (envOfC qg sg s.heap.objs.size g cdg)))
    (hbody : ∀ (A : Around) (outer : List Env) (s : Shared) (H : Hp) (E : XK), Room k (A.deeper (lamEnv X scope s.heap.objs.size f c')) → PE (lamCx X A outer s H E scope f c') body (tb E))
    (hN : Ng[i]? = some a) (hv : Vis sg a) (hd : (a == ("__debug__" : Str)) = false := by decide) (hcd : (a == ("__classdict__" : Str)) = false := by decide) :
    PE ((cxOf CX0 X.prog X.w X.K X.mg X.base Ng qg sg g cdg X.A X.stack s H Eg).tr pn xe) (.Call (.Name a p1) [] [] p2)
      (fun σZ HZ Q => σZ[i]? = some (some (.ref f)) ∧ HZ c' = some (CodeO c' (X.env.qual ++ "<lambda>")) ∧ ∃ E : XK, (∀ cls d H', E cls d H' → W cls d σZ H') ∧ tb E σ HZ Q) := by
  refine ⟨fun pinsZ sZ σZ HZ Q IZ h => ?_⟩
  obtain ⟨slot, code, E, hW, ht⟩ := h
  refine wpAny_Call_Name_kw (thn ((pe_var (pos := p1) (i := i) hN hv hd hcd).run pinsZ sZ σZ HZ (fun v G => v = .ref f ∧ G = HZ) IZ ⟨.ref f, slot, rfl, rfl⟩) fun u z1 ⟨v, G, I1, r1, q1⟩ => ?_)
  obtain ⟨ev, eH⟩ := q1
  subst ev
  rw [eH] at I1
  have eu : u = Value.ref f := r1
  subst eu
  have fn1 : z1.heap.get? f = some (PySem.W.kla_obj "<lambda>" (X.env.qual ++ "<lambda>") params body scope (cloFrom X.env.cells scope.names []) pm c' ctv) := I1.base.keep f _ hf hfn hfr (fun z => nomatch (show f ∈ ([] : List Addr) from z))
  refine PySem.W.callWith_F0 ⟨_, _, _, _, fn1⟩ ?_
  have un : Un (frs X.stack) [] H HZ s.heap z1.heap := I1.base
  obtain ⟨⟨oc, vs, t, hoc, hdc, hvc⟩, _, _⟩ := I1.hok c' _ code
  have rc : codeAny (model X.prog X.w) (X.A.deeper (envOfC qg sg s.heap.objs.size g cdg)) (.call (.ref f) ⟨[], []⟩) (CR (L2.CX X.prog X.w) (envOfC qg sg s.heap.objs.size g cdg :: X.stack) X.prog X.w HZ z1 Q E) z1 := by
    refine PySem.W.kla_callFunE hr.depth fn1 rfl L.co L.gen rfl ⟨c', oc, vs, t, rfl, hoc, hdc, hvc⟩ ?_
    rw [hbind]
    refine wpAny_pure (wpAny_newFunctionEnv (fun y hy => (L.own y hy).2) (fun y hy => absurd hy (by simp)) (fun g1 hns hsb => ⟨I1.nolimit.fresh _ hsb, ?_⟩) L.kind)
    show codeAny _ _ (.expr body (lamEnv X scope z1.heap.objs.size f c')) _ _
    have kp : ∀ b o, z1.heap.get? b = some o → g1.get? b = some o := fun b o e => hsb.extBut b o (Nat.ne_of_lt (Heap.lt_size e)) (Heap.get?_push_of_some _ e)
    have J : Inv (lamCx X (X.A.deeper (envOfC qg sg s.heap.objs.size g cdg)) (envOfC qg sg s.heap.objs.size g cdg :: X.stack) z1 HZ E scope f c') [] σ HZ { z1 with heap := g1, toks := z1.toks + ([] : List (Str × Value)).length } :=
      lam_start2 I L I1.env0 hr.hd un hns kp
    refine PySem.W.kla_codeExpr (wpAny_mono ((hbody _ _ z1 HZ E (hr.deeper _)).run [] _ _ HZ Q J ht) (fun v z' hq => ?_) fun _ _ hq => hq)
    obtain ⟨w', H', J', rv, q⟩ := hq
    exact ⟨w', H', J'.os, J'.bare, J'.base, J'.hok, rv, q⟩
  refine wpAny_call (codeAny_mono rc fun r z' hq => ?_)
  match r, hq with
  | .error e, hq => exact tk e z' (XE.of_call I1 (fun cls d H' q => hW cls d H' q) hq)
  | .ok (.ret u), hq => exact I1.after hq
  | .ok .next, hq => exact hq.elim
  | .ok .brk, hq => exact hq.elim
  | .ok .cont, hq => exact hq.elim
/-- the def that calls what it got -/
def Gives2 (X : Cx) (Ng : List Str) (x : Str) (sg : Scope) (g : Addr) (cdg : Value) (bg : List Stmt) (a : Str) (q : Str) (TT : (XK → Hp → VK → Prop) → Hp → VK → Prop) : Prop :=
  ∀ (f c' : Addr) (s : Shared) (H : Hp) (Q : VK) (tl : XK → Hp → VK → Prop),
    (∀ (W : WX) (pn : List (Addr × Obj)) (xe : Value → Shared → Prop) (p1 p2 : Pos), Takes ((cxOf CX0 X.prog X.w X.K X.mg X.base Ng x sg g cdg X.A X.stack s H E0).tr pn xe) W →
      PE ((cxOf CX0 X.prog X.w X.K X.mg X.base Ng x sg g cdg X.A X.stack s H E0).tr pn xe) (.Call (.Name a p1) [] [] p2) (fun σZ HZ Q => σZ[0]? = some (some (.ref f)) ∧ HZ c' = some (CodeO c' q) ∧ ∃ E : XK, (∀ cls d H', E cls d H' → W cls d σZ H') ∧ tl E HZ Q)) →
    H c' = some (CodeO c' q) → TT tl H Q →
    ∃ t, PSs (cxOf CX0 X.prog X.w X.K X.mg X.base Ng x sg g cdg X.A X.stack s H E0).nox bg t ∧ t { nx := fun _ H' => Q .non H', rt := Q } (L2.start Ng [.ref f]) H
theorem pe_lam2 {T : List (Addr × Str)} {TT : (XK → Hp → VK → Prop) → Hp → VK → Prop} {x a : Str} {g c P : Addr} {k : Nat} {pg : Arguments} {bg : List Stmt} {sg : Scope} {dV kV doc pm cdv ct oc : Value} {an od : Option Addr} {osl : Array (Option Value)} {Ng : List Str}
    {params : Arguments} {body : Expr} {scope : Scope} {t : XK → TE} {p lpos pos : Pos} (hg : Gl X x) (hm : X.mg x = some (.ref g)) (hk : PySem.W.keepIn X.K (.ref g) = true)
    (lk : X.K.lookup g = some ⟨oc, od, .func (PySem.W.fnOf x x pg bg sg dV kV doc pm an cdv ct), osl⟩) (hcg : PySem.W.codeIn X.K cdv x = true) (hb : L2.Binds X.K (PySem.W.fnOf x x pg bg sg dV kV doc pm an cdv ct) [a] []) (Sg : FnScope Ng [a] sg) (hNg : Ng[0]? = some a) (hva : Vis sg a)
    (hG : Gives2 X Ng x sg g cdv bg a (X.env.qual ++ "<lambda>") TT)
    (TB : TabB X.base X.mg c P) (hcode : X.env.code = .ref c) (hmT : (P, X.env.qual ++ "<lambda>") ∈ T) (hu : ∀ p ∈ T, p.1 = P → p.2 = X.env.qual ++ "<lambda>") (hr : Room (k + 2) X.A) (L : LamS X.env.scope scope) (hdef : defaultsOf params X.env = ([], []))
    (hbind : ∀ (q : Str) (cl : List (Str × Addr)) (pm cv ctv : Value), bindArgs (PySem.W.kla_fn "<lambda>" q params body scope cl pm cv ctv) ⟨[], []⟩ = pure [])
    (hbody : ∀ (A : Around) (outer : List Env) (s : Shared) (H : Hp) (E : XK) (f c' : Addr), Room k (A.deeper (lamEnv X scope s.heap.objs.size f c')) → PE (lamCx X A outer s H E scope f c') body (t E))
    (hdb : (x == ("__debug__" : Str)) = false := by decide) (hd : (a == ("__debug__" : Str)) = false := by decide) (hcd : (a == ("__classdict__" : Str)) = false := by decide) :
    PE X (.Call (.Name x p) [.Lambda params body scope lpos] [] pos) (tLam T TT t) := by
  refine ⟨fun pins s σ H Q I h => ?_⟩
  obtain ⟨hT, h⟩ := h
  refine wpAny_Call_Name_kw (ld_glob I hg hm ?_ hdb)
  refine PySem.W.callWith_K (h₀ := X.base) I.ok.mod.kin hk ?_ (by rfl) (by rfl)
  show wpAny _ _ (spliced ((false, eval (.Lambda params body scope lpos) X.env) :: backTo pos (starEach [] X.env))) _ _ s
  refine Calls.spliced_cons (lam_make2 I TB hcode hmT hu hT hdef (L.has I.ok) fun f c' pm' ctv G z I1 eN T1 hf hfn hfr hco => Calls.spliced_nil ⟨I1.kIn, ?_⟩)
  have rc : codeAny (model X.prog X.w) X.A (.call (.ref g) ⟨[.ref f], []⟩) (CR CX0 X.stack X.prog X.w G z Q E0) z := by
    refine run_ofS (N := Ng) (ps := [a]) (us := [.ref f]) (vs := [.ref f]) lk hcg Sg hr I1.env0 (hb z [.ref f] I1.kIn rfl) (.cons rfl .nil) rfl fun hr' => ?_
    obtain ⟨t', ht', hq'⟩ := hG f c' z G Q (fun E H' Q' => t E σ H' Q') (fun W pn xe p1 p2 tk => pe_act2 (i := 0) I1 L hf hfn hfr (hbind _ _ _ _ _) tk hr' (fun A outer s H E hr2 => hbody A outer s H E f c' hr2) hNg hva hd hcd) hco (h G eN T1)
    exact ⟨t', ht'.nox, hq'⟩
  refine wpAny_call (codeAny_mono rc fun r z2 hq => ?_)
  match r, hq with
  | .error e, hq => exact (show False from hq).elim
  | .ok (.ret u), hq => exact I1.after hq
  | .ok .next, hq => exact hq.elim
  | .ok .brk, hq => exact hq.elim
  | .ok .cont, hq => exact hq.elim
end
end LG
set_option Elab.async false
set_option linter.all false
set_option maxRecDepth 100000
set_option maxHeartbeats 4000000
namespace LG
open PySem L2 LamX
/-- told: (the caught error, None) or (None, what came back) -/
def TTk (K : PySem.W.Frag) (B : Addr) : (XK → Hp → VK → Prop) → Hp → VK → Prop := fun tl H Q => ∀ (H1 : Hp) (E : XK) (R : VK), Same H H1 →
  (∀ cls d H', PySem.W.exmOne K cls (.ref B) = some true → (∀ a, H' a = none → ∀ p, upd H' a (exq a cls d) p = none → Q (.ref p) (upd (upd H' a (exq a cls d)) p (.tup [.ref a, .non]))) → E cls d H') →
  (∀ v H', (∀ p, H' p = none → Q (.ref p) (upd H' p (.tup [.non, v]))) → R v H') → tl E H1 R
end LG
namespace K03
open PySem L2 LG LamX
section
abbrev nT : List Str := ["_law_look", "_law_caught", "_law_back", "error"]
theorem scTold : FnScope nT ["_law_look"] (defScope sTold) := ⟨rfl, rfl, rfl, by decide +kernel, rfl, by decide +kernel, by decide +kernel⟩
theorem told_gives {X : Cx} {g B : Addr} {cdg : Value} {q : Str} (mB : X.mg "BoxError" = some (.ref B)) : Gives2 X nT "_law_told" (defScope sTold) g cdg (defBody sTold) "_law_look" q (TTk X.K B) := by
  intro f c' s H Q tl act hc h
  refine ⟨_, pss_cons (ps_asg (pe_tup (pa_cons pe_non (pa_cons pe_non pa_nil))) (pg_tup rfl (pgs_cons (pg_name (i := 1) scTold.nd rfl (Or.inl rfl)) (pgs_cons (pg_name (i := 2) scTold.nd rfl (Or.inl rfl)) pgs_nil))))
    (pss_cons (ps_try_keep (i := 3) (X := (cxOf CX0 X.prog X.w X.K X.mg X.base nT "_law_told" (defScope sTold) g cdg X.A X.stack s H E0).nox) (c := .ref B)
      (tb := fun W D σ G => ∃ Ech : XK, (∀ cls d H', Ech cls d H' → W cls d σ H') ∧ σ[0]? = some (some (.ref f)) ∧ G c' = some (CodeO c' q) ∧ tl Ech G (fun v H' => D.nx (σ.set 2 (some v)) H'))
      rfl rfl rfl scTold.nd rfl rfl ⟨rfl, by decide, .inl mB⟩ L2.takes0 (fun W pn xe tk _ => ?_) (fun a pn => pss_one (ps_set (i := 1) scTold.nd rfl (Or.inl rfl) (pv 3))))
    (pss_one (ps_ret (pe_tup (pa_cons (pv 1) (pa_cons (pv 2) pa_nil)))))), ?_⟩
  · refine ⟨fun pins s' σ G D I h' => ?_⟩
    obtain ⟨Ech, hW, h1, h2, h3⟩ := h'
    refine (pss_one (ps_set (i := 2) scTold.nd rfl (Or.inl rfl) (act W pn xe _ _ tk))).run pins s' σ G D I ?_
    exact ⟨h1, h2, Ech, hW, h3⟩
  · refine ⟨(by show 2 ≤ sizeLine; decide), fun t nt => ⟨t, _, rfl, .inl (.inl upd_same), rfl, _, _, rfl, _, _, rfl, rfl, ?_⟩⟩
    have s1 := same_new nt (.tup [V.non, V.non])
    refine ⟨fun cls d H' => PySem.W.exmOne X.K cls (.ref B) = some true ∧ ∀ a, H' a = none → ∀ p, upd H' a (exq a cls d) p = none → Q (.ref p) (upd (upd H' a (exq a cls d)) p (.tup [.ref a, .non])), ?_, rfl, s1 _ _ hc, h _ _ _ s1 (fun cls d H' e q => ⟨e, q⟩) fun v H' q => ?_⟩
    · rintro cls d H' ⟨e, q⟩
      exact ⟨true, e, fun _ a na => ⟨_, rfl, _, rfl, _, rfl, (by show 2 ≤ sizeLine; decide), fun p np => q a na p np⟩, fun z => nomatch z⟩
    · exact ⟨_, rfl, _, rfl, (by show 2 ≤ sizeLine; decide), fun p np => q p np⟩
end
end K03
set_option Elab.async false
set_option linter.all false
set_option maxRecDepth 100000
set_option maxHeartbeats 2000000
/-! A lambda that is held as a value: made; called by a def that got it, in a block of the frame that made it. -/
namespace LG
open PySem PySem.Spec PyProof.Rows L2 LamX
/-- the function object of a lambda at f, its code object at c', its cells clo -/
def LamO (f c' : Addr) (q : Str) (params : Arguments) (body : Expr) (scope : Scope) (clo : List (Str × Addr)) : HO :=
  .ext fun h => ∃ pm ctv : Value, h.get? f = some (PySem.W.kla_obj "<lambda>" q params body scope clo pm c' ctv)
theorem lamO_tbl {f c' : Addr} {q : Str} {params : Arguments} {body : Expr} {scope : Scope} {clo : List (Str × Addr)} (ps : Array Value) : LamO f c' q params body scope clo ≠ .tbl ps := fun z => by
  unfold LamO at z
  cases z
theorem lamO_new {P : Program} {w : World} {H : Hp} {g : Heap} {c' : Addr} {q : Str} {params : Arguments} {body : Expr} {scope : Scope} {clo : List (Str × Addr)} {pm ctv : Value} :
    ObjOk P w H (g.push (PySem.W.kla_obj "<lambda>" q params body scope clo pm c' ctv)) g.objs.size (LamO g.objs.size c' q params body scope clo) :=
  ⟨⟨pm, ctv, Heap.get?_push_size _ rfl⟩, ⟨_, Heap.get?_push_size _ rfl⟩, fun _ _ ⟨pm, ctv, a⟩ st => ⟨pm, ctv, st _ a⟩⟩
section
variable {X : Cx} {pins : List (Addr × Obj)} {σ : L2.St} {H : Hp} {s : Shared}
/-- made: its function object is new, and told -/
theorem lam_new {T : List (Addr × Str)} {c P : Addr} {params : Arguments} {body : Expr} {scope : Scope} {pos : Pos} {E Q : Value → Shared → Prop} (I : Inv X pins σ H s) (TB : TabB X.base X.mg c P) (hcode : X.env.code = .ref c)
    (hm : (P, X.env.qual ++ "<lambda>") ∈ T) (hu : ∀ p ∈ T, p.1 = P → p.2 = X.env.qual ++ "<lambda>") (hT : Tabs T H) (hdef : defaultsOf params X.env = ([], [])) (L : LamS X.env.scope scope)
    (k : ∀ (f c' : Addr) (G : Hp) (z : Shared), Inv X pins σ G z → ExtN H G → Tabs T G → H f = none → G f = some (LamO f c' (X.env.qual ++ "<lambda>") params body scope (cloFrom X.env.cells scope.names [])) → G c' = some (CodeO c' (X.env.qual ++ "<lambda>")) → Q (.ref f) z) :
    wpAny (model X.prog X.w) X.A (eval (.Lambda params body scope pos) X.env) Q E s := by
  obtain ⟨ps, tb, tr, am⟩ := hT _ hm
  have cl := closure_ok (L.has I.ok)
  have gl := I.mod.glob.keeps I.bk
  have cd := TB.code.keeps I.bk
  have bm := TB.bm.keeps I.bk
  refine PySem.W.kla_eval hdef ?_
  cases e : codeAmong pos ps.toList with
  | some cv =>
    obtain ⟨c', rfl, kc⟩ := am pos cv e
    refine PySem.W.kla_makeFunctionHit cl I.ok.glob gl hcode cd (I.hok P _ tb) tr e bm fun ctv g tk kp sz => ?_
    have nf : H g.objs.size = none := I.hok.fresh sz
    have J := I.laid (a := g.objs.size) (t' := tk) (fun b o z => Heap.get?_push_of_some _ (kp b o z)) sz (lamO_new (P := X.prog) (w := X.w) (H := upd H g.objs.size (LamO g.objs.size c' (X.env.qual ++ "<lambda>") params body scope (cloFrom X.env.cells scope.names []))) (pm := (X.mg "__name__").getD .none) (ctv := ctv))
    have sm := same_new nf (LamO g.objs.size c' (X.env.qual ++ "<lambda>") params body scope (cloFrom X.env.cells scope.names []))
    exact k _ c' _ _ J (ExtN.of sm) (hT.ext sm) nf upd_same (sm _ _ kc)
  | none =>
    refine PySem.W.kla_makeFunction cl I.ok.glob gl hcode cd (I.hok P _ tb) tr e TB.gP bm fun c' ctv g tk kp ge lt rec_ tb2 => ?_
    obtain ⟨c2, oc, vs, t, e2, hoc, hd, hv⟩ := rec_
    cases e2
    have nC : H c' = none := I.hok.fresh ge
    have J1 := inv_table (t' := tk) (more := #[rawInt pos.line, rawInt pos.col, .ref c']) I tb (fun b o hb z => kp b o hb z) tb2 ge ⟨oc, vs, t, hoc, hd, hv⟩
    have sz : s.heap.objs.size ≤ g.objs.size := Nat.le_of_lt (Nat.lt_of_le_of_lt ge lt)
    have e1 : ExtN H (upd (upd H P (.tbl (ps ++ #[rawInt pos.line, rawInt pos.col, .ref c']))) c' (CodeO c' (X.env.qual ++ "<lambda>"))) := fun b o z n => by
      rw [upd_ne (ne_of_none z nC), upd_ne (fun y => n ps (Option.some.inj (z.symm.trans (by rw [y]; exact tb))))]
      exact z
    have T1 : Tabs T (upd (upd H P (.tbl (ps ++ #[rawInt pos.line, rawInt pos.col, .ref c']))) c' (CodeO c' (X.env.qual ++ "<lambda>"))) := fun p hp => by
      by_cases hb : p.1 = P
      · refine ⟨ps ++ #[rawInt pos.line, rawInt pos.col, .ref c'], by rw [hb, upd_ne (ne_of_none tb nC), upd_same], ?_, fun p' cv hcv => ?_⟩
        · rw [show (ps ++ #[rawInt pos.line, rawInt pos.col, .ref c']).toList = ps.toList ++ [rawInt pos.line, rawInt pos.col, .ref c'] by simp]
          exact PySem.TriplesOk_snoc _ _ _ _ tr
        · rw [show (ps ++ #[rawInt pos.line, rawInt pos.col, .ref c']).toList = ps.toList ++ [rawInt pos.line, rawInt pos.col, .ref c'] by simp] at hcv
          rw [hu p hp hb]
          rcases among_app _ tr hcv with z | z
          · obtain ⟨c0, y1, y2⟩ := am p' cv z
            exact ⟨c0, y1, e1 _ _ y2 codeO_ne⟩
          · exact ⟨c', z, upd_same⟩
      · obtain ⟨qs, a1, a2, a3⟩ := hT p hp
        exact ⟨qs, by rw [upd_ne (ne_of_none a1 nC), upd_ne hb]; exact a1, a2, fun p' cv hcv => let ⟨c0, y1, y2⟩ := a3 p' cv hcv; ⟨c0, y1, e1 _ _ y2 codeO_ne⟩⟩
    have hc1 : (upd (upd H P (.tbl (ps ++ #[rawInt pos.line, rawInt pos.col, .ref c']))) c' (CodeO c' (X.env.qual ++ "<lambda>"))) c' = some (CodeO c' (X.env.qual ++ "<lambda>")) := upd_same
    generalize upd (upd H P (.tbl (ps ++ #[rawInt pos.line, rawInt pos.col, .ref c']))) c' (CodeO c' (X.env.qual ++ "<lambda>")) = H1 at J1 e1 T1 hc1
    · have nf : H1 g.objs.size = none := J1.hok.fresh (Nat.le_refl _)
      have J := J1.laid (a := g.objs.size) (t' := tk) (fun b o z => Heap.get?_push_of_some _ z) (Nat.le_refl _) (lamO_new (P := X.prog) (w := X.w) (H := upd H1 g.objs.size (LamO g.objs.size c' (X.env.qual ++ "<lambda>") params body scope (cloFrom X.env.cells scope.names []))) (pm := (X.mg "__name__").getD .none) (ctv := ctv))
      have sm := same_new nf (LamO g.objs.size c' (X.env.qual ++ "<lambda>") params body scope (cloFrom X.env.cells scope.names []))
      exact k _ c' _ _ J (e1.trans (ExtN.of sm)) (T1.ext sm) (I.hok.fresh sz) upd_same (sm _ _ hc1)
def tLamv (T : List (Addr × Str)) (o : Addr → Addr → HO) (q : Str) : TE := fun _ H Q => Tabs T H ∧ ∀ (f c' : Addr) (G : Hp), ExtN H G → Tabs T G → H f = none → G f = some (o f c') → G c' = some (CodeO c' q) → Q (.ref f) G
end
section
variable {X : Cx}
/-- lambda: body, as a value -/
theorem pe_lamv {T : List (Addr × Str)} {c P : Addr} {params : Arguments} {body : Expr} {scope : Scope} {pos : Pos} (TB : TabB X.base X.mg c P) (hcode : X.env.code = .ref c) (hm : (P, X.env.qual ++ "<lambda>") ∈ T) (hu : ∀ p ∈ T, p.1 = P → p.2 = X.env.qual ++ "<lambda>")
    (L : LamS X.env.scope scope) (hdef : defaultsOf params X.env = ([], [])) :
    PE X (.Lambda params body scope pos) (tLamv T (fun f c' => LamO f c' (X.env.qual ++ "<lambda>") params body scope (cloFrom X.env.cells scope.names [])) (X.env.qual ++ "<lambda>")) := by
  refine ⟨fun pins s σ H Q I ⟨hT, h⟩ => ?_⟩
  exact lam_new I TB hcode hm hu hT hdef L fun f c' G z J e T1 nf hf hc => ⟨.ref f, G, J, rfl, h f c' G e T1 nf hf hc⟩
end
/-! ### a list comprehension whose element may rest on the frame as it stands at the block's start -/
section
variable {X : Cx}
theorem pe_lcS {elt tg iter : Expr} {ifs : List Expr} {scope : Scope} {own : List (Str × Nat)} {pos : Pos} {wi : TI} {g : TG} {tt : TT} {te : L2.St → TE} (hc : X.calm = true) (hN : X.N.Nodup) (hi : PI X tg iter wi) (ok : BlkOk X.N X.env.scope scope own)
    (hg : ∀ (s : Shared) (H : Hp) (C : Addr) (cl : List (Str × Addr)) (fp : List Addr), PG (X.blk s H scope (compEnvC scope cl C X.env) fp) tg g) (ht : ∀ (s : Shared) (H : Hp) (C : Addr) (cl : List (Str × Addr)) (fp : List Addr), PTs (X.blk s H scope (compEnvC scope cl C X.env) fp) ifs tt)
    (he : ∀ (pins : List (Addr × Obj)) (σ : L2.St) (s : Shared) (H : Hp) (C : Addr) (cl : List (Str × Addr)) (fp : List Addr), Inv X pins σ H s → (∀ b ∈ fp, FpOk X pins H b) → PE (X.blk s H scope (compEnvC scope cl C X.env) fp) elt (te σ)) (hs : ∀ x, foldedSetIterable iter X.env x = pure x := by intro _; rfl) :
    PE X (.ListComp elt [⟨tg, iter, ifs, 0⟩] scope pos) (fun σ H Q => tLc wi g tt (te σ) (own.map (·.2)) σ H Q) := by
  refine ⟨fun pins s σ H Q I h => ?_⟩
  rw [eval_ListComp]
  have fr : ∀ y ∈ scope.names, y.2 = .free → ∃ c, X.env.cells.lookup y.1 = some c := fun y hy e => (ok.free y hy e).elim (fun k => I.ok.has _ (.inl k)) fun k => I.ok.has _ (.inr k)
  refine wpAny_comprehension_free (use := none) rfl hs (closure_ok fr) ok.kind (fun y hy e => by rw [ok.uniq y hy, e]) ?_
  refine thn (hi.run pins s σ H _ I h) fun xv s1 hx => thn hx fun itv s2 ⟨it, fp, tn, J, H2, ev, I2, T, st2, f2, q⟩ => ?_
  subst ev
  refine wpAny_newObj_type (newEnv_comp ?_) (by show 0 ≤ sizeLine; decide)
  obtain ⟨D, hD⟩ : ∃ D, D = s2.heap.objs.size := ⟨_, rfl⟩
  rw [← hD]
  obtain ⟨W, ⟨m0, w0⟩, turn⟩ := q D (I2.hok.fresh (Nat.le_of_eq hD.symm))
  obtain ⟨s3, hs3⟩ : ∃ z : Shared, z = { s2 with heap := s2.heap.push { cls := .type "list", data := .seq ([] : List Value).toArray } } := ⟨_, rfl⟩
  have I3 : Inv X pins σ (upd H2 D (.lst [])) s3 := by
    rw [hs3]
    exact I2.laid (t' := s2.toks) (fun b o e => Heap.get?_push_of_some _ e) (Nat.le_of_eq hD.symm) ⟨Nat.zero_le _, [], 0, .nil, by rw [hD]; exact Heap.get?_push_size _ rfl⟩
  have f3 : ∀ b ∈ fp, FpOk X pins (upd H2 D (.lst [])) b ∧ b < s3.heap.objs.size := fun b hb => by
    obtain ⟨o, e, _⟩ := T.obj _ _ st2 b hb
    have lt := Heap.lt_size e
    refine ⟨⟨?_, (f2 b hb).2⟩, ?_⟩
    · rw [upd_ne (by rw [hD]; exact Nat.ne_of_lt lt)]
      exact (f2 b hb).1
    · rw [hs3]
      show b < (s2.heap.push _).objs.size
      rw [Heap.size_push]
      exact Nat.lt_succ_of_lt lt
  have st3 : tn 0 s3.heap := T.keep _ _ _ st2 fun b _ o e => by rw [hs3]; exact Heap.get?_push_of_some _ e
  obtain ⟨C, hC⟩ : ∃ C, C = s3.heap.objs.size := ⟨_, rfl⟩
  obtain ⟨cl, hcl⟩ : ∃ cl, cl = cellsFrom (s3.heap.objs.size + 1) scope.names (cloFrom X.env.cells scope.names []) := ⟨_, rfl⟩
  have I4 := block_start I3 ok hN f3
  rw [← hC] at hcl I4
  rw [← hcl] at I4
  obtain ⟨s4, hs4⟩ : ∃ z : Shared, z = { s3 with heap := pushCells (s3.heap.push { cls := .type "dict", data := .dict #[] }) scope.names } := ⟨_, rfl⟩
  rw [← hs4] at I4
  have st4 : tn 0 s4.heap := T.keep _ _ _ st3 fun b _ o e => by rw [hs4]; exact pushCells_keeps _ _ _ _ (Heap.get?_push_of_some _ e)
  have pe := he pins σ s3 (upd H2 D (.lst [])) C cl fp I3 fun b hb => (f3 b hb).1
  have pg := hg s3 (upd H2 D (.lst [])) C cl fp
  have pt := ht s3 (upd H2 D (.lst [])) C cl fp
  have fin : codeAny (model X.prog X.w) X.A (.compStart (.ListComp elt [⟨tg, iter, ifs, 0⟩] scope pos) 0 (.ref it) (.ref D) (compEnvC scope cl C X.env)) (compPost (model X.prog X.w) X.A X.xe none (EP X pins σ Q) (.ref D) C) s4 := ?_
  · rw [hs4, hcl, hC, hs3] at fin
    rw [hs3] at I3
    exact fin
  have cL : (compEnvC scope cl C X.env).locals = C := rfl
  generalize compEnvC scope cl C X.env = ce at I4 pe pg pt cL ⊢
  have nf3 : ∀ b ∈ fp, (upd H2 D (.lst [])) b = none := fun b hb => (f3 b hb).1.1
  have f3' : ∀ b ∈ fp, FpOk X pins (upd H2 D (.lst [])) b := fun b hb => (f3 b hb).1
  generalize upd H2 D (.lst []) = H3 at I3 I4 pe pg pt w0 nf3 f3'
  clear f3
  generalize hY : X.blk s3 H3 scope ce fp = Y at I4 pe pg pt
  have yE : Y.env = ce := by rw [← hY]
  have stat : ∀ {σ' : L2.St} {G : Hp} {z : Shared}, Inv Y [] σ' G z → (∀ b ∈ fp, G b = none) → ∀ b ∈ fp, FpOk Y [] G b := by
    rw [← hY]
    exact fun {σ' G z} I' hn b hb => ⟨hn b hb, (I'.ok.exf b hb).1, I'.ok.exfs b hb, .inl hb, fun x c e => (I'.ok.exf b hb).2 x c e, fun p hp => absurd (show p ∈ ([] : List (Addr × Obj)) ++ [] from hp) (by simp)⟩
  have back : ∀ {σ' : L2.St} {G : Hp} {z : Shared}, Inv Y [] σ' G z → Inv X pins σ G z := by
    rw [← hY]
    exact fun {σ' G z} I' => I3.call' (ch := fp) I'.os I'.base I'.hok I'.bare fun b hb => ⟨(f3' b hb).2.2.2.1, (f3' b hb).2.1, (f3' b hb).2.2.2.2.1, (f3' b hb).2.2.2.2.2⟩
  have yP : Y.prog = X.prog := by rw [← hY]
  have yW : Y.w = X.w := by rw [← hY]
  have yK : Y.K = X.K := by rw [← hY]
  have yA : Y.A = X.A := by rw [← hY]
  have yx : Y.xe = fun _ _ => False := by rw [← hY]
  have yc : Y.calm = true := by rw [← hY]; exact hc
  have kE : ce = Y.env := yE.symm
  have loop : codeAny (model X.prog X.w) X.A (.compLoop (.ListComp elt [⟨tg, iter, ifs, 0⟩] scope pos) 0 (.ref it) (.ref D) ce) (compPost (model X.prog X.w) X.A X.xe none (EP X pins σ Q) (.ref D) C) s4 := ?_
  · exact codeAny_compStart_list loop (T.self X.A 0 _ _ _ st4 loop)
  refine compLoop_any (fun n z => ∃ i G, Inv Y [] (wipe σ (own.map (·.2))) G z ∧ tn i z.heap ∧ (∀ b ∈ fp, G b = none) ∧ W i n G) ?_ m0 ⟨0, H3, I4, st4, nf3, w0⟩
  rintro n s5 ⟨i, G5, I5, st5, n5, w5⟩
  rw [kE]
  rcases turn i n G5 w5 with ⟨stop, qq⟩ | ⟨go, Nx, hNx, step⟩
  · have td := T.done Y yP yW yK yc i [] s5 _ G5 (fun _ _ => False) I5 (stat I5 n5) st5 stop
    rw [yA] at td
    refine thnF td fun r s6 ⟨hr, I6⟩ => ?_
    subst hr
    have I7 := back I6
    have nC : G5 C = none := by
      have z := I6.free
      rw [yE, cL] at z
      exact z
    obtain ⟨m, hn, _⟩ := I6.loc
    rw [yE, cL] at hn
    obtain ⟨e0, e1, e2, e3, e4, e5⟩ := I3.fpOk (Nat.le_of_eq hC.symm) nC
    exact ⟨m, hn, fun h'' sb => ⟨.ref D, G5, I7.turned (t' := s6.toks) (fun b o hb e => (sb.2 b hb).trans e) e0 e1 e3 e4 e5, rfl, qq⟩⟩
  · have ti := T.item Y yP yW yK yc i [] s5 _ G5 (fun _ _ => False) I5 (stat I5 n5) st5 go
    rw [yA] at ti
    refine thnF ti fun r s6 ⟨u, hr, h6⟩ => ?_
    subst hr
    rw [← yP, ← yW, ← yA]
    rw [← yP, ← yW, ← yA] at h6
    refine thnF h6 fun _ s7 ⟨x, G7, I7, r7, y7, st7, n7⟩ => ?_
    have I7' := I7.pinned (stat I7 n7) (T.obj _ _ st7)
    have pg1 := pg.run _ s7 _ G7 x u _ I7' r7 (step x G7 y7)
    rw [yx] at pg1
    refine thnF pg1 fun _ s8 ⟨σ8, G8, I8, hw8, q8⟩ => ?_
    have pt1 := pt.run _ s8 σ8 G8 _ I8 q8
    rw [yx] at pt1
    refine thnF pt1 fun b s9 ⟨G9, I9, q9⟩ => ?_
    have nxt : ∀ {z : Shared} {G : Hp}, Inv Y ([] ++ pinsAt fp s7.heap) σ8 G z → Nx G → ∃ m, m < n ∧ ∃ i G, Inv Y [] (wipe σ (own.map (·.2))) G z ∧ tn i z.heap ∧ (∀ b ∈ fp, G b = none) ∧ W i m G := by
      intro z G J nx
      obtain ⟨m', lt, w'⟩ := hNx G nx
      have pin' : ∀ b ∈ fp, ∀ o, s7.heap.get? b = some o → z.heap.get? b = some o ∧ G b = none := fun b hb o e => ⟨(J.pin (b, o) (List.mem_append_right _ (List.mem_append_right _ (mem_pinsAt hb e)))).1, (J.pin (b, o) (List.mem_append_right _ (List.mem_append_right _ (mem_pinsAt hb e)))).2.1⟩
      have ln : (wipe σ (own.map (·.2))).length = σ8.length := by rw [← hw8, wipe_length]
      refine ⟨m', lt, i + 1, G, (J.unpinned (pins := [])).weak ln (fun j v e => ?_), T.keep _ _ _ st7 fun b hb o e => (pin' b hb o e).1, fun b hb => ?_, w'⟩
      · rw [← hw8] at e
        exact (wipe_some e).1
      · obtain ⟨o, e, _⟩ := T.obj _ _ st7 b hb
        exact (pin' b hb o e).2
    cases b with
    | false => exact nxt I9 q9
    | true =>
      have pe1 := pe.run _ s9 σ8 G9 _ I9 q9
      rw [yx] at pe1
      refine thnF pe1 fun z s10 ⟨yv, G10, I10, r10, acc, hD10, hz10, nx⟩ => ?_
      exact app_ok (X := Y) I10 hD10 hz10 r10 fun s11 I11 => nxt I11 nx
end
end LG
set_option Elab.async false
set_option linter.all false
set_option maxRecDepth 100000
set_option maxHeartbeats 2000000
namespace LG
open PySem PySem.Spec PyProof.Rows L2 LamX
/-- a lambda of a frame: its text, and what its body asks -/
structure Lam where
  params : Arguments
  body : Expr
  scope : Scope
  t : XK → TE
def Lam.o (l : Lam) (X : Cx) (f c' : Addr) : HO := LamO f c' (X.env.qual ++ "<lambda>") l.params l.body l.scope (cloFrom X.env.cells l.scope.names [])
theorem Lam.o_tbl (l : Lam) (X : Cx) (f c' : Addr) : ∀ ps, l.o X f c' ≠ .tbl ps := lamO_tbl
section
variable {X : Cx} {pins : List (Addr × Obj)} {σ : L2.St} {H : Hp} {s : Shared}
/-- the lambda's body begins, the frame's cells as they were at s -/
theorem lam_start3 {A : Around} {outer : List Env} {E : XK} {scope : Scope} {f c' : Addr} {g : Heap} {tk : Nat} {z : Shared} {HZ : Hp} (I : Inv X pins σ H s) (L : LamS X.env.scope scope) (e0 : Env0 X.prog X.w X.K X.mg X.base A outer z HZ) (hd : A.handled = none)
    (kc : ∀ y c, X.env.cells.lookup y = some c → HZ c = none ∧ ∀ v, s.heap.IsCell c v → z.heap.IsCell c v) (ns : g.Ns z.heap.objs.size fun y => ([] : List (Str × Value)).reverse.lookup y) (kp : ∀ b o, z.heap.get? b = some o → g.get? b = some o) :
    Inv (lamCx X A outer z HZ E scope f c') [] σ HZ { z with heap := g, toks := tk } := by
  have mem : ∀ {y c}, (cloFrom X.env.cells scope.names []).lookup y = some c → X.env.cells.lookup y = some c := by
    intro y c e
    rcases cloFrom_mem (PySem.mem_of_lookup e) with hm | ⟨h1, h2⟩
    · cases hm
    · obtain ⟨c1, hc⟩ := L.has I.ok _ h1 rfl
      dsimp only at hc
      rw [h2, hc]
      rfl
  have look : ∀ {y}, scope.names.lookup y = some .free → ∃ c, (cloFrom X.env.cells scope.names []).lookup y = some c := fun {y} hl => mem_lookup (cloFrom_has (cells := X.env.cells) (acc := []) (PySem.mem_of_lookup hl))
  have cells : ∀ {c : Addr} {v : Option Value} {y : Str}, X.env.cells.lookup y = some c → s.heap.IsCell c v → g.IsCell c v := by
    intro c v y e q
    obtain ⟨o, ho, hv⟩ := (kc y c e).2 v q
    exact ⟨o, kp _ _ ho, hv⟩
  have noE : ∀ b : Addr, b ∉ (lamCx X A outer z HZ E scope f c').ex := fun b q => by cases (show b ∈ ([] : List Addr) from q)
  have okL : (lamCx X A outer z HZ E scope f c').Ok :=
    { mod := e0.mod, kind := L.kind, glob := rfl, blt := rfl, above := Nat.le_refl _, inj := fun y1 y2 c a b => I.ok.inj y1 y2 c (mem a) (mem b)
      has := fun y hy => hy.elim (fun k => absurd rfl (L.own _ (PySem.mem_of_lookup (show scope.names.lookup y = some .cell from k))).2) look
      cab := fun y c q _ => absurd (show false = true from q) (by decide)
      hd := fun _ => hd, frames := Around.frames_deeper e0.frames, stk := .inr ⟨rfl, rfl⟩, exf := fun b q => absurd q (noE b), bs := e0.bs, bsz := e0.bsz, noex := fun b _ _ => noE b, exfs := fun b q => absurd q (noE b), funs := e0.funs, frf := e0.frf }
  refine ⟨okL, rfl, e0.bare, Un.kept kp, ⟨_, ns, fun i y v e1 e2 e3 => ?_⟩, fun y c e => ?_, e0.hok.fresh (Nat.le_refl _), fun y c e => (kc y c (mem e)).1, fun q hq => ?_, e0.hok.kept kp, I.len⟩
  · have e3 : Vis scope y := e3
    rcases e3 with k | k | k
    · exact absurd rfl (L.own _ (PySem.mem_of_lookup k)).1
    · exact absurd rfl (L.own _ (PySem.mem_of_lookup k)).2
    obtain ⟨m, _, hl⟩ := I.loc
    have kind := L.free _ (PySem.mem_of_lookup k) rfl
    obtain ⟨u, r, q⟩ := hl i y v e1 e2 (kind.elim (fun k => .inr (.inl k)) (fun k => .inr (.inr k)))
    obtain ⟨c2, h2⟩ := look k
    refine ⟨u, r, .inr ⟨.inr k, c2, h2, ?_⟩⟩
    rcases q with ⟨k', _⟩ | ⟨_, c3, e', q⟩
    · have k' : X.env.scope.names.lookup y = some .local := k'
      rcases kind with k2 | k2
      · exact absurd (k'.symm.trans k2) (by simp)
      · exact absurd (k'.symm.trans k2) (by simp)
    · have c1 := mem h2
      rw [c1] at e'
      cases e'
      exact cells c1 q
  · obtain ⟨u, q⟩ := I.cell y c (mem e)
    exact ⟨u, cells (mem e) q⟩
  · cases (show q ∈ ([] : List (Addr × Obj)) ++ [] from hq)
/-- the def that got the lambda calls it -/
theorem pe_act3 {fp : List Addr} {s1 : Shared} {H1 : Hp} {Ng : List Str} {qg : Str} {sg : Scope} {g : Addr} {cdg : Value} {k i : Nat} {a : Str} {pn : List (Addr × Obj)} {xe : Value → Shared → Prop} {W : WX} {p1 p2 : Pos} (l : Lam)
    (I : Inv X pins σ H s) (L : LamS X.env.scope l.scope) (un : Un (frs X.stack) fp H H1 s.heap s1.heap) (hfp : ∀ b ∈ fp, ∀ y c, X.env.cells.lookup y = some c → c ≠ b)
    (hbind : ∀ (q : Str) (cl : List (Str × Addr)) (pm cv ctv : Value), bindArgs (PySem.W.kla_fn "<lambda>" q l.params l.body l.scope cl pm cv ctv) ⟨[], []⟩ = pure [])
    (tk : Takes ((cxOf CX0 X.prog X.w X.K X.mg X.base Ng qg sg g cdg X.A X.stack s1 H1 E0).tr pn xe) W) (hr : Room (k + 1) (X.A.deeper (envOfC qg sg s1.heap.objs.size g cdg)))
    (hbody : ∀ (A : Around) (outer : List Env) (s : Shared) (H : Hp) (E : XK) (f c' : Addr), Room k (A.deeper (lamEnv X l.scope s.heap.objs.size f c')) → PE (lamCx X A outer s H E l.scope f c') l.body (l.t E))
    (hN : Ng[i]? = some a) (hv : Vis sg a) (hd : (a == ("__debug__" : Str)) = false := by decide) (hcd : (a == ("__classdict__" : Str)) = false := by decide) :
    PE ((cxOf CX0 X.prog X.w X.K X.mg X.base Ng qg sg g cdg X.A X.stack s1 H1 E0).tr pn xe) (.Call (.Name a p1) [] [] p2)
      (fun σZ HZ Q => ∃ f c' : Addr, σZ[i]? = some (some (.ref f)) ∧ HZ f = some (l.o X f c') ∧ HZ c' = some (CodeO c' (X.env.qual ++ "<lambda>")) ∧ ∃ E : XK, (∀ cls d H', E cls d H' → W cls d σZ H') ∧ l.t E σ HZ Q) := by
  refine ⟨fun pinsZ sZ σZ HZ Q IZ ⟨f, c', slot, fo, code, E, hW, ht⟩ => ?_⟩
  refine wpAny_Call_Name_kw (thn ((pe_var (pos := p1) (i := i) hN hv hd hcd).run pinsZ sZ σZ HZ (fun v G => v = .ref f ∧ G = HZ) IZ ⟨.ref f, slot, rfl, rfl⟩) fun u z1 ⟨v, G, I1, r1, ev, eG⟩ => ?_)
  subst ev
  rw [eG] at I1
  have eu : u = Value.ref f := r1
  subst eu
  obtain ⟨⟨pm, ctv, fn1⟩, _, _⟩ := I1.hok f _ fo
  refine PySem.W.callWith_F0 ⟨_, _, _, _, fn1⟩ ?_
  have un2 : Un (frs X.stack) [] H1 HZ s1.heap z1.heap := I1.base
  obtain ⟨⟨oc, vs, t, hoc, hdc, hvc⟩, _, _⟩ := I1.hok c' _ code
  have kc : ∀ y c, X.env.cells.lookup y = some c → HZ c = none ∧ ∀ v, s.heap.IsCell c v → z1.heap.IsCell c v := by
    intro y c e
    have n0 := I.freeC y c e
    have nx : c ∉ fp := fun z => hfp c z y c e rfl
    obtain ⟨v0, o0, g0, _⟩ := I.cell y c e
    have n1 := un.free c o0 g0 n0 nx
    obtain ⟨sl, g1⟩ := un.any g0 n0 nx
    refine ⟨un2.free c _ g1 n1 (by simp), fun v ⟨o, ho, hv⟩ => ?_⟩
    obtain ⟨sl1, y1⟩ := un.any ho n0 nx
    obtain ⟨sl2, y2⟩ := un2.any y1 n1 (by simp)
    exact ⟨_, y2, hv⟩
  have rc : codeAny (model X.prog X.w) (X.A.deeper (envOfC qg sg s1.heap.objs.size g cdg)) (.call (.ref f) ⟨[], []⟩) (CR (L2.CX X.prog X.w) (envOfC qg sg s1.heap.objs.size g cdg :: X.stack) X.prog X.w HZ z1 Q E) z1 := by
    refine PySem.W.kla_callFunE hr.depth fn1 rfl L.co L.gen rfl ⟨c', oc, vs, t, rfl, hoc, hdc, hvc⟩ ?_
    rw [hbind]
    refine wpAny_pure (wpAny_newFunctionEnv (fun y hy => (L.own y hy).2) (fun y hy => absurd hy (by simp)) (fun g1 hns hsb => ⟨I1.nolimit.fresh _ hsb, ?_⟩) L.kind)
    show codeAny _ _ (.expr l.body (lamEnv X l.scope z1.heap.objs.size f c')) _ _
    have kp : ∀ b o, z1.heap.get? b = some o → g1.get? b = some o := fun b o e => hsb.extBut b o (Nat.ne_of_lt (Heap.lt_size e)) (Heap.get?_push_of_some _ e)
    have J := lam_start3 (f := f) (c' := c') (E := E) (tk := z1.toks + ([] : List (Str × Value)).length) I L I1.env0 hr.hd kc hns kp
    refine PySem.W.kla_codeExpr (wpAny_mono ((hbody _ _ z1 HZ E f c' (hr.deeper _)).run [] _ _ HZ Q J ht) (fun v z' hq => ?_) fun _ _ hq => hq)
    obtain ⟨w', H', J', rv, q⟩ := hq
    exact ⟨w', H', J'.os, J'.bare, J'.base, J'.hok, rv, q⟩
  refine wpAny_call (codeAny_mono rc fun r z' hq => ?_)
  match r, hq with
  | .error e, hq => exact tk e z' (XE.of_call I1 (fun cls d H' q => hW cls d H' q) hq)
  | .ok (.ret u), hq => exact I1.after hq
  | .ok .next, hq => exact hq.elim
  | .ok .brk, hq => exact hq.elim
  | .ok .cont, hq => exact hq.elim
/-- such a def called in a block of the frame, with a lambda that is held -/
theorem pe_toldv {ι : Type} (fam : ι → Lam) {bs : Scope} {ce : Env} {fp : List Addr} (I0 : Inv X pins σ H s) (f0 : ∀ b ∈ fp, FpOk X pins H b) {TT : (XK → Hp → VK → Prop) → Hp → VK → Prop} {x a : Str} {g : Addr} {k : Nat} {pg : Arguments} {bg : List Stmt} {sg : Scope} {dV kV doc pm cdv ct oc : Value} {an od : Option Addr} {osl : Array (Option Value)} {Ng : List Str}
    {y : Str} {ta : TE} {p py pos : Pos} (hg : Gl (X.blk s H bs ce fp) x) (hm : X.mg x = some (.ref g)) (hk : PySem.W.keepIn X.K (.ref g) = true)
    (lk : X.K.lookup g = some ⟨oc, od, .func (PySem.W.fnOf x x pg bg sg dV kV doc pm an cdv ct), osl⟩) (hcg : PySem.W.codeIn X.K cdv x = true) (hb : L2.Binds X.K (PySem.W.fnOf x x pg bg sg dV kV doc pm an cdv ct) [a] []) (Sg : FnScope Ng [a] sg) (hNg : Ng[0]? = some a) (hva : Vis sg a)
    (hG : Gives2 (X.blk s H bs ce fp) Ng x sg g cdv bg a (X.env.qual ++ "<lambda>") TT) (hTT : ∀ (tl : XK → Hp → VK → Prop) (o : HO) (f : Addr) (G : Hp) (Q : VK), G f = some o → TT tl G Q → TT (fun E G' R => G' f = some o ∧ tl E G' R) G Q)
    (hr : Room (k + 2) X.A) (L : ∀ j, LamS X.env.scope (fam j).scope) (hbind : ∀ (j : ι) (q : Str) (cl : List (Str × Addr)) (pm cv ctv : Value), bindArgs (PySem.W.kla_fn "<lambda>" q (fam j).params (fam j).body (fam j).scope cl pm cv ctv) ⟨[], []⟩ = pure [])
    (hbody : ∀ (j : ι) (A : Around) (outer : List Env) (s : Shared) (H : Hp) (E : XK) (f c' : Addr), Room k (A.deeper (lamEnv X (fam j).scope s.heap.objs.size f c')) → PE (lamCx X A outer s H E (fam j).scope f c') (fam j).body ((fam j).t E)) (ha : PE (X.blk s H bs ce fp) (.Name y py) ta)
    (hdb : (x == ("__debug__" : Str)) = false := by decide) (hd : (a == ("__debug__" : Str)) = false := by decide) (hcd : (a == ("__classdict__" : Str)) = false := by decide) :
    PE (X.blk s H bs ce fp) (.Call (.Name x p) [.Name y py] [] pos) (fun σ' H' Q => ta σ' H' fun v G => ∃ (j : ι) (f c' : Addr), v = .ref f ∧ G f = some ((fam j).o X f c') ∧ G c' = some (CodeO c' (X.env.qual ++ "<lambda>")) ∧ TT (fun E G' R => (fam j).t E σ G' R) G Q) := by
  refine ⟨fun pins1 s1 σ1 H1 Q I1 h => ?_⟩
  refine wpAny_Call_Name_kw (ld_glob I1 hg hm ?_ hdb)
  refine PySem.W.callWith_K (h₀ := X.base) I1.ok.mod.kin hk ?_ (by rfl) (by rfl)
  show wpAny _ _ (spliced ((false, eval (.Name y py) (X.blk s H bs ce fp).env) :: backTo pos (starEach [] (X.blk s H bs ce fp).env))) _ _ s1
  refine Calls.spliced_cons (thn (ha.run pins1 s1 σ1 H1 _ I1 h) fun u z ⟨v, G, I2, rv, j, f, c', ev, fo, co, tt⟩ => Calls.spliced_nil ⟨I2.kIn, ?_⟩)
  subst ev
  have eu : u = Value.ref f := rv
  subst eu
  have un : Un (frs X.stack) fp H G s.heap z.heap := I2.base
  have rc : codeAny (model X.prog X.w) X.A (.call (.ref g) ⟨[.ref f], []⟩) (CR CX0 X.stack X.prog X.w G z Q E0) z := by
    refine run_ofS (N := Ng) (ps := [a]) (us := [.ref f]) (vs := [.ref f]) lk hcg Sg hr I2.env0 (hb z [.ref f] I2.kIn rfl) (.cons rfl .nil) rfl fun hr' => ?_
    obtain ⟨t', ht', hq'⟩ := hG f c' z G Q (fun E G' R => G' f = some ((fam j).o X f c') ∧ (fam j).t E σ G' R) (fun W pn xe p1 p2 tk => pe_imp (pe_act3 (X := X) (i := 0) (fam j) I0 (L j) un (fun b hb => (f0 b hb).2.2.2.2.1) (hbind j) tk hr' (hbody j) hNg hva hd hcd) fun σZ HZ Q' ⟨h0, hc, E, hW, ho, ht⟩ => ⟨f, c', h0, ho, hc, E, hW, ht⟩) co (hTT _ _ _ _ _ fo tt)
    exact ⟨t', ht'.nox, hq'⟩
  refine wpAny_call (codeAny_mono rc fun r z2 hq => ?_)
  match r, hq with
  | .error e, hq => exact (show False from hq).elim
  | .ok (.ret u), hq => exact I2.after hq
  | .ok .next, hq => exact hq.elim
  | .ok .brk, hq => exact hq.elim
  | .ok .cont, hq => exact hq.elim
end
end LG
set_option Elab.async false
set_option linter.all false
set_option maxRecDepth 100000
set_option maxHeartbeats 4000000
namespace LG
open PySem L2
theorem But.tup {K : PySem.W.Frag} {H H' : Hp} {p t b : _} {zs : List V} (e : But p H H') (hp : PotAt H p b) (h : SqT K H t zs) : SqT K H' t zs := by
  obtain ⟨own, sm, n, h1, _⟩ := hp
  rcases h with (q | ⟨o, q⟩) | q
  · exact .inl (.inl (e _ _ q (fun z => by rw [z, h1] at q; cases q)))
  · exact .inl (.inr ⟨o, e _ _ q (fun z => by rw [z, h1] at q; cases q)⟩)
  · exact .inr q
theorem But.put {p r : Addr} {H G : Hp} {o : HO} (e : But p H G) (nr : H r = none) : But p H (upd G r o) := fun c u h ne => by
  rw [upd_ne (ne_of_none h nr)]
  exact e c u h ne
theorem erase_perm : ∀ {zs : List V} {k : Nat} {y : V}, zs[k]? = some y → (y :: zs.eraseIdx k).Perm zs
  | [], k, y, h => by simp at h
  | z :: r, 0, y, h => by
    simp at h
    subst h
    exact List.Perm.refl _
  | z :: r, k + 1, y, h => by
    have ih := erase_perm (zs := r) (k := k) (y := y) (by simpa using h)
    exact (List.Perm.swap z y (r.eraseIdx k)).trans (ih.cons z)
theorem pick_perm {zs ys xs : List V} {k : Nat} {y : V} (h : (zs ++ ys).Perm xs) (hy : zs[k]? = some y) : (zs.eraseIdx k ++ (ys ++ [y])).Perm xs := by
  have h1 := erase_perm hy
  refine List.Perm.trans ?_ h
  have h2 : (zs.eraseIdx k ++ (ys ++ [y])).Perm ((y :: zs.eraseIdx k) ++ ys) := by
    rw [← List.append_assoc]
    refine (List.perm_append_singleton y (zs.eraseIdx k ++ ys)).trans ?_
    exact List.Perm.refl _
  exact h2.trans (h1.append_right ys)
/-- so many unlike places of a list -/
def spSome (K : PySem.W.Frag) : Sp := fun vs H Q _ => ∃ (p l : Addr) (m b : Nat) (xs : List V), vs = [.ref p, .ref l, .int m] ∧ PotAt H p b ∧ b + m ≤ 100000 ∧ SqL K H l xs ∧ l ≠ p ∧ m ≤ xs.length ∧ xs.length ≤ 1000 ∧
  ∀ (f : Addr) (ys : List V) (H' : Hp), But p H H' → PotAt H' p (b + m) → H f = none → f ≠ p → H' f = some (.lst ys) → ys.length = m → (∃ zs, (zs ++ ys).Perm xs) → Q (.ref f) H'
end LG
namespace K03
open PySem L2 LG
section
variable {P : Program} {w : World} {K : PySem.W.Frag} {mg : Str → Option Value} {base : Heap}
abbrev nS : List Str := ["_law_pot_here", "_law_pool", "_law_many", "_law_rest", "_law_found", "_law_lap"]
theorem scSome : FnScope nS ["_law_pot_here", "_law_pool", "_law_many"] (defScope sSome) := ⟨rfl, rfl, rfl, by decide +kernel, rfl, by decide +kernel, by decide +kernel⟩
theorem ok_some {f g : Addr} {fd gd : FuncData} (F : Fun K "_law_some" "_law_some" sSome f fd) (T : Bltn mg) (G : FnOk P w K mg base CX0 1 g gd ["_law_pot_here", "_law_upto"] spTake) (mG : mg "_law_take" = some (.ref g)) (kG : PySem.W.keepIn K (.ref g) = true) (bG : Binds K gd ["_law_pot_here", "_law_upto"] []) :
    FnOk P w K mg base CX0 2 f fd ["_law_pot_here", "_law_pool", "_law_many"] (spSome K) := by
  refine F.ok scSome (fun vs H Q E h => ?_) (fun cdv A outer s H vs Q E hr h => ?_)
  · obtain ⟨p, l, m, b, xs, rfl, _⟩ := h
    rfl
  obtain ⟨p, l, m, b, xs, rfl, hp, hb, hl, ne, hm, hx, q⟩ := h
  refine ⟨_, pss_cons (ps_par (i := 3) (j := 4) rfl scSome.nd rfl rfl (by decide) rfl rfl (pa_cons (pe_callTy call_list_of rfl T.list (by decide +kernel) (pa_cons (pv 1) pa_nil)) (pa_cons (pe_lst pa_nil) pa_nil)) (by rfl))
    (pss_cons (ps_for PassesOwn.never rfl (pi_range1 rfl T.range (pa_cons (pv 2) pa_nil)) (pg_name (i := 5) scSome.nd rfl (Or.inl rfl))
      (pss_one (ps_expr (pe_bm PySem.F.plainAttrs_list PySem.F.slot_list_append PySem.F.type_list_append mt_append (pv 4) (pa_cons
        (pe_bm PySem.F.plainAttrs_list PySem.F.slot_list_pop PySem.F.type_list_pop mt_popAt (pv 3) (pa_cons (pe_call G hr rfl mG kG bG .nil pass0 (pa_cons (pv 0) (pa_cons (pe_callB call_len_seq rfl T.len PySem.boot_len (pa_cons (pv 3) pa_nil)) pa_nil))) pa_nil)) pa_nil)))))
    (pss_one (ps_ret (pv 4)))), ?_⟩
  refine ⟨_, rfl, l, xs, rfl, .inl hl, fun r nr => ?_⟩
  have s1 := same_new nr (.lst xs)
  have hr1 : (upd H r (.lst xs)) r = some (.lst xs) := upd_same
  show _
  generalize upd H r (.lst xs) = H1 at s1 hr1 ⊢
  refine ⟨(by show 0 ≤ sizeLine; decide), fun fo nf => ?_⟩
  have s2 := same_new nf (.lst [])
  have hf2 : (upd H1 fo (.lst [])) fo = some (.lst []) := upd_same
  have hr2 := s2 _ _ hr1
  show _
  generalize upd H1 fo (.lst []) = H2 at s2 hf2 hr2 ⊢
  have nf0 : H fo = none := s1.free nf
  have nrf : r ≠ fo := ne_of_none hr1 nf
  have npr : r ≠ p := fun z => hp.there (by rw [← z]; exact nr)
  have npf : fo ≠ p := fun z => hp.there (by rw [← z]; exact nf0)
  refine ⟨_, _, rfl, _, rfl, _, rfl, (by omega), (by omega), ?_⟩
  refine for_range (lo := 0) (n := ((m : Int)).toNat) (fun i σ Gi => ∃ x5 zs ys, σ = [some (.ref p), some (.ref l), some (.int m), some (.ref r), some (.ref fo), x5] ∧ But p H Gi ∧ PotAt Gi p (b + i) ∧ Gi r = some (.lst zs) ∧ Gi fo = some (.lst ys) ∧ (zs ++ ys).Perm xs ∧ ys.length = i)
    ⟨_, xs, [], rfl, But.of (s1.trans s2), hp.same (s1.trans s2), hr2, hf2, by rw [List.append_nil], rfl⟩ ?_ ?_
  · rintro i σ Gi hi ⟨x5, zs, ys, rfl, bG, pG, hrG, hfG, perm, ly⟩
    have hlen := perm.length_eq
    rw [List.length_append] at hlen
    have z0 : 0 < zs.length := by omega
    refine ⟨_, rfl, .inl ⟨rfl, _, SqL.of hfG⟩, _, rfl, .inl ⟨rfl, _, SqL.of hrG⟩, _, rfl, _, rfl, r, _, rfl, .inl (SqL.of hrG), p, _, b + i, rfl, pG, by omega, by omega, by omega, fun k G2 k0 k1 but2 pot2 => ?_⟩
    have hr3 := but2 _ _ hrG npr
    have hf3 := but2 _ _ hfG npf
    have kz : k.toNat < zs.length := by omega
    have bG2 := bG.trans but2
    refine ⟨r, zs, k, k.toNat, zs[k.toNat], rfl, rfl, hr3, by omega, by omega, ?_, List.getElem?_eq_getElem kz, ?_⟩
    · unfold seqIndex?
      show (if (0 ≤ (if k < 0 then k + (zs.length : Int) else k) && (if k < 0 then k + (zs.length : Int) else k) < (zs.length : Int)) = true then _ else _) = _
      rw [if_neg (by omega : ¬ k < 0), if_pos (by simp; omega)]
    · have hf4 : (upd G2 r (.lst (zs.eraseIdx k.toNat))) fo = some (.lst ys) := by
        rw [upd_ne (Ne.symm nrf)]
        exact hf3
      refine ⟨fo, ys, _, rfl, rfl, hf4, by rw [sizeLine_eq]; omega, _, zs.eraseIdx k.toNat, ys ++ [zs[k.toNat]], rfl, (bG2.put nr).put nf0, ?_, ?_, upd_same, pick_perm perm (List.getElem?_eq_getElem kz), by rw [List.length_append, ly]; rfl⟩
      · obtain ⟨own, sm, n, h1, h2⟩ := pot2
        exact ⟨own, sm, n, by rw [upd_ne (Ne.symm npf), upd_ne (Ne.symm npr)]; exact h1, h2⟩
      · rw [upd_ne nrf, upd_same]
  · rintro σ Gi ⟨x5, zs, ys, rfl, bG, pG, hrG, hfG, perm, ly⟩
    have em : ((m : Int)).toNat = m := Int.toNat_natCast m
    rw [em] at ly pG
    exact ⟨_, rfl, q fo ys Gi bG pG nf0 npf hfG ly ⟨zs, perm⟩⟩
end
end K03
set_option Elab.async false
set_option linter.all false
set_option maxRecDepth 100000
set_option maxHeartbeats 4000000
namespace LG
open PySem L2
/-! ### drawn devices -/
def prodK (S C : List Str) : List (Str × Str) := S.flatMap fun s => C.map fun c => (s, c)
structure Drawn (D : Dev) : Prop where
  cn : D.calls.Nodup
  an : D.answers.Nodup
  sn : D.states.Nodup
  c1 : 1 ≤ D.calls.length ∧ D.calls.length ≤ 3
  a1 : 2 ≤ D.answers.length ∧ D.answers.length ≤ 3
  s1 : 1 ≤ D.states.length ∧ D.states.length ≤ 4
  cw : ∀ x ∈ D.calls, isNameB x = true
  aw : ∀ x ∈ D.answers, isNameB x = true
  sw : ∀ x ∈ D.states, isNameB x = true
  keys : D.goals.map (·.1) = prodK D.states D.calls
  vals : ∀ e ∈ D.goals, e.2.1 ∈ D.answers ∧ e.2.2 ∈ D.states
structure OwnAt (K : PySem.W.Frag) (H : Hp) (o : Addr) (D : Dev) : Prop where
  ex : ∃ c a s r kvs, H o = some (.dK [(.inr ("calls" : Str), .ref c), (.inr ("answers" : Str), .ref a), (.inr ("states" : Str), .ref s), (.inr ("rows" : Str), .ref r)]) ∧ H c = some (.lst (D.calls.map V.str)) ∧ H a = some (.lst (D.answers.map V.str)) ∧ H s = some (.lst (D.states.map V.str)) ∧
    H r = some (.dT kvs) ∧ GR K H kvs D.goals
theorem OwnAt.same {K : PySem.W.Frag} {H H' : Hp} {o : Addr} {D : Dev} (e : Same H H') (h : OwnAt K H o D) : OwnAt K H' o D := by
  obtain ⟨c, a, s, r, kvs, h1, h2, h3, h4, h5, h6⟩ := h.ex
  exact ⟨c, a, s, r, kvs, e _ _ h1, e _ _ h2, e _ _ h3, e _ _ h4, e _ _ h5, h6.same e⟩
theorem str_inj : Function.Injective V.str := fun _ _ h => V.str.inj h
theorem nodup_map_str {ns : List Str} (h : ns.Nodup) : (ns.map V.str).Nodup := by
  unfold List.Nodup at h ⊢
  rw [List.pairwise_map]
  exact h.imp fun ne e => ne (V.str.inj e)
theorem nodup_of_map_str {ns : List Str} (h : (ns.map V.str).Nodup) : ns.Nodup := by
  unfold List.Nodup at h ⊢
  rw [List.pairwise_map] at h
  exact h.imp fun ne e => ne (by rw [e])
theorem some_txt {zs ys : List V} {pool : List Str} (h : (zs ++ ys).Perm (pool.map V.str)) (nd : pool.Nodup) : ∃ ns : List Str, ys = ns.map V.str ∧ ns.Nodup ∧ ∀ n ∈ ns, n ∈ pool := by
  have mem : ∀ y ∈ ys, ∃ n ∈ pool, y = V.str n := fun y hy => by
    have := h.mem_iff.mp (List.mem_append_right zs hy)
    obtain ⟨n, hn, e⟩ := List.mem_map.mp this
    exact ⟨n, hn, e.symm⟩
  have nds : (zs ++ ys).Nodup := (h.nodup_iff).mpr (nodup_map_str nd)
  have ndy : ys.Nodup := (List.nodup_append.mp nds).2.1
  have ex : ∀ (l : List V), (∀ y ∈ l, ∃ n ∈ pool, y = V.str n) → ∃ ns : List Str, l = ns.map V.str ∧ ∀ n ∈ ns, n ∈ pool := by
    intro l
    induction l with
    | nil => exact fun _ => ⟨[], rfl, fun _ h => nomatch h⟩
    | cons y r ih =>
      intro hm
      obtain ⟨n, hn, rfl⟩ := hm y List.mem_cons_self
      obtain ⟨ns, rfl, hns⟩ := ih fun z hz => hm z (List.mem_cons_of_mem _ hz)
      refine ⟨n :: ns, rfl, fun z hz => ?_⟩
      rcases List.mem_cons.mp hz with rfl | hz
      · exact hn
      · exact hns z hz
  obtain ⟨ns, rfl, hns⟩ := ex ys mem
  exact ⟨ns, rfl, nodup_of_map_str ndy, hns⟩
theorem lookup_none_of {g : Goals} {k : Str × Str} (h : k ∉ g.map (·.1)) : g.lookup k = none := by
  induction g with
  | nil => rfl
  | cons e r ih =>
    obtain ⟨k', x⟩ := e
    have ne : ¬ k = k' := fun z => h (by simp [z])
    have nb : (k == k') = false := by simpa using ne
    have l : List.lookup k ((k', x) :: r) = List.lookup k r := by simp [List.lookup, nb]
    rw [l]
    exact ih fun z => h (by simp at z ⊢; exact .inr z)
theorem prod_take {S C : List Str} {i : Nat} (h : i < S.length) : prodK (S.take (i + 1)) C = prodK (S.take i) C ++ C.map fun c => (S[i], c) := by
  unfold prodK
  rw [List.take_add_one, List.getElem?_eq_getElem h, List.flatMap_append]
  simp
theorem prod_mem {S C : List Str} {k : Str × Str} : k ∈ prodK S C ↔ k.1 ∈ S ∧ k.2 ∈ C := by
  unfold prodK
  rw [List.mem_flatMap]
  constructor
  · rintro ⟨s, hs, h⟩
    obtain ⟨c, hc, rfl⟩ := List.mem_map.mp h
    exact ⟨hs, hc⟩
  · rintro ⟨h1, h2⟩
    exact ⟨k.1, h1, List.mem_map.mpr ⟨k.2, h2, rfl⟩⟩
theorem prod_len {S C : List Str} : (prodK S C).length = S.length * C.length := by
  induction S with
  | nil => simp [prodK]
  | cons s r ih =>
    have e : prodK (s :: r) C = (C.map fun c => (s, c)) ++ prodK r C := rfl
    rw [e, List.length_append, List.length_map, ih, List.length_cons, Nat.succ_mul]
    omega
theorem prod_nodup {S C : List Str} (hS : S.Nodup) (hC : C.Nodup) : (prodK S C).Nodup := by
  induction S with
  | nil => simp [prodK]
  | cons s r ih =>
    have e : prodK (s :: r) C = (C.map fun c => (s, c)) ++ prodK r C := rfl
    rw [e, List.nodup_append]
    obtain ⟨h1, h2⟩ := List.nodup_cons.mp hS
    refine ⟨?_, ih h2, ?_⟩
    · unfold List.Nodup at hC ⊢
      rw [List.pairwise_map]
      exact hC.imp fun ne z => ne (Prod.mk.inj z).2
    · intro a ha b hb z
      obtain ⟨c, _, rfl⟩ := List.mem_map.mp ha
      rw [← z] at hb
      exact h1 (prod_mem.mp hb).1
/-- references to the tuples of keys -/
inductive KeyRefs (H : Hp) : List V → List (Str × Str) → Prop
  | nil : KeyRefs H [] []
  | cons {t : Addr} {k : Str × Str} {vs : List V} {ks : List (Str × Str)} : H t = some (.tup ((kT k).map kV)) → KeyRefs H vs ks → KeyRefs H (.ref t :: vs) (k :: ks)
theorem KeyRefs.same {H H' : Hp} {vs : List V} {ks : List (Str × Str)} (e : Same H H') (h : KeyRefs H vs ks) : KeyRefs H' vs ks := by
  induction h with
  | nil => exact .nil
  | cons a _ ih => exact .cons (e _ _ a) ih
theorem KeyRefs.len {H : Hp} {vs : List V} {ks : List (Str × Str)} (h : KeyRefs H vs ks) : vs.length = ks.length := by
  induction h with
  | nil => rfl
  | cons _ _ ih => rw [List.length_cons, List.length_cons, ih]
theorem KeyRefs.perm {H : Hp} {vs vs' : List V} (e : vs'.Perm vs) : ∀ {ks : List (Str × Str)}, KeyRefs H vs ks → ∃ ks' : List (Str × Str), ks'.Perm ks ∧ KeyRefs H vs' ks' := by
  induction e with
  | nil => exact fun h => ⟨_, List.Perm.refl _, h⟩
  | cons x _ ih =>
    intro ks h
    cases h with
    | cons a r =>
      obtain ⟨ks', p, q⟩ := ih r
      exact ⟨_, p.cons _, .cons a q⟩
  | swap x y l =>
    intro ks h
    cases h with
    | cons a r => cases r with
      | cons b r => exact ⟨_, List.Perm.swap _ _ _, .cons b (.cons a r)⟩
  | trans _ _ ih1 ih2 =>
    intro ks h
    obtain ⟨ks1, p1, q1⟩ := ih2 h
    obtain ⟨ks2, p2, q2⟩ := ih1 q1
    exact ⟨ks2, p2.trans p1, q2⟩
theorem KeyRefs.get {H : Hp} {vs : List V} {ks : List (Str × Str)} (h : KeyRefs H vs ks) : ∀ {i : Nat} {v : V}, vs[i]? = some v → ∃ t k, v = .ref t ∧ ks[i]? = some k ∧ H t = some (.tup ((kT k).map kV)) := by
  induction h with
  | nil => intro i v e; simp at e
  | cons a _ ih =>
    intro i v e
    cases i with
    | zero =>
      simp at e
      subst e
      exact ⟨_, _, rfl, rfl, a⟩
    | succ i =>
      obtain ⟨t, k, h1, h2, h3⟩ := ih (i := i) (v := v) (by simpa using e)
      exact ⟨t, k, h1, by simpa using h2, h3⟩
theorem KeyRefs.cut {H : Hp} {vs : List V} {ks : List (Str × Str)} (h : KeyRefs H vs ks) : ∀ k : Nat, KeyRefs H (vs.drop k) (ks.drop k) ∧ KeyRefs H (vs.take k) (ks.take k) := by
  induction h with
  | nil => intro k; simp; exact .nil
  | cons a r ih =>
    intro k
    cases k with
    | zero => exact ⟨.cons a r, .nil⟩
    | succ k => exact ⟨(ih k).1, .cons a (ih k).2⟩
theorem KeyRefs.app {H : Hp} {vs ws : List V} {ks ls : List (Str × Str)} (h : KeyRefs H vs ks) (r : KeyRefs H ws ls) : KeyRefs H (vs ++ ws) (ks ++ ls) := by
  induction h with
  | nil => exact r
  | cons a _ ih => exact .cons a ih
end LG
set_option Elab.async false
set_option linter.all false
set_option maxRecDepth 100000
set_option maxHeartbeats 8000000
namespace LG
open PySem L2
def IsSz (H : Hp) (v : V) : Prop := ∃ (t : Addr) (n1 n2 : Nat), v = .ref t ∧ H t = some (.tup [.int n1, .int n2]) ∧ 1 ≤ n1 ∧ n1 ≤ 3 ∧ 2 ≤ n2 ∧ n2 ≤ 3
theorem IsSz.same {H H' : Hp} {v : V} (e : Same H H') (h : IsSz H v) : IsSz H' v := by
  obtain ⟨t, n1, n2, h1, h2, h3⟩ := h
  exact ⟨t, n1, n2, h1, e _ _ h2, h3⟩
def tSz : TE := fun _ H Q => ∀ v H', Same H H' → IsSz H' v → Q v H'
def tSzs (m : Nat) : TA := fun _ H Q => ∀ vs H', Same H H' → vs.length = m → (∀ v ∈ vs, IsSz H' v) → Q vs H'
section
variable {X : Cx} {e : Expr} {es : List Expr} {m : Nat} {pos : Pos}
theorem sz_item {i j : Nat} {c1 c2 p1 p2 x1} (h : 1 ≤ i ∧ i ≤ 3 ∧ 2 ≤ j ∧ j ≤ 3 := by decide) : PE X (.Tuple [.Constant (.int (i : Int)) c1 p1, .Constant (.int (j : Int)) c2 p2] x1 pos) tSz :=
  pe_imp (pe_tup (pa_cons pe_int (pa_cons pe_int pa_nil (by rfl)) (by rfl))) fun _ H Q q => ⟨(by show 2 ≤ sizeLine; decide), fun t nt => q _ _ (same_new nt _) ⟨t, i, j, rfl, upd_same, h⟩⟩
theorem sz_nil : PA X [] (tSzs 0) := pa_imp pa_nil fun _ H Q q => q _ _ (Same.refl H) rfl (fun _ m => nomatch m)
theorem sz_cons (h : PE X e tSz) (r : PA X es (tSzs m)) (hs : starEach (e :: es) X.env = (false, eval e X.env) :: starEach es X.env := by rfl) : PA X (e :: es) (tSzs (m + 1)) :=
  pa_imp (pa_cons h r hs) fun _ H Q q x H1 s1 g1 xs H2 s2 l2 g2 => q _ _ (s1.trans s2) (by rw [List.length_cons, l2]) fun y hy => by
    rcases List.mem_cons.mp hy with rfl | hy
    · exact g1.same s2
    · exact g2 y hy
end
end LG
namespace K03
open PySem L2 LG
section
variable {P : Program} {w : World} {K : PySem.W.Frag} {mg : Str → Option Value} {base : Heap}
def spSizes (K : PySem.W.Frag) : Sp := fun vs H Q _ => ∃ (p : Addr) (b : Nat), vs = [.ref p] ∧ PotAt H p b ∧ b ≤ 50000 ∧ ∀ (z : Addr) (n1 n2 : Nat) (H' : Hp), But p H H' → PotAt H' p (b + 1) → mk p H' z = some (.tup [.int n1, .int n2]) → 1 ≤ n1 → n1 ≤ 3 → 2 ≤ n2 → n2 ≤ 3 → Q (.ref z) H'
theorem scSizes : FnScope ["_law_pot_here"] ["_law_pot_here"] (defScope sSizes) := ⟨rfl, rfl, rfl, by decide +kernel, rfl, by decide +kernel, by decide +kernel⟩
theorem ok_sizes {f g : Addr} {fd gd : FuncData} (F : Fun K "_law_sizes" "_law_sizes" sSizes f fd) (G : FnOk P w K mg base CX0 2 g gd ["_law_pot_here", "_law_some_here"] (spOf K)) (mG : mg "_law_of" = some (.ref g)) (kG : PySem.W.keepIn K (.ref g) = true) (bG : Binds K gd ["_law_pot_here", "_law_some_here"] []) :
    FnOk P w K mg base CX0 3 f fd ["_law_pot_here"] (spSizes K) := by
  refine F.ok scSizes (fun vs H Q E h => ?_) (fun cdv A outer s H vs Q E hr h => ?_)
  · obtain ⟨p, b, rfl, _⟩ := h
    rfl
  obtain ⟨p, b, rfl, hp, hb, q⟩ := h
  refine ⟨_, pss_one (ps_ret (pe_call G hr rfl mG kG bG .nil pass0 (pa_cons (pv 0) (pa_cons (pe_lst (sz_cons (sz_item (i := 2) (j := 2)) (sz_cons (sz_item (i := 2) (j := 2)) (sz_cons (sz_item (i := 2) (j := 3)) (sz_cons (sz_item (i := 1) (j := 2)) (sz_cons (sz_item (i := 3) (j := 2)) (sz_cons (sz_item (i := 3) (j := 3)) sz_nil))))))) pa_nil)))), ?_⟩
  refine ⟨_, rfl, fun xs H1 s1 l1 g1 => ⟨by rw [l1]; decide, fun l nl => ?_⟩⟩
  have s2 := same_new nl (.lst xs)
  have hp1 := hp.same s1
  refine ⟨p, l, xs, b, rfl, hp1.same s2, by omega, SqL.of upd_same, by omega, by omega, fun z => hp1.there (by rw [← z]; exact nl), fun x H' hx but pot => ?_⟩
  obtain ⟨t, n1, n2, rfl, ht, b1, b2, b3, b4⟩ := (g1 x hx).same s2
  have np : t ≠ p := fun z => by
    obtain ⟨own, sm, n, e, _⟩ := hp1.same s2
    rw [z, e] at ht
    cases ht
  exact q t n1 n2 H' ((But.of (s1.trans s2)).trans but) pot (mk_of np (but _ _ ht np)) b1 b2 b3 b4
end
end K03
set_option Elab.async false
set_option linter.all false
set_option maxRecDepth 100000
set_option maxHeartbeats 8000000
namespace LG
open PySem L2
theorem GR.butp {K : PySem.W.Frag} {H H' : Hp} {p b : _} {kvs : List (List Key × V)} {g : Goals} (e : But p H H') (hp : PotAt H p b) (h : GR K H kvs g) : GR K H' kvs g := by
  induction h with
  | nil => exact .nil
  | cons a _ ih => exact .cons (e.tup hp a) ih
theorem tup_mk {K : PySem.W.Frag} {H : Hp} {p b t : _} {zs : List V} (hp : PotAt H p b) (h : SqT K H t zs) : SqT K (mk p H) t zs := by
  obtain ⟨own, sm, n, e1, _⟩ := hp
  rcases h with (q | ⟨ob, q⟩) | q
  · exact .inl (.inl (mk_of (fun z => by rw [z, e1] at q; cases q) q))
  · exact .inl (.inr ⟨ob, mk_of (fun z => by rw [z, e1] at q; cases q) q⟩)
  · exact .inr q
theorem GR.mk {K : PySem.W.Frag} {H : Hp} {p b : _} {kvs : List (List Key × V)} {g : Goals} (hp : PotAt H p b) (h : GR K H kvs g) : GR K (mk p H) kvs g := by
  induction h with
  | nil => exact .nil
  | cons a _ ih => exact .cons (tup_mk hp a) ih
def poolC : List Str := ["a", "b", "c", "pay", "test", "row", "calls", "x9", "zzzzzzzz", "p"]
def poolA : List Str := ["x", "y", "ok", "no", "a", "answers", "z0", "row"]
def poolS : List Str := ["p", "q", "s0", "s1", "s2", "states", "a", "zz"]
theorem poolC_nd : poolC.Nodup := by decide +kernel
theorem poolA_nd : poolA.Nodup := by decide +kernel
theorem poolS_nd : poolS.Nodup := by decide +kernel
theorem poolC_w : ∀ x ∈ poolC, isNameB x = true := by
  have h : poolC.all isNameB = true := by decide +kernel
  exact List.all_eq_true.mp h
theorem poolA_w : ∀ x ∈ poolA, isNameB x = true := by
  have h : poolA.all isNameB = true := by decide +kernel
  exact List.all_eq_true.mp h
theorem poolS_w : ∀ x ∈ poolS, isNameB x = true := by
  have h : poolS.all isNameB = true := by decide +kernel
  exact List.all_eq_true.mp h
end LG
namespace K03
open PySem L2 LG
section
variable {P : Program} {w : World} {K : PySem.W.Frag} {mg : Str → Option Value} {base : Heap}
def spAny (K : PySem.W.Frag) : Sp := fun vs H Q _ => ∃ (p z : Addr) (m n1 n2 b : Nat), vs = [.ref p, .int m, .ref z] ∧ PotAt H p b ∧ b ≤ 50000 ∧ 1 ≤ m ∧ m ≤ 4 ∧ mk p H z = some (.tup [.int n1, .int n2]) ∧ 1 ≤ n1 ∧ n1 ≤ 3 ∧ 2 ≤ n2 ∧ n2 ≤ 3 ∧
  ∀ (o : Addr) (D : Dev) (H' : Hp), But p H H' → PotAt H' p (b + 50) → Drawn D → OwnAt K (mk p H') o D → Q (.ref o) H'
abbrev nA : List Str := ["_law_pot_here", "_law_many", "_law_sizes_here", "_law_calls", "_law_answers", "_law_states", "_law_rows", "_law_state", "_law_call"]
theorem scAny : FnScope nA ["_law_pot_here", "_law_many", "_law_sizes_here"] (defScope sAny) := ⟨rfl, rfl, rfl, by decide +kernel, rfl, by decide +kernel, by decide +kernel⟩
theorem ok_any {f g1 g2 : Addr} {fd gd1 gd2 : FuncData} (F : Fun K "_law_any_device" "_law_any_device" sAny f fd)
    (GS : FnOk P w K mg base CX0 2 g1 gd1 ["_law_pot_here", "_law_pool", "_law_many"] (spSome K)) (mS : mg "_law_some" = some (.ref g1)) (kS : PySem.W.keepIn K (.ref g1) = true) (bS : Binds K gd1 ["_law_pot_here", "_law_pool", "_law_many"] [])
    (GO : FnOk P w K mg base CX0 2 g2 gd2 ["_law_pot_here", "_law_some_here"] (spOf K)) (mO : mg "_law_of" = some (.ref g2)) (kO : PySem.W.keepIn K (.ref g2) = true) (bO : Binds K gd2 ["_law_pot_here", "_law_some_here"] []) :
    FnOk P w K mg base CX0 3 f fd ["_law_pot_here", "_law_many", "_law_sizes_here"] (spAny K) := by
  refine F.ok scAny (fun vs H Q E h => ?_) (fun cdv A0 outer st H vs Q E hr h => ?_)
  · obtain ⟨p, z, m, n1, n2, b, rfl, _⟩ := h
    rfl
  obtain ⟨p, z, m, n1, n2, b, rfl, hp, hb, m1, m4, hz, a1, a3, c2, c3, q⟩ := h
  have hu := hu_of hr
  refine ⟨_, pss_cons (ps_set (i := 3) scAny.nd rfl (Or.inl rfl) (pe_call GS hr rfl mS kS bS .nil pass0 (pa_cons (pv 0) (pa_cons (pe_lst (pa_cons pe_str (pa_cons pe_str (pa_cons pe_str (pa_cons pe_str (pa_cons pe_str (pa_cons pe_str (pa_cons pe_str (pa_cons pe_str (pa_cons pe_str (pa_cons pe_str pa_nil))))))))))) (pa_cons (pe_ix ix_tup (pv 2) pe_int (fun _ _ => rfl)) pa_nil)))))
    (pss_cons (ps_set (i := 4) scAny.nd rfl (Or.inl rfl) (pe_call GS hr rfl mS kS bS .nil pass0 (pa_cons (pv 0) (pa_cons (pe_lst (pa_cons pe_str (pa_cons pe_str (pa_cons pe_str (pa_cons pe_str (pa_cons pe_str (pa_cons pe_str (pa_cons pe_str (pa_cons pe_str pa_nil))))))))) (pa_cons (pe_ix ix_tup (pv 2) pe_int (fun _ _ => rfl)) pa_nil)))))
    (pss_cons (ps_set (i := 5) scAny.nd rfl (Or.inl rfl) (pe_call GS hr rfl mS kS bS .nil pass0 (pa_cons (pv 0) (pa_cons (pe_lst (pa_cons pe_str (pa_cons pe_str (pa_cons pe_str (pa_cons pe_str (pa_cons pe_str (pa_cons pe_str (pa_cons pe_str (pa_cons pe_str pa_nil))))))))) (pa_cons (pv 1) pa_nil)))))
    (pss_cons (ps_set (i := 6) scAny.nd rfl (Or.inl rfl) pe_dnewT)
    (pss_cons (ps_for PassesOwn.never rfl (pi_list (pv 5)) (pg_name (i := 7) scAny.nd rfl (Or.inl rfl))
      (pss_one (ps_for PassesOwn.never rfl (pi_list (pv 3)) (pg_name (i := 8) scAny.nd rfl (Or.inl rfl))
        (pss_one (ps_dput hu (pv 6) (pe_tup (pa_cons (pv 7) (pa_cons (pv 8) pa_nil))) (pe_tup (pa_cons (pe_call GO hr rfl mO kO bO .nil pass0 (pa_cons (pv 0) (pa_cons (pv 4) pa_nil))) (pa_cons (pe_call GO hr rfl mO kO bO .nil pass0 (pa_cons (pv 0) (pa_cons (pv 5) pa_nil))) pa_nil))) rfl)))))
    (pss_one (ps_ret (pe_disp (pps_cons pe_str (pv 3) (pps_cons pe_str (pv 4) (pps_cons pe_str (pv 5) (pps_cons pe_str (pv 6) pps_nil)))) (by rfl) (by rfl) (fun z => by cases z) (by show 4 ≤ 15; decide)))))))), ?_⟩
  have lne : ∀ {G : Hp} {l : Addr} {b : Nat}, PotAt G p b → G l = none → l ≠ p := fun hp' nl z => hp'.there (by rw [← z]; exact nl)
  -- the calls
  refine ⟨_, rfl, (by show 10 ≤ sizeLine; decide), fun l1 nl1 => ?_⟩
  have s1 := same_new nl1 (.lst (poolC.map V.str))
  have hz0 : H z = some (.tup [.int n1, .int n2]) := (mk_some hz).2
  have hzp : z ≠ p := (mk_some hz).1
  refine ⟨_, rfl, z, _, 0, _, rfl, rfl, .inl (.inl (s1 _ _ hz0)), rfl, p, l1, n1, b, poolC.map V.str, rfl, hp.same s1, by omega, SqL.of upd_same, lne hp nl1, by show n1 ≤ 10; omega, by show 10 ≤ 1000; decide, fun f1 ys1 H1 but1 pot1 nf1 np1 hf1 ly1 pm1 => ?_⟩
  obtain ⟨zs1, pm1⟩ := pm1
  obtain ⟨C, rfl, ndC, memC⟩ := some_txt pm1 poolC_nd
  rw [List.length_map] at ly1
  have b1 : But p H H1 := (But.of s1).trans but1
  have hz1 := b1 _ _ hz0 hzp
  have nf1 : H f1 = none := s1.free nf1
  -- the answers
  refine ⟨_, rfl, (by show 8 ≤ sizeLine; decide), fun l2 nl2 => ?_⟩
  have s2 := same_new nl2 (.lst (poolA.map V.str))
  refine ⟨_, rfl, z, _, 1, _, rfl, rfl, .inl (.inl (s2 _ _ hz1)), rfl, p, l2, n2, _, poolA.map V.str, rfl, pot1.same s2, by omega, SqL.of upd_same, lne pot1 nl2, by show n2 ≤ 8; omega, by show 8 ≤ 1000; decide, fun f2 ys2 H2 but2 pot2 nf2 np2 hf2 ly2 pm2 => ?_⟩
  obtain ⟨zs2, pm2⟩ := pm2
  obtain ⟨A, rfl, ndA, memA⟩ := some_txt pm2 poolA_nd
  rw [List.length_map] at ly2
  have b12 : But p H1 H2 := (But.of s2).trans but2
  have b2 : But p H H2 := b1.trans b12
  have hf1 := b12 _ _ hf1 np1
  have nf2 : H1 f2 = none := s2.free nf2
  -- the states
  refine ⟨_, rfl, (by show 8 ≤ sizeLine; decide), fun l3 nl3 => ?_⟩
  have s3 := same_new nl3 (.lst (poolS.map V.str))
  refine ⟨_, rfl, p, l3, m, _, poolS.map V.str, rfl, pot2.same s3, by omega, SqL.of upd_same, lne pot2 nl3, by show m ≤ 8; omega, by show 8 ≤ 1000; decide, fun f3 ys3 H3 but3 pot3 nf3 np3 hf3 ly3 pm3 => ?_⟩
  obtain ⟨zs3, pm3⟩ := pm3
  obtain ⟨S, rfl, ndS, memS⟩ := some_txt pm3 poolS_nd
  rw [List.length_map] at ly3
  have b23 : But p H2 H3 := (But.of s3).trans but3
  have b3 : But p H H3 := b2.trans b23
  have hf1 := b23 _ _ hf1 np1
  have hf2 := b23 _ _ hf2 np2
  -- the rows
  intro r nr
  have s4 := same_new nr (.dT [])
  have hr4 : (upd H3 r (.dT [])) r = some (.dT []) := upd_same
  have npr := lne pot3 nr
  have nr0 : ∀ {c o}, H c = some o → c ≠ p → c ≠ r := fun e ne z => by
    have := b3 _ _ e ne
    rw [z, nr] at this
    cases this
  show _
  generalize upd H3 r (.dT []) = H4 at s4 hr4 ⊢
  have b4 : But p H H4 := b3.trans (But.of s4)
  have hf1 := s4 _ _ hf1
  have hf2 := s4 _ _ hf2
  have hf3 := s4 _ _ hf3
  have pot4 := pot3.same s4
  have nr1 : r ≠ f1 := ne_of hr4 hf1 (by intro z; cases z)
  have nr2 : r ≠ f2 := ne_of hr4 hf2 (by intro z; cases z)
  have nr3 : r ≠ f3 := ne_of hr4 hf3 (by intro z; cases z)
  generalize hB : b + n1 + n2 + m = B at pot4
  have hB2 : B ≤ b + 10 := by omega
  let J : Hp → Goals → Prop := fun G g => But p H G ∧ PotAt G p (B + 2 * g.length) ∧ G f1 = some (.lst (C.map V.str)) ∧ G f2 = some (.lst (A.map V.str)) ∧ G f3 = some (.lst (S.map V.str)) ∧ (∃ kvs, G r = some (.dT kvs) ∧ GR K G kvs g) ∧ ∀ e ∈ g, e.2.1 ∈ A ∧ e.2.2 ∈ S
  refine ⟨_, rfl, f3, rfl, ⟨_, SqL.of hf3⟩, ?_⟩
  refine for_list (xs := S.map V.str) (fun i σ G => ∃ x7 x8 g, σ = [some (.ref p), some (.int m), some (.ref z), some (.ref f1), some (.ref f2), some (.ref f3), some (.ref r), x7, x8] ∧ J G g ∧ g.map (·.1) = prodK (S.take i) C)
    ⟨_, _, [], rfl, ⟨b4, pot4, hf1, hf2, hf3, ⟨[], hr4, .nil⟩, fun _ h => nomatch h⟩, rfl⟩ ?_ ?_ ?_
  · rintro i σ G _ ⟨_, _, g, rfl, ⟨_, _, _, _, h, _⟩, _⟩
    exact SqL.of h
  · rintro i x σ G hx ⟨x7, x8, g, rfl, jG, kG⟩
    have hi : i < S.length := by
      have := (List.getElem?_eq_some_iff.mp hx).1
      simpa using this
    rw [List.getElem?_map, List.getElem?_eq_getElem hi] at hx
    have ex : x = .str S[i] := (Option.some.inj hx).symm
    subst ex
    obtain ⟨bG, pG, h1, h2, h3, hr5, vals⟩ := jG
    refine ⟨_, rfl, f1, rfl, ⟨_, SqL.of h1⟩, ?_⟩
    refine for_list (xs := C.map V.str) (fun j σ G => ∃ x8 g, σ = [some (.ref p), some (.int m), some (.ref z), some (.ref f1), some (.ref f2), some (.ref f3), some (.ref r), some (.str S[i]), x8] ∧ J G g ∧ g.map (·.1) = prodK (S.take i) C ++ (C.take j).map fun c => (S[i], c))
      ⟨_, g, rfl, ⟨bG, pG, h1, h2, h3, hr5, vals⟩, by simpa using kG⟩ ?_ ?_ ?_
    · rintro j σ G _ ⟨_, g, rfl, ⟨_, _, h, _, _, _⟩, _⟩
      exact SqL.of h
    · rintro j y σ G hy ⟨x8, g, rfl, ⟨bG, pG, h1, h2, h3, ⟨kvs, hrG, gr⟩, vals⟩, kG⟩
      have hj : j < C.length := by
        have := (List.getElem?_eq_some_iff.mp hy).1
        simpa using this
      rw [List.getElem?_map, List.getElem?_eq_getElem hj] at hy
      have ey : y = .str C[j] := (Option.some.inj hy).symm
      subst ey
      have glen : g.length ≤ 12 := by
        have e := congrArg List.length kG
        rw [List.length_map, List.length_append, prod_len, List.length_map, List.length_take, List.length_take] at e
        have i4 : min i S.length ≤ 3 := by omega
        have c4 : C.length ≤ 3 := by omega
        have := Nat.mul_le_mul i4 c4
        omega
      have fresh : g.lookup (S[i], C[j]) = none := by
        refine lookup_none_of ?_
        rw [kG, List.mem_append]
        rintro (h | h)
        · have := (prod_mem.mp h).1
          obtain ⟨k, hk, e⟩ := List.mem_take_iff_getElem.mp this
          have := (List.getElem_inj (List.nodup_iff_pairwise_ne.mp ndS |> fun _ => ndS)).mp e
          omega
        · obtain ⟨c, hc, e⟩ := List.mem_map.mp h
          have e2 := (Prod.mk.inj e).2
          rw [e2] at hc
          obtain ⟨k, hk, e3⟩ := List.mem_take_iff_getElem.mp hc
          have := (List.getElem_inj ndC).mp e3
          omega
      refine ⟨_, rfl, _, rfl, p, f2, A.map V.str, _, rfl, pG, by omega, SqL.of h2, by rw [List.length_map]; omega, by rw [List.length_map]; omega, np2, fun va G1 hva butA potA => ?_⟩
      obtain ⟨av, hav, rfl⟩ := List.mem_map.mp hva
      refine ⟨_, rfl, _, rfl, p, f3, S.map V.str, _, rfl, potA, by omega, SqL.of (butA _ _ h3 np3), by rw [List.length_map]; omega, by rw [List.length_map]; omega, np3, fun vb G2 hvb butB potB => ?_⟩
      obtain ⟨sv, hsv, rfl⟩ := List.mem_map.mp hvb
      have b02 := butA.trans butB
      refine ⟨(by show 2 ≤ sizeLine; decide), fun tv ntv => ?_⟩
      have s5 := same_new ntv (.tup [.str av, .str sv])
      have htv : (upd G2 tv (.tup [.str av, .str sv])) tv = some (.tup [.str av, .str sv]) := upd_same
      show _
      generalize upd G2 tv (.tup [.str av, .str sv]) = G3 at s5 htv ⊢
      refine ⟨_, rfl, _, rfl, _, rfl, (by show 2 ≤ sizeLine; decide), fun tk ntk => ?_⟩
      have s6 := same_new ntk (.tup [.str S[i], .str C[j]])
      have htk : (upd G3 tk (.tup [.str S[i], .str C[j]])) tk = some (.tup ((kT (S[i], C[j])).map kV)) := upd_same
      show _
      generalize upd G3 tk (.tup [.str S[i], .str C[j]]) = G4 at s6 htk ⊢
      have s56 := s5.trans s6
      have b04 : But p G G4 := b02.trans (But.of s56)
      have hr7 := b04 _ _ hrG npr
      have lk : valV kvs (kT (S[i], C[j])) = none := by
        rcases gr.val (S[i], C[j]) with ⟨_, l2⟩ | ⟨x, t, l1, _⟩
        · exact l2
        · rw [fresh] at l1
          cases l1
      have hlen := gr.len
      refine ⟨r, _, rfl, DPut.t hr7 htk (by rw [hlen, sizeLine_eq]; omega), ?_⟩
      rw [putK_new _ lk]
      have keep : ∀ {c o}, G4 c = some o → c ≠ r → (upd G4 r (.dT (kvs ++ [(kT (S[i], C[j]), V.ref tv)]))) c = some o := fun e ne => by rw [upd_ne ne]; exact e
      refine ⟨_, g ++ [((S[i], C[j]), (av, sv))], rfl, ⟨?_, ?_, keep (b04 _ _ h1 np1) (Ne.symm nr1), keep (b04 _ _ h2 np2) (Ne.symm nr2), keep (b04 _ _ h3 np3) (Ne.symm nr3), ⟨_, upd_same, ?_⟩, ?_⟩, ?_⟩
      · intro c o e ne
        exact keep ((bG.trans b04) c o e ne) (nr0 e ne)
      · obtain ⟨own, sm, n, e1, e2, e3, e4, e5, e6⟩ := potB.same s56
        exact ⟨own, sm, n, keep e1 (Ne.symm npr), e2, e3, e4, e5, by rw [List.length_append, List.length_singleton]; omega⟩
      · refine GR.upd hr7 (.snoc (GR.butp b04 pG gr) ?_)
        exact .inl (.inl (s6 _ _ htv))
      · intro e he
        rcases List.mem_append.mp he with he | he
        · exact vals e he
        · rw [List.mem_singleton.mp he]
          exact ⟨hav, hsv⟩
      · rw [List.map_append, kG, List.take_add_one, List.getElem?_eq_getElem hj, List.map_append, List.append_assoc]
        rfl
    · rintro σ G ⟨x8, g, rfl, jG, kG⟩
      refine ⟨_, _, g, rfl, jG, ?_⟩
      rw [kG, prod_take hi, List.length_map, List.take_length]
  · rintro σ G ⟨x7, x8, g, rfl, ⟨bG, pG, h1, h2, h3, ⟨kvs, hr5, gr⟩, vals⟩, kG⟩
    have em : mergeK [] [((.inr ("calls" : Str) : Key), V.ref f1), (.inr ("answers" : Str), .ref f2), (.inr ("states" : Str), .ref f3), (.inr ("rows" : Str), .ref r)] = [((.inr ("calls" : Str) : Key), V.ref f1), (.inr ("answers" : Str), .ref f2), (.inr ("states" : Str), .ref f3), (.inr ("rows" : Str), .ref r)] := by rfl
    intro o no
    refine ⟨_, rfl, _, rfl, _, rfl, _, rfl, upd_same, [((.inr ("calls" : Str) : Key), V.ref f1), (.inr ("answers" : Str), .ref f2), (.inr ("states" : Str), .ref f3), (.inr ("rows" : Str), .ref r)], rfl, (by show 4 ≤ 15; decide), ?_⟩
    rw [em, upd_upd]
    have s7 := same_new no (.dK [((.inr ("calls" : Str) : Key), V.ref f1), (.inr ("answers" : Str), .ref f2), (.inr ("states" : Str), .ref f3), (.inr ("rows" : Str), .ref r)])
    have ho : (upd G o (.dK [((.inr ("calls" : Str) : Key), V.ref f1), (.inr ("answers" : Str), .ref f2), (.inr ("states" : Str), .ref f3), (.inr ("rows" : Str), .ref r)])) o = some (.dK [((.inr ("calls" : Str) : Key), V.ref f1), (.inr ("answers" : Str), .ref f2), (.inr ("states" : Str), .ref f3), (.inr ("rows" : Str), .ref r)]) := upd_same
    generalize upd G o (.dK [((.inr ("calls" : Str) : Key), V.ref f1), (.inr ("answers" : Str), .ref f2), (.inr ("states" : Str), .ref f3), (.inr ("rows" : Str), .ref r)]) = G9 at s7 ho ⊢
    have npo := lne pG no
    rw [List.length_map, List.take_length] at kG
    have glen : g.length ≤ 12 := by
      have e := congrArg List.length kG
      rw [List.length_map, prod_len] at e
      have := Nat.mul_le_mul (by omega : S.length ≤ 4) (by omega : C.length ≤ 3)
      omega
    refine q o ⟨C, A, S, g⟩ G9 (bG.trans (But.of s7)) ((pG.same s7).mono (by omega)) ⟨ndC, ndA, ndS, ⟨by show 1 ≤ C.length; omega, by show C.length ≤ 3; omega⟩, ⟨by show 2 ≤ A.length; omega, by show A.length ≤ 3; omega⟩, ⟨by show 1 ≤ S.length; omega, by show S.length ≤ 4; omega⟩,
      fun x hx => poolC_w x (memC x hx), fun x hx => poolA_w x (memA x hx), fun x hx => poolS_w x (memS x hx), kG, vals⟩ ⟨⟨f1, f2, f3, r, kvs, mk_of npo ho, mk_of np1 (s7 _ _ h1), mk_of np2 (s7 _ _ h2), mk_of np3 (s7 _ _ h3), mk_of npr (s7 _ _ hr5), ?_⟩⟩
    exact (gr.same s7).mk (pG.same s7)
end
end K03
set_option Elab.async false
set_option linter.all false
set_option maxRecDepth 100000
set_option maxHeartbeats 8000000
namespace LG
open PySem L2
def rowX (D : Dev) (k : Str × Str) : Str × Str := (D.goals.lookup k).getD (Str.empty, Str.empty)
def rowOf (D : Dev) (k : Str × Str) : Str := Txt.join sp1 ["row", k.1, k.2, (rowX D k).1, (rowX D k).2]
def headsOf (D : Dev) : List Str := [("calls " : Str) ++ Txt.join sp1 D.calls, ("answers " : Str) ++ Txt.join sp1 D.answers, ("states " : Str) ++ Txt.join sp1 D.states]
def linesOf (D : Dev) (ks : List (Str × Str)) : List Str := headsOf D ++ ks.map (rowOf D)
def textOf (D : Dev) (ks : List (Str × Str)) : Str := Txt.join nl1 (linesOf D ks)
theorem name_len {x : Str} (h : isNameB x = true) : x.length ≤ 8 := by
  unfold isNameB at h
  simp only [Bool.and_eq_true, decide_eq_true_eq] at h
  exact h.1.1.2
theorem sum_le {ts : List Str} {k : Nat} (h : ∀ t ∈ ts, t.length ≤ k) : (ts.map (·.length)).sum ≤ ts.length * k := by
  induction ts with
  | nil => simp
  | cons x r ih =>
    have h1 := h x List.mem_cons_self
    have h2 := ih fun t ht => h t (List.mem_cons_of_mem _ ht)
    rw [List.map_cons, List.sum_cons, List.length_cons, Nat.succ_mul]
    omega
theorem join_le1 {y : Str} {ts : List Str} {k : Nat} (h1 : y.length = 1) (h : ∀ t ∈ ts, t.length ≤ k) : (Txt.join y ts).length ≤ ts.length * (k + 1) := by
  rw [TL.join_eq]
  cases ts with
  | nil => exact Nat.zero_le _
  | cons x r =>
    have e := join_size y (ts := x :: r) (by simp)
    rw [h1] at e
    have h2 : ((x :: r).map fun t => t.length + 1).sum ≤ (x :: r).length * (k + 1) := by
      clear e
      generalize x :: r = ts at h
      induction ts with
      | nil => simp
      | cons z q ih =>
        have b1 := h z List.mem_cons_self
        have b2 := ih fun t ht => h t (List.mem_cons_of_mem _ ht)
        rw [List.map_cons, List.sum_cons, List.length_cons, Nat.succ_mul]
        omega
    omega
theorem lookup_mem {g : Goals} {k x : Str × Str} (h : g.lookup k = some x) : (k, x) ∈ g := by
  induction g with
  | nil => cases h
  | cons e r ih =>
    obtain ⟨k', x'⟩ := e
    by_cases he : k = k'
    · subst he
      have : List.lookup k ((k, x') :: r) = some x' := by simp [List.lookup]
      rw [this] at h
      cases h
      exact List.mem_cons_self
    · have nb : (k == k') = false := by simpa using he
      have : List.lookup k ((k', x') :: r) = List.lookup k r := by simp [List.lookup, nb]
      rw [this] at h
      exact List.mem_cons_of_mem _ (ih h)
theorem lookup_some {g : Goals} {k : Str × Str} (h : k ∈ g.map (·.1)) : ∃ x, g.lookup k = some x := by
  cases e : g.lookup k with
  | some x => exact ⟨x, rfl⟩
  | none =>
    exfalso
    induction g with
    | nil => simp at h
    | cons p r ih =>
      obtain ⟨k', x'⟩ := p
      by_cases he : k = k'
      · subst he
        simp [List.lookup] at e
      · have nb : (k == k') = false := by simpa using he
        have l : List.lookup k ((k', x') :: r) = List.lookup k r := by simp [List.lookup, nb]
        rw [l] at e
        refine ih ?_ e
        simp at h
        rcases h with h | h
        · exact absurd h he
        · simpa using h
theorem Drawn.row {D : Dev} (d : Drawn D) {k : Str × Str} (h : k ∈ D.goals.map (·.1)) : D.goals.lookup k = some (rowX D k) ∧ k.1 ∈ D.states ∧ k.2 ∈ D.calls ∧ (rowX D k).1 ∈ D.answers ∧ (rowX D k).2 ∈ D.states := by
  obtain ⟨x, e⟩ := lookup_some h
  have ex : rowX D k = x := by
    unfold rowX
    rw [e]
    rfl
  have m := lookup_mem e
  rw [d.keys] at h
  have pm := prod_mem.mp h
  have v := d.vals _ m
  rw [ex]
  exact ⟨e, pm.1, pm.2, v.1, v.2⟩
theorem Drawn.row_len {D : Dev} (d : Drawn D) {k : Str × Str} (h : k ∈ D.goals.map (·.1)) : (rowOf D k).length ≤ 45 ∧ ∀ t ∈ (["row", k.1, k.2, (rowX D k).1, (rowX D k).2] : List Str), t.length ≤ 8 := by
  obtain ⟨_, h1, h2, h3, h4⟩ := d.row h
  have l : ∀ t ∈ (["row", k.1, k.2, (rowX D k).1, (rowX D k).2] : List Str), t.length ≤ 8 := by
    intro t ht
    simp only [List.mem_cons, List.not_mem_nil, or_false] at ht
    rcases ht with rfl | rfl | rfl | rfl | rfl
    · decide +kernel
    · exact name_len (d.sw _ h1)
    · exact name_len (d.cw _ h2)
    · exact name_len (d.aw _ h3)
    · exact name_len (d.sw _ h4)
  exact ⟨join_le1 sp1_1 l, l⟩
theorem Drawn.lens {D : Dev} (d : Drawn D) : (∀ t ∈ D.calls, t.length ≤ 8) ∧ (∀ t ∈ D.answers, t.length ≤ 8) ∧ (∀ t ∈ D.states, t.length ≤ 8) := ⟨fun t h => name_len (d.cw t h), fun t h => name_len (d.aw t h), fun t h => name_len (d.sw t h)⟩
theorem Drawn.heads_len {D : Dev} (d : Drawn D) : ∀ t ∈ headsOf D, t.length ≤ 45 := by
  obtain ⟨h1, h2, h3⟩ := d.lens
  have j1 := join_le1 sp1_1 h1
  have j2 := join_le1 sp1_1 h2
  have j3 := join_le1 sp1_1 h3
  have e1 : ("calls " : Str).length = 6 := by decide +kernel
  have e2 : ("answers " : Str).length = 8 := by decide +kernel
  have e3 : ("states " : Str).length = 7 := by decide +kernel
  have := d.c1
  have := d.a1
  have := d.s1
  intro t ht
  unfold headsOf at ht
  simp only [List.mem_cons, List.not_mem_nil, or_false] at ht
  rcases ht with rfl | rfl | rfl
  · rw [strLen_append]
    omega
  · rw [strLen_append]
    omega
  · rw [strLen_append]
    omega
theorem Drawn.lines_len {D : Dev} (d : Drawn D) {ks : List (Str × Str)} (h : ∀ k ∈ ks, k ∈ D.goals.map (·.1)) : ∀ t ∈ linesOf D ks, t.length ≤ 45 := by
  intro t ht
  rcases List.mem_append.mp ht with ht | ht
  · exact d.heads_len t ht
  · obtain ⟨k, hk, rfl⟩ := List.mem_map.mp ht
    exact (d.row_len (h k hk)).1
end LG
set_option Elab.async false
set_option linter.all false
set_option maxRecDepth 100000
set_option maxHeartbeats 8000000
namespace LG
open PySem L2
def rJoinK (K : PySem.W.Frag) : V → List V → Hp → VK → Prop := fun x xs H Q => ∃ (a : Str) (p : Addr) (ys : List Str), x = .str a ∧ xs = [.ref p] ∧ (SqL K H p (ys.map V.str) ∨ SqT K H p (ys.map V.str)) ∧ (ys.map (·.length)).sum + ys.length * a.length ≤ 16777216 ∧ Q (.str (Txt.join a ys)) H
theorem str_bits (ks : List (Str × Str)) (f : Str × Str → Str) : (List.range ks.length).map (fun i => V.str (f (ks.getD i (Str.empty, Str.empty)))) = (ks.map f).map V.str := by
  apply List.ext_getElem
  · simp
  · intro k h1 h2
    have hk : k < ks.length := by simpa using h1
    simp [List.getD, hk]
end LG
namespace K03
open PySem L2 LG
section
variable {P : Program} {w : World} {K : PySem.W.Frag} {mg : Str → Option Value} {base : Heap}
def spText (K : PySem.W.Frag) : Sp := fun vs H Q _ => ∃ (o l : Addr) (D : Dev) (xs : List V) (ks : List (Str × Str)), vs = [.ref o, .ref l] ∧ OwnAt K H o D ∧ Drawn D ∧ SqL K H l xs ∧ KeyRefs H xs ks ∧ (∀ k ∈ ks, k ∈ D.goals.map (·.1)) ∧ ks.length ≤ 12 ∧ ∀ H', Same H H' → Q (.str (textOf D ks)) H'
abbrev nX : List Str := ["_law_device", "_law_lines_here", "_law_rows", "_law_key"]
theorem scText : FnScope nX ["_law_device", "_law_lines_here"] (defScope sTextBy) := ⟨rfl, rfl, rfl, by decide +kernel, rfl, by decide +kernel, by decide +kernel⟩
theorem ok_text {f : Addr} {fd : FuncData} (F : Fun K "_law_text_by" "_law_text_by" sTextBy f fd) : FnOk P w K mg base CX0 1 f fd ["_law_device", "_law_lines_here"] (spText K) := by
  refine F.ok scText (fun vs H Q E h => ?_) (fun cdv A0 outer st H vs Q E hr h => ?_)
  · obtain ⟨o, l, D, xs, ks, rfl, _⟩ := h
    rfl
  obtain ⟨o, l, D, xs, ks, rfl, hO, dr, hl, hk, mem, hn, q⟩ := h
  have hu := hu_of hr
  refine' ⟨_, pss_cons (ps_set (i := 2) scText.nd rfl (Or.inl rfl) (pe_lst (pa_cons (pe_op op_add_str pe_str (pe_join pe_str (pe_dget hu (pv 0) pe_str (fun _ _ => rfl)))) (pa_cons (pe_op op_add_str pe_str (pe_join pe_str (pe_dget hu (pv 0) pe_str (fun _ _ => rfl)))) pa_nil))))
    (pss_cons (ps_expr (pe_bm PySem.F.plainAttrs_list PySem.F.slot_list_append PySem.F.type_list_append mt_append (pv 2) (pa_cons (pe_op op_add_str pe_str (pe_join pe_str (pe_dget hu (pv 0) pe_str (fun _ _ => rfl)))) pa_nil)))
    (pss_cons (ps_expr (pe_bm PySem.F.plainAttrs_list PySem.F.slot_list_extend PySem.F.type_list_extend mt_extend (pv 2) (pa_cons ?lc pa_nil)))
    (pss_one (ps_ret (pe_join pe_str (pv 2)))))), ?main⟩
  case lc =>
    refine pe_lc (te := tM1 (rJoinK K) (tC (.str " ")) (tOp (rCatT K) (tOp (rCatT K) (tTup (tCons (tC (.str "row")) tNil)) (tVar 3)) (tDGet (tDGet (tVar 0) (tC (.str "rows"))) (tVar 3)))) (own := [("_law_key", 3)]) (g := gName 3) (tt := tYes) rfl scText.nd (pi_list (pv 1)) (blkOk_by (own := [("_law_key", 3)]) (N := nX) (sc := defScope sTextBy) (by decide +kernel))
        (fun _ _ _ _ _ => pg_name (i := 3) scText.nd rfl (Or.inl rfl)) (fun _ _ _ _ _ => pts_nil)
        (fun _ _ _ _ _ => ?_)
    refine' pe_imp ?h ?w
    case h => exact (pe_join pe_str (pe_op op_catT (pe_op op_catT (pe_tup (pa_cons pe_str pa_nil)) (pv 3)) (pe_dget hu (pe_dget hu (pv 0) pe_str (fun _ _ => rfl)) (pv 3) (fun _ _ => rfl))))
    case w => exact fun _ _ _ h => h
  obtain ⟨c, a, s, r, kvs, h1, h2, h3, h4, h5, h6⟩ := hO.ex
  obtain ⟨lc, la, ls⟩ := dr.lens
  have c1 := dr.c1
  have a1 := dr.a1
  have s1 := dr.s1
  have jc := join_le1 sp1_1 lc
  have ja := join_le1 sp1_1 la
  have js := join_le1 sp1_1 ls
  have sc := sum_le lc
  have sa := sum_le la
  have ss := sum_le ls
  have dK := fun (x : Str) (G : Hp) (e : G o = some (.dK [(.inr ("calls" : Str), .ref c), (.inr ("answers" : Str), .ref a), (.inr ("states" : Str), .ref s), (.inr ("rows" : Str), .ref r)])) => DGet.k (k := Sum.inr x) e
  have sz := sizeLine_eq
  have n1 : sp1.length = 1 := sp1_1
  refine ⟨⟨_, rfl⟩, _, rfl, o, _, rfl, dK "calls" H h1, sp1, c, D.calls, rfl, rfl, .inl (SqL.of h2), by rw [n1]; omega, _, _, rfl, rfl, ?_, ⟨_, rfl⟩, _, rfl, o, _, rfl, dK "answers" H h1, sp1, a, D.answers, rfl, rfl,   .inl (SqL.of h3), by rw [n1]; omega, _, _, rfl, rfl, ?_, (by show 2 ≤ sizeLine; decide), fun rw_ nr => ?_⟩
  · have e1 : ("calls " : Str).length = 6 := by decide +kernel
    rw [e1, sz]
    omega
  · have e1 : ("answers " : Str).length = 8 := by decide +kernel
    rw [e1, sz]
    omega
  have t1 := same_new nr (.lst [.str (("calls " : Str) ++ Txt.join sp1 D.calls), .str (("answers " : Str) ++ Txt.join sp1 D.answers)])
  have hr1 : (upd H rw_ (.lst [.str (("calls " : Str) ++ Txt.join sp1 D.calls), .str (("answers " : Str) ++ Txt.join sp1 D.answers)])) rw_ = some (.lst [.str (("calls " : Str) ++ Txt.join sp1 D.calls), .str (("answers " : Str) ++ Txt.join sp1 D.answers)]) := upd_same
  show _
  generalize upd H rw_ (.lst [.str (("calls " : Str) ++ Txt.join sp1 D.calls), .str (("answers " : Str) ++ Txt.join sp1 D.answers)]) = H1 at t1 hr1 ⊢
  refine ⟨_, rfl, .inl ⟨rfl, _, SqL.of hr1⟩, ⟨_, rfl⟩, _, rfl, o, _, rfl, dK "states" H1 (t1 _ _ h1), sp1, s, D.states, rfl, rfl, .inl (SqL.of (t1 _ _ h4)), by rw [n1]; omega, _, _, rfl, rfl, ?_, rw_, _, _, rfl, rfl, hr1, (by show 2 < sizeLine; decide), ?_⟩
  · have e1 : ("states " : Str).length = 7 := by decide +kernel
    rw [e1, sz]
    omega
  have hr2 : (upd H1 rw_ (.lst ([.str (("calls " : Str) ++ Txt.join sp1 D.calls), .str (("answers " : Str) ++ Txt.join sp1 D.answers)] ++ [.str (("states " : Str) ++ Txt.join sp1 D.states)]))) rw_ = some (.lst ((headsOf D).map V.str)) := upd_same
  have t2 : Same H (upd H1 rw_ (.lst ([.str (("calls " : Str) ++ Txt.join sp1 D.calls), .str (("answers " : Str) ++ Txt.join sp1 D.answers)] ++ [.str (("states " : Str) ++ Txt.join sp1 D.states)]))) := fun b u e => by
    rw [upd_ne (ne_of_none e nr)]
    exact t1 _ _ e
  generalize upd H1 rw_ (.lst ([.str (("calls " : Str) ++ Txt.join sp1 D.calls), .str (("answers " : Str) ++ Txt.join sp1 D.answers)] ++ [.str (("states " : Str) ++ Txt.join sp1 D.states)])) = H2 at hr2 t2 ⊢
  refine ⟨_, rfl, .inl ⟨rfl, _, SqL.of hr2⟩, _, rfl, l, rfl, ⟨_, t2.seq hl⟩, fun D1 nD1 => ?_⟩
  have hxs := hk.len
  refine lc_all walk_list nD1 (fun i => V.str (rowOf D (ks.getD i (Str.empty, Str.empty)))) ?_ (fun G sG => sG.seq (t2.seq hl)) ?_ ?_
  · rw [hxs, sz]
    omega
  · rintro i x G G' Kt hi sG ⟨rfl, hx⟩ hK
    obtain ⟨tk, k, rfl, hki, htk⟩ := hk.get hx
    have km := mem k (List.mem_of_getElem? hki)
    obtain ⟨lk, _⟩ := dr.row km
    obtain ⟨_, l8⟩ := dr.row_len km
    have ek : ks.getD i (Str.empty, Str.empty) = k := by
      rw [List.getD_eq_getElem?_getD, hki]
      rfl
    rw [ek] at hK
    have htk' := sG _ _ (t2 _ _ htk)
    have ho := sG _ _ (t2 _ _ h1)
    have hr := sG _ _ (t2 _ _ h5)
    refine ⟨rfl, ⟨_, rfl⟩, (by show 1 ≤ sizeLine; decide), fun t0 nt0 => ?_⟩
    have u0 := same_new nt0 (.tup [.str "row"])
    have ht0 : (upd G' t0 (.tup [.str "row"])) t0 = some (.tup [.str "row"]) := upd_same
    show _
    generalize upd G' t0 (.tup [.str "row"]) = G1 at u0 ht0 ⊢
    refine ⟨_, rfl, t0, tk, [.str "row"], (kT k).map kV, rfl, rfl, .inl (.inl ht0), .inl (.inl (u0 _ _ htk')), by simp, (by show 3 ≤ sizeLine; decide), fun e => absurd e (by simp [kT]), fun _ t1 nt1 => ?_⟩
    have u1 := same_new nt1 (.tup ([.str "row"] ++ (kT k).map kV))
    have ht1 : (upd G1 t1 (.tup ([.str "row"] ++ (kT k).map kV))) t1 = some (.tup [.str "row", .str k.1, .str k.2]) := upd_same
    show _
    generalize upd G1 t1 (.tup ([.str "row"] ++ (kT k).map kV)) = G2 at u1 ht1 ⊢
    have u2 := u0.trans u1
    rcases h6.val k with ⟨l1, _⟩ | ⟨x, tx, l1, l2, l3⟩
    · rw [l1] at lk
      cases lk
    · rw [l1] at lk
      have ex : x = rowX D k := Option.some.inj lk
      subst ex
      have g2 := DGet.t (u2 _ _ hr) (u2 _ _ htk')
      rw [l2] at g2
      refine ⟨_, rfl, o, _, rfl, dK "rows" G2 (u2 _ _ ho), _, rfl, r, _, rfl, g2, t1, tx, [.str "row", .str k.1, .str k.2], [.str (rowX D k).1, .str (rowX D k).2], rfl, rfl, .inl (.inl ht1), same_tup (((t2.trans sG)).trans u2) l3, by simp, (by show 5 ≤ sizeLine; decide), fun e => absurd e (by simp), fun _ t3 nt3 => ?_⟩
      have u3 := same_new nt3 (.tup ([.str "row", .str k.1, .str k.2] ++ [.str (rowX D k).1, .str (rowX D k).2]))
      refine ⟨sp1, t3, ["row", k.1, k.2, (rowX D k).1, (rowX D k).2], rfl, rfl, .inr (.inl (.inl upd_same)), ?_, hK _ (u2.trans u3)⟩
      have := sum_le l8
      rw [n1]
      simp only [List.length_cons, List.length_nil] at this ⊢
      omega
  · intro G sG hD
    rw [hxs, str_bits] at hD
    have hr2' := sG _ _ hr2
    have len3 : ((headsOf D).map V.str).length = 3 := rfl
    refine ⟨rw_, D1, _, _, rfl, rfl, hr2', hD, ?_, ?_⟩
    · rw [len3, List.length_map, List.length_map, sz]
      omega
    have hr3 : (upd G rw_ (.lst ((headsOf D).map V.str ++ (ks.map (rowOf D)).map V.str))) rw_ = some (.lst ((LG.linesOf D ks).map V.str)) := by
      rw [upd_same, ← List.map_append]
      rfl
    have t3 : Same H (upd G rw_ (.lst ((headsOf D).map V.str ++ (ks.map (rowOf D)).map V.str))) := fun b u e => by
      rw [upd_ne (ne_of_none e nr)]
      exact sG _ _ (t2 _ _ e)
    have ll := sum_le (dr.lines_len mem)
    have ln : (LG.linesOf D ks).length = 3 + ks.length := by
      unfold LG.linesOf
      rw [List.length_append, List.length_map]
      rfl
    refine ⟨⟨_, rfl⟩, _, rfl, nl1, rw_, LG.linesOf D ks, rfl, rfl, .inl (SqL.of hr3), ?_, q _ t3⟩
    rw [ln] at ll
    rw [nl1_1, ln]
    omega
end
end K03
set_option Elab.async false
set_option linter.all false
set_option maxRecDepth 100000
set_option maxHeartbeats 8000000
namespace LG
open PySem L2
theorem refs_of {K : PySem.W.Frag} {H : Hp} : ∀ {kvs : List (List Key × V)} {g : Goals} {bs : List Addr}, GR K H kvs g → IsKeys H kvs bs → KeyRefs H (bs.map V.ref) (g.map (·.1))
  | _, _, _, .nil, .nil => .nil
  | _, _, _, .cons _ r, .cons h t => .cons h (refs_of r t)
theorem KeyRefs.butp {H H' : Hp} {p b : _} {vs : List V} {ks : List (Str × Str)} (e : But p H H') (hp : PotAt H p b) (h : KeyRefs H vs ks) : KeyRefs H' vs ks := by
  obtain ⟨own, sm, n, h1, _⟩ := hp
  induction h with
  | nil => exact .nil
  | cons a _ ih => exact .cons (e _ _ a (fun z => by rw [z, h1] at a; cases a)) ih
theorem KeyRefs.mk {H : Hp} {p b : _} {vs : List V} {ks : List (Str × Str)} (hp : PotAt H p b) (h : KeyRefs H vs ks) : KeyRefs (mk p H) vs ks := by
  obtain ⟨own, sm, n, h1, _⟩ := hp
  induction h with
  | nil => exact .nil
  | cons a _ ih => exact .cons (mk_of (fun z => by rw [z, h1] at a; cases a) a) ih
end LG
namespace K03
open PySem L2 LG
section
variable {P : Program} {w : World} {K : PySem.W.Frag} {mg : Str → Option Value} {base : Heap}
def spLines (K : PySem.W.Frag) : Sp := fun vs H Q _ => ∃ (p o : Addr) (b : Nat) (D : Dev), vs = [.ref p, .ref o] ∧ PotAt H p b ∧ b ≤ 50000 ∧ OwnAt K (mk p H) o D ∧ Drawn D ∧
  ∀ (l : Addr) (xs : List V) (ks : List (Str × Str)) (H' : Hp), But p H H' → PotAt H' p (b + 12) → mk p H' l = some (.lst xs) → KeyRefs (mk p H') xs ks → ks.Perm (D.goals.map (·.1)) → Q (.ref l) H'
theorem scLines : FnScope ["_law_pot_here", "_law_device"] ["_law_pot_here", "_law_device"] (defScope sLines) := ⟨rfl, rfl, rfl, by decide +kernel, rfl, by decide +kernel, by decide +kernel⟩
theorem Drawn.goals_len {D : Dev} (d : LG.Drawn D) : D.goals.length = D.states.length * D.calls.length ∧ D.goals.length ≤ 12 := by
  have e := congrArg List.length d.keys
  rw [List.length_map, prod_len] at e
  have := Nat.mul_le_mul d.s1.2 d.c1.2
  omega
theorem ok_lines {f g : Addr} {fd gd : FuncData} (F : Fun K "_law_lines" "_law_lines" sLines f fd) (T : Bltn mg) (G : FnOk P w K mg base CX0 2 g gd ["_law_pot_here", "_law_pool", "_law_many"] (spSome K)) (mG : mg "_law_some" = some (.ref g)) (kG : PySem.W.keepIn K (.ref g) = true) (bG : Binds K gd ["_law_pot_here", "_law_pool", "_law_many"] []) :
    FnOk P w K mg base CX0 3 f fd ["_law_pot_here", "_law_device"] (spLines K) := by
  refine F.ok scLines (fun vs H Q E h => ?_) (fun cdv A0 outer st H vs Q E hr h => ?_)
  · obtain ⟨p, o, b, D, rfl, _⟩ := h
    rfl
  obtain ⟨p, o, b, D, rfl, hp, hb, hO, dr, q⟩ := h
  have hu := hu_of hr
  refine ⟨_, pss_one (ps_ret (pe_call G hr rfl mG kG bG .nil pass0 (pa_cons (pv 0) (pa_cons (pe_callTy (call_list_dT rfl) rfl T.list (by decide +kernel) (pa_cons (pe_dget hu (pv 1) pe_str (fun _ _ => rfl)) pa_nil)) (pa_cons (pe_callB call_len_dT rfl T.len PySem.boot_len (pa_cons (pe_dget hu (pv 1) pe_str (fun _ _ => rfl)) pa_nil)) pa_nil))))), ?_⟩
  obtain ⟨c, a, s, r, kvs, h1, h2, h3, h4, h5, h6⟩ := (hO.same (mk_self p H)).ex
  have dK := fun (x : Str) (G : Hp) (e : G o = some (.dK [(.inr ("calls" : Str), .ref c), (.inr ("answers" : Str), .ref a), (.inr ("states" : Str), .ref s), (.inr ("rows" : Str), .ref r)])) => DGet.k (k := Sum.inr x) e
  obtain ⟨gl, g12⟩ := Drawn.goals_len dr
  have hlen := h6.len
  refine ⟨_, rfl, _, rfl, o, _, rfl, dK "rows" H h1, r, kvs, rfl, .inl h5, fun l bs nl hk => ?_⟩
  have s1 := same_new nl (.lst (bs.map V.ref))
  have hl1 : (upd H l (.lst (bs.map V.ref))) l = some (.lst (bs.map V.ref)) := upd_same
  show _
  generalize upd H l (.lst (bs.map V.ref)) = H1 at s1 hl1 ⊢
  have kr := refs_of h6 hk
  have lb := kr.len
  rw [List.length_map, List.length_map] at lb
  refine ⟨_, rfl, o, _, rfl, dK "rows" H1 (s1 _ _ h1), r, kvs, rfl, s1 _ _ h5, p, l, kvs.length, b, bs.map V.ref, rfl, hp.same s1, by omega, SqL.of hl1, fun z => hp.there (by rw [← z]; exact nl), by rw [List.length_map]; omega, by rw [List.length_map]; omega, fun fo ys H' but pot nf npf hf ly pm => ?_⟩
  obtain ⟨zs, pm⟩ := pm
  have z0 : zs = [] := by
    have := pm.length_eq
    rw [List.length_append, List.length_map] at this
    exact List.eq_nil_of_length_eq_zero (by omega)
  subst z0
  rw [List.nil_append] at pm
  obtain ⟨ks, pk, kr2⟩ := KeyRefs.perm pm kr
  have kr3 := KeyRefs.butp but (hp.same s1) (kr2.same s1)
  exact q fo ys ks H' ((But.of s1).trans but) (pot.mono (by omega)) (mk_of npf hf) (KeyRefs.mk pot kr3) pk
end
end K03
set_option Elab.async false
set_option linter.all false
set_option maxRecDepth 100000
set_option maxHeartbeats 4000000
namespace LG
open PySem L2
/-! ### the text of a drawn device is read as it was written -/
theorem name_signs {x : Str} (h : isNameB x = true) : ∀ c ∈ TL.tl x, (inL c || inF c) = true := by
  unfold isNameB at h
  rw [Bool.and_eq_true] at h
  exact List.all_eq_true.mp h.2
theorem sign32 : (inL 32 || inF 32) = false := by decide +kernel
theorem sign10 : (inL 10 || inF 10) = false := by decide +kernel
theorem no_sign {x : Str} (h : isNameB x = true) {c : Nat} (hc : (inL c || inF c) = false) : c ∉ TL.tl x := fun m => by
  rw [name_signs h c m] at hc
  cases hc
theorem join_mem {y : Str} : ∀ {ts : List Str} {c : Nat}, c ∈ TL.tl (Str.join y ts) → c ∈ TL.tl y ∨ ∃ t ∈ ts, c ∈ TL.tl t
  | [], c, h => by
    have : c ∈ TL.tl Str.empty := h
    simp [TL.tl, Str.empty] at this
  | [x], c, h => .inr ⟨x, List.mem_singleton.mpr rfl, h⟩
  | x :: z :: r, c, h => by
    have e : Str.join y (x :: z :: r) = x ++ y ++ Str.join y (z :: r) := rfl
    rw [e, TL.tl_append, TL.tl_append] at h
    rcases List.mem_append.mp h with h | h
    · rcases List.mem_append.mp h with h | h
      · exact .inr ⟨x, List.mem_cons_self, h⟩
      · exact .inl h
    · rcases join_mem h with h | ⟨t, ht, h⟩
      · exact .inl h
      · exact .inr ⟨t, List.mem_cons_of_mem _ ht, h⟩
theorem words_join {ts : List Str} (hne : ts ≠ []) (h : ∀ t ∈ ts, 32 ∉ TL.tl t) : Txt.split (Txt.join sp1 ts) sp1 = ts := TL.split_join (s := 32) (S := []) (by decide +kernel) sp1_k hne h
theorem lines_join {ts : List Str} (hne : ts ≠ []) (h : ∀ t ∈ ts, 10 ∉ TL.tl t) : Txt.split (Txt.join nl1 ts) nl1 = ts := TL.split_join (s := 10) (S := []) (by decide +kernel) nl1_k hne h
theorem no10_join {ts : List Str} (h : ∀ t ∈ ts, 10 ∉ TL.tl t) : 10 ∉ TL.tl (Txt.join sp1 ts) := fun m => by
  rw [TL.join_eq] at m
  rcases join_mem m with m | ⟨t, ht, m⟩
  · have : (10 : Nat) ∉ TL.tl sp1 := by decide +kernel
    exact this m
  · exact h t ht m
theorem head_line {w : Str} {ns : List Str} (hn : ns ≠ []) : (w ++ sp1) ++ Txt.join sp1 ns = Txt.join sp1 (w :: ns) := by
  rw [TL.join_eq, TL.join_eq]
  cases ns with
  | nil => exact absurd rfl hn
  | cons x r => rfl
theorem headsOf_eq {D : Dev} (d : Drawn D) : headsOf D = [Txt.join sp1 ("calls" :: D.calls), Txt.join sp1 ("answers" :: D.answers), Txt.join sp1 ("states" :: D.states)] := by
  have ne : ∀ {l : List Str} {n : Nat}, 1 ≤ n → n ≤ l.length → l ≠ [] := by
    intro l n h1 h2 e
    rw [e] at h2
    simp at h2
    omega
  have e1 : ("calls " : Str) = ("calls" : Str) ++ sp1 := by decide +kernel
  have e2 : ("answers " : Str) = ("answers" : Str) ++ sp1 := by decide +kernel
  have e3 : ("states " : Str) = ("states" : Str) ++ sp1 := by decide +kernel
  unfold headsOf
  rw [e1, e2, e3, head_line (ne (Nat.le_refl 1) d.c1.1), head_line (ne (by decide) d.a1.1), head_line (ne (Nat.le_refl 1) d.s1.1)]
theorem w10 : (10 : Nat) ∉ TL.tl ("calls" : Str) ∧ (10 : Nat) ∉ TL.tl ("answers" : Str) ∧ (10 : Nat) ∉ TL.tl ("states" : Str) ∧ (10 : Nat) ∉ TL.tl ("row" : Str) := by decide +kernel
theorem w32 : (32 : Nat) ∉ TL.tl ("calls" : Str) ∧ (32 : Nat) ∉ TL.tl ("answers" : Str) ∧ (32 : Nat) ∉ TL.tl ("states" : Str) ∧ (32 : Nat) ∉ TL.tl ("row" : Str) := by decide +kernel
theorem Drawn.row_names {D : Dev} (d : Drawn D) {k : Str × Str} (h : k ∈ D.goals.map (·.1)) : ∀ t ∈ ([k.1, k.2, (rowX D k).1, (rowX D k).2] : List Str), isNameB t = true := by
  obtain ⟨_, h1, h2, h3, h4⟩ := d.row h
  intro t ht
  simp only [List.mem_cons, List.not_mem_nil, or_false] at ht
  rcases ht with rfl | rfl | rfl | rfl
  · exact d.sw _ h1
  · exact d.cw _ h2
  · exact d.aw _ h3
  · exact d.sw _ h4
theorem Drawn.no10 {D : Dev} (d : Drawn D) {ks : List (Str × Str)} (h : ∀ k ∈ ks, k ∈ D.goals.map (·.1)) : ∀ t ∈ linesOf D ks, 10 ∉ TL.tl t := by
  have cons : ∀ {w : Str} {ns : List Str}, (10 : Nat) ∉ TL.tl w → (∀ x ∈ ns, isNameB x = true) → 10 ∉ TL.tl (Txt.join sp1 (w :: ns)) := by
    intro w ns hw hn
    refine no10_join fun t ht => ?_
    rcases List.mem_cons.mp ht with rfl | ht
    · exact hw
    · exact no_sign (hn t ht) sign10
  intro t ht
  unfold linesOf at ht
  rw [headsOf_eq d] at ht
  rcases List.mem_append.mp ht with ht | ht
  · simp only [List.mem_cons, List.not_mem_nil, or_false] at ht
    rcases ht with rfl | rfl | rfl
    · exact cons w10.1 d.cw
    · exact cons w10.2.1 d.aw
    · exact cons w10.2.2.1 d.sw
  · obtain ⟨k, hk, rfl⟩ := List.mem_map.mp ht
    exact cons w10.2.2.2 (d.row_names (h k hk))
theorem namesIn_of {w : Str} {ns : List Str} {a b : Int} (hw : (32 : Nat) ∉ TL.tl w) (hn : ∀ x ∈ ns, isNameB x = true) (nd : ns.Nodup) (ha : a ≤ (ns.length : Int)) (hb : (ns.length : Int) ≤ b) : LG.namesIn (Txt.join sp1 (w :: ns)) w a b = ns := by
  have e : Txt.split (Txt.join sp1 (w :: ns)) sp1 = w :: ns := words_join (by simp) fun t ht => by
    rcases List.mem_cons.mp ht with rfl | ht
    · exact hw
    · exact no_sign (hn t ht) sign32
  unfold LG.namesIn
  rw [e]
  show (if w ≠ w ∨ ¬ (a ≤ (ns.length : Int) ∧ (ns.length : Int) ≤ b) then _ else if (uniq ns).length < ns.length ∨ ¬ (ns.all isNameB = true) then _ else ns) = ns
  rw [if_neg, if_neg]
  · rintro (h | h)
    · have := (uniq_len ns).2.mpr nd
      omega
    · exact h (List.all_eq_true.mpr hn)
  · rintro (h | h)
    · exact h rfl
    · exact h ⟨ha, hb⟩
theorem Drawn.step {D : Dev} (d : Drawn D) {k : Str × Str} (h : k ∈ D.goals.map (·.1)) {g : Goals} (hg : g.lookup k = none) : goalStep D.calls D.answers D.states g (rowOf D k) = some (g ++ [(k, rowX D k)]) := by
  obtain ⟨_, h1, h2, h3, h4⟩ := d.row h
  have e : Txt.split (rowOf D k) sp1 = [("row" : Str), k.1, k.2, (rowX D k).1, (rowX D k).2] := words_join (by simp) fun t ht => by
    rcases List.mem_cons.mp ht with rfl | ht
    · exact w32.2.2.2
    · exact no_sign (d.row_names h t ht) sign32
  have hl : isLine ["row", k.1, k.2, (rowX D k).1, (rowX D k).2] D.calls D.answers D.states = true := by
    unfold isLine
    simp [h1, h2, h3, h4]
  have := step_ok (g := g) (s := k.1) (c := k.2) e hl hg
  exact this
theorem Drawn.goals_from {D : Dev} (d : Drawn D) : ∀ {ks : List (Str × Str)} {n : Nat} {g : Goals}, (∀ k ∈ ks, k ∈ D.goals.map (·.1)) → ks.Nodup → (∀ k ∈ ks, k ∉ g.map (·.1)) →
    goalsFrom D.calls D.answers D.states (ks.map (rowOf D)) n g = .inr (g ++ ks.map fun k => (k, rowX D k))
  | [], n, g, _, _, _ => by simp [goalsFrom]
  | k :: r, n, g, h, nd, out => by
    obtain ⟨n1, n2⟩ := List.nodup_cons.mp nd
    have st := d.step (h k List.mem_cons_self) (g := g) (lookup_none_of (out k List.mem_cons_self))
    show (match goalStep D.calls D.answers D.states g (rowOf D k) with | none => _ | some g' => _) = _
    rw [st]
    have ih := goals_from d (ks := r) (n := n + 1) (g := g ++ [(k, rowX D k)]) (fun x hx => h x (List.mem_cons_of_mem _ hx)) n2 (fun x hx => by
      rw [List.map_append, List.mem_append]
      rintro (m | m)
      · exact out x (List.mem_cons_of_mem _ hx) m
      · have e : x = k := by simpa using m
        exact n1 (e ▸ hx))
    show goalsFrom D.calls D.answers D.states (r.map (rowOf D)) (n + 1) (g ++ [(k, rowX D k)]) = _
    rw [ih, List.map_cons, List.append_assoc]
    rfl
/-- what a device of such a text is -/
def readOf (D : Dev) (ks : List (Str × Str)) : Dev := ⟨D.calls, D.answers, D.states, ks.map fun k => (k, rowX D k)⟩
theorem Drawn.read {D : Dev} (d : Drawn D) {ks : List (Str × Str)} (pm : ks.Perm (D.goals.map (·.1))) : parse (textOf D ks) = .inr (readOf D ks) := by
  have h : ∀ k ∈ ks, k ∈ D.goals.map (·.1) := fun k hk => pm.mem_iff.mp hk
  have nd : ks.Nodup := pm.nodup_iff.mpr (by rw [d.keys]; exact prod_nodup d.sn d.cn)
  have es : Txt.split (textOf D ks) nl1 = linesOf D ks := lines_join (by unfold linesOf headsOf; simp) (d.no10 h)
  have eL : linesOf D ks = Txt.join sp1 ("calls" :: D.calls) :: Txt.join sp1 ("answers" :: D.answers) :: Txt.join sp1 ("states" :: D.states) :: ks.map (rowOf D) := by
    unfold linesOf
    rw [headsOf_eq d]
    rfl
  have c1 := d.c1
  have a1 := d.a1
  have s1 := d.s1
  have i0 : headAt (linesOf D ks) 0 = D.calls := by
    rw [eL]
    exact namesIn_of w32.1 d.cw d.cn (by omega) (by omega)
  have i1 : headAt (linesOf D ks) 1 = D.answers := by
    rw [eL]
    exact namesIn_of w32.2.1 d.aw d.an (by omega) (by omega)
  have i2 : headAt (linesOf D ks) 2 = D.states := by
    rw [eL]
    exact namesIn_of w32.2.2.1 d.sw d.sn (by omega) (by omega)
  have ne : ∀ {l : List Str}, 1 ≤ l.length → l ≠ [] := by
    intro l h1 e
    rw [e] at h1
    simp at h1
  have eh : readHeads (linesOf D ks) = ([D.calls, D.answers, D.states], 0) := by
    unfold readHeads
    rw [i0, i1, i2, if_neg (ne c1.1), if_neg (ne (by omega)), if_neg (ne s1.1)]
  have eg : readGoals (linesOf D ks) D.calls D.answers D.states = .inr (ks.map fun k => (k, rowX D k)) := by
    unfold readGoals
    have ed : (linesOf D ks).drop 3 = ks.map (rowOf D) := by
      rw [eL]
      rfl
    rw [ed, d.goals_from h nd (fun k _ => by simp)]
    show (if _ then _ else _) = _
    rw [if_neg, List.nil_append]
    rw [List.nil_append, List.length_map, pm.length_eq, d.keys, prod_len]
    exact Nat.lt_irrefl _
  rw [parse_heads (by rw [es]; exact eh) (g := []), es, eg]
  rfl
theorem readOf_look {D : Dev} (d : Drawn D) {ks : List (Str × Str)} (pm : ks.Perm (D.goals.map (·.1))) {k : Str × Str} (h : k ∈ D.goals.map (·.1)) : (readOf D ks).goals.lookup k = some (rowX D k) := by
  have hk : k ∈ ks := pm.mem_iff.mpr h
  show (ks.map fun k => (k, rowX D k)).lookup k = _
  clear pm h
  induction ks with
  | nil => cases hk
  | cons x r ih =>
    by_cases e : k = x
    · subst e
      simp [List.lookup]
    · have nb : (k == x) = false := by simpa using e
      rw [List.map_cons]
      have l : List.lookup k ((x, rowX D x) :: r.map fun k => (k, rowX D k)) = List.lookup k (r.map fun k => (k, rowX D k)) := by simp [List.lookup, nb]
      rw [l]
      rcases List.mem_cons.mp hk with z | z
      · exact absurd z e
      · exact ih z
end LG
set_option Elab.async false
set_option linter.all false
set_option maxRecDepth 100000
set_option maxHeartbeats 2000000
/-! for k, v in d.items(), d a locked dict with tuple keys. -/
namespace LG
open PySem PySem.Spec PyProof.Rows L2
/-- the pairs of the locked dict at d -/
def Itit (d : Addr) (o : Obj) (kvs : List (List Key × V)) : It :=
  ⟨fun i H => H d = some (.frz o (.dT kvs)) ∧ i < kvs.length, fun i H x H' => ∃ (T q : Addr) (k : List Key) (v : V), kvs[i]? = some (k, v) ∧ H q = some (.tup (k.map kV)) ∧ x = .ref T ∧ H T = none ∧ H' = upd H T (.tup [.ref q, v]), fun i H => H d = some (.frz o (.dT kvs)) ∧ kvs.length ≤ i⟩
section
variable {X : Cx} {pins : List (Addr × Obj)} {σ : L2.St} {H : Hp} {s : Shared} {d : Addr} {o : Obj}
theorem frz_both {kvs : List (List Key × V)} (I : Inv X pins σ H s) (h : H d = some (.frz o (.dT kvs))) : (d == sysModules) = false ∧ ∃ (es : Array DictEntry) (ep : Nat), o.data = .dict es ep ∧ s.heap.DictRaw d es ep ∧ es.size = kvs.length ∧
    ∀ (i : Nat) (k : List Key) (v : V), kvs[i]? = some (k, v) → ∃ (en : DictEntry) (q : Addr), es[i]? = some en ∧ en.key = .ref q ∧ H q = some (.tup (k.map kV)) ∧ RelV v en.val := by
  obtain ⟨hd, z, hs, xs, pr, o', es, ep, ho, hx, hdt, he, _⟩ := I.hok d _ h
  rw [hd] at ho
  cases ho
  refine ⟨hs, es, ep, hdt, ⟨o, hd, hx, hdt⟩, ?_, fun i k v e => ?_⟩
  · have l1 : es.size = xs.length := size_of_entries he
    have l2 : kvs.length = xs.length := Paired.length pr
    omega
  · obtain ⟨b, hb, e1, e2, e3⟩ := paired_get pr e
    have q := entry_at he i
    rw [hb] at q
    exact ⟨_, b.2.1, q, rfl, e2, e3⟩
end
theorem turn_itemsT {P : Program} {w : World} {K : PySem.W.Frag} {d : Addr} {o : Obj} {es : Array DictEntry} {ep : Nat} {kvs : List (List Key × V)} {elts : List Expr} {kk : Nat} {tpos : Pos} (it : Addr) (hod : o.data = .dict es ep) :
    Turn P w K (.Tuple elts kk tpos) (Itit d o kvs) [it] it (fun i h => ∃ ok ov, IsItemIter h it d i es.size ep ok ov) where
  mem := by simp
  obj := fun i h st b hb => by
    have e : b = it := by simpa using hb
    subst e
    obtain ⟨ok, ov, e⟩ := st
    exact ⟨_, e, fun v z => nomatch z⟩
  keep := fun i h h' st k => by
    obtain ⟨ok, ov, e⟩ := st
    exact ⟨ok, ov, k it (by simp) _ e⟩
  item := by
    intro X hP hw hK hc i pins s σ H E I hf st hg
    subst hP hw hK
    obtain ⟨hd, hi⟩ := hg
    obtain ⟨hs, es', ep', hdt, raw, hsz, ent⟩ := frz_both I hd
    obtain ⟨rfl, rfl⟩ := dict_ep hod hdt
    obtain ⟨⟨k, v⟩, hkv⟩ : ∃ p, kvs[i]? = some p := ⟨kvs[i], List.getElem?_eq_getElem hi⟩
    obtain ⟨en, q, hen, hkey, hq, hv⟩ := ent i k v hkv
    have hlt' : i < es'.size := by omega
    have een : es'[i] = en := by
      rw [Array.getElem?_eq_getElem hlt'] at hen
      exact Option.some.inj hen
    obtain ⟨ok, ov, he⟩ := st
    have hlt : it < s.heap.objs.size := Heap.lt_size he
    refine wpAny_pyNext_items_item_raw he raw hlt' fun h' ho hT hz hk => ?_
    rw [een, hkey] at ho hT
    refine ⟨_, rfl, wpAny_letOwnedTupleGo_items (s := { s with heap := h' }) ho fun h'' he' sb => ?_⟩
    have hT2 : h''.get? s.heap.objs.size = some { cls := .type "tuple", data := .seq #[.ref q, en.val] } := (sb.2 _ (Nat.ne_of_gt hlt)).trans hT
    have new : ObjOk X.prog X.w (upd H s.heap.objs.size (.tup [.ref q, v])) h'' s.heap.objs.size (.tup [.ref q, v]) :=
      ⟨by show 2 ≤ sizeLine; decide, [.ref q, en.val], .cons rfl (.cons hv .nil), ⟨_, hT2, rfl, _, rfl⟩⟩
    have I1 : Inv X pins σ (upd H s.heap.objs.size (.tup [.ref q, v])) { s with heap := h'' } :=
      I.turnedNew (t' := s.toks) (ch := [it]) (fun b ob hb e => (sb.2 b (by simpa using hb)).trans (hk b ob (by simpa using hb) e)) hf (Nat.le_refl _) new
    refine ⟨.ref s.heap.objs.size, _, I1, rfl, ⟨_, q, k, v, hkv, hq, rfl, I.hok.fresh (Nat.le_refl _), rfl⟩, ⟨_, _, he'⟩, fun b hb => ?_⟩
    have e : b = it := by simpa using hb
    rw [e, upd_ne (Nat.ne_of_lt hlt)]
    exact (hf it (by simp)).1
  done := by
    intro X hP hw hK hc i pins s σ H E I hf st hg
    subst hP hw hK
    obtain ⟨hd, hi⟩ := hg
    obtain ⟨f0, f1, f2, f3, f4, f5⟩ := hf it (by simp)
    obtain ⟨hs, es', ep', hdt, raw, hsz, ent⟩ := frz_both I hd
    obtain ⟨rfl, rfl⟩ := dict_ep hod hdt
    obtain ⟨ok, ov, he⟩ := st
    exact wpAny_pyNext_items_end_raw (I.ok.hd hc) he raw (by omega) fun h' eb => ⟨rfl, I.turned (t' := s.toks) (fun b ob hb e => eb b ob hb e) f0 f1 f3 f4 f5⟩
  self := fun A i s Q E st h => by
    obtain ⟨_, _, e⟩ := st
    exact PySem.W.kcp_self e h
def iItemsT (td : TE) : TI := fun σ H R => td σ H fun x H1 => ∃ (d : Addr) (o : Obj) (kvs : List (List Key × V)), x = .ref d ∧ H1 d = some (.frz o (.dT kvs)) ∧ R (Itit d o kvs) H1
theorem pi_itemsT {X : Cx} {e : Expr} {td : TE} {elts : List Expr} {kk : Nat} {tpos apos cpos : Pos} (he : PE X e td) (hbase : attributeBase e "items" X.env (eval e X.env) = eval e X.env := by rfl) (hline : (apos.endLine == cpos.line) = true := by rfl) :
    PI X (.Tuple elts kk tpos) (.Call (.Attribute e "items" apos) [] [] cpos) (iItemsT td) := by
  refine ⟨fun pins s σ H R I h => ?_⟩
  refine wpAny_Call_method (T := "dict") (id := "dict.items") hbase rfl hline F.plainAttrs_dict F.slot_dict_items F.type_dict_items (thn (he.run pins s σ H _ I h) fun u s1 ⟨x, H1, I1, rx, d, o, kvs, ex, hd, q⟩ => ?_)
  subst ex
  have eu : u = Value.ref d := rx
  subst eu
  obtain ⟨hs, es, ep, hdt, raw, hsz, ent⟩ := frz_both I1 hd
  have noD : ∃ ob, s1.heap.get? d = some ob ∧ ob.ExactDict := by
    obtain ⟨ob, h1, h2, _⟩ := raw
    exact ⟨ob, h1, h2⟩
  obtain ⟨ob, hob, hex⟩ := noD
  refine ⟨⟨ob, hob, hex.1⟩, fun a ea => ⟨ob, by cases ea; exact hob, hex.2.1⟩, ?_⟩
  have I2 : Inv X pins σ H1 { s1 with heap := s1.heap.push { cls := .type "dict_items", data := .fields #[.ref d] } } := I1.kept (t' := s1.toks) fun b ob q => Heap.get?_push_of_some _ q
  have raw2 : (s1.heap.push { cls := .type "dict_items", data := .fields #[.ref d] }).DictRaw d es ep := by
    obtain ⟨ob, h1, h2⟩ := raw
    exact ⟨ob, Heap.get?_push_of_some _ h1, h2⟩
  have fin : wpAny (model X.prog X.w) X.A (pyIter (.ref s1.heap.objs.size)) (PIE X pins σ (.Tuple elts kk tpos) R) X.xe { s1 with heap := s1.heap.push { cls := .type "dict_items", data := .fields #[.ref d] } } :=
    wpAny_pyIter_items_raw (d := d) ⟨_, Heap.get?_push_size _ rfl, rfl, rfl⟩ raw2 (pi_one (tk := s1.toks) I2 _ (turn_itemsT _ hdt) ⟨.none, .none, Heap.get?_push_size _ rfl⟩ q)
  show wpAny _ _ (callWith cpos (.builtin "dict.items") [.ref d] [] []) _ X.xe s1
  exact method_meetsIn F.slot_dict_items F.entry_dict_items rfl (PySem.evalArgs_none ⟨rfl, ⟨ob, hob, hex.1⟩, F.args_dict_items_1 _, _, meets_dict_items_raw d hs, ⟨es, ep, raw⟩, fin⟩)
theorem walk_itemsT {d : Addr} {o : Obj} {kvs : List (List Key × V)} : Walk (Itit d o kvs) kvs.length (fun H => H d = some (.frz o (.dT kvs))) (fun i H x H' => ∃ (T q : Addr) (k : List Key) (v : V), kvs[i]? = some (k, v) ∧ H q = some (.tup (k.map kV)) ∧ x = .ref T ∧ H T = none ∧ H' = upd H T (.tup [.ref q, v])) :=
  ⟨fun _ _ hi q => ⟨q, hi⟩, fun _ q => ⟨q, Nat.le_refl _⟩, fun _ _ _ _ _ _ y => y⟩
end LG
set_option Elab.async false
set_option linter.all false
set_option maxRecDepth 100000
set_option maxHeartbeats 2000000
namespace LG
open PySem PySem.Spec PyProof.Rows L2 LamX
section
variable {P : Program} {w : World} {K : PySem.W.Frag} {mg : Str → Option Value} {base : Heap}
/-- a def's promise by its body, its code object known -/
theorem gn_ofL {x qual : Str} {st : Stmt} {f : Addr} {oc : Value} {od : Option Addr} {kV doc pm cv ct : Value} {an : Option Addr} {osl : Array (Option Value)} {N ps : List Str} {k : Nat} {sp : Sp}
    (lk : K.lookup f = some ⟨oc, od, .func (PySem.W.fnOf x qual (defArgs st) (defBody st) (defScope st) .none kV doc pm an cv ct), osl⟩) (hcd : PySem.W.codeIn K cv qual = true) (S : FnScope N ps (defScope st))
    (len : ∀ vs H Q E, sp vs H Q E → vs.length = ps.length)
    (body : ∀ (B : Around) (callers : List Env) (z : Shared) (H : Hp) (vs : List V) (Q : VK), B.guards = some [] → Room k (B.deeper (envOfC qual (defScope st) z.heap.objs.size f cv)) → sp vs H Q E0 →
      ∃ t, PSs (cxOf CX0 P w K mg base N qual (defScope st) f cv B callers z H E0).nox (defBody st) t ∧ t { nx := fun _ H' => Q .non H', rt := Q } (start N vs) H) :
    GnOk P w K mg base (k + 1) f (PySem.W.fnOf x qual (defArgs st) (defBody st) (defScope st) .none kV doc pm an cv ct) ps sp := by
  refine ⟨len, fun B callers z H args us vs Q hg hr e0 hb r hsp => ?_⟩
  have many := len _ _ _ _ hsp
  have inK : K.In z.heap := e0.mod.kin.keeps fun b o e => (e0.bs b o e).1
  have nolim : z.heap.NoLimit := e0.mod.nolimit.keeps fun b o e => (e0.bs b o e).1
  have kinds : ∀ y ∈ ps.zip us, (defScope st).names.lookup y.1 = some .local ∨ ((defScope st).names.lookup y.1 = some .cell ∧ ((cellsFrom (z.heap.objs.size + 1) (defScope st).names []).lookup y.1).isSome = true) := by
    rintro ⟨n, v⟩ hy
    cases S.par n (List.of_mem_zip hy).1 with
    | inl q => exact .inl q
    | inr q => exact .inr ⟨q, PySem.W.cellsFrom_some _ _ _ (.inl q)⟩
  refine codeAny_call_function hr.depth (inK _ _ lk) rfl S.co S.gen rfl (PySem.W.codeRec_of inK hcd) (hb _ _ _ _ ?_)
  refine wpAny_newFunctionEnv_cells S.kind kinds fun env he z1 entered => ?_
  subst he
  refine ⟨nolim.keeps entered.toInCall.keep, codeAny_func ?_⟩
  obtain ⟨t, ht, q0⟩ := body B callers z H vs Q hg (hr.deeper _) hsp
  have J := inv_start (CX := CX0) (E := E0) S hr.hd e0 many r entered
  refine wpAny_mono (ht.nox.run [] z1 (start N vs) H _ J q0) (fun fl z' ends => ?_) fun _ _ e => e
  cases fl with
  | ret u =>
    obtain ⟨v, σ', H', J', rv, q⟩ := ends
    exact ⟨v, H', J'.os, J'.bare, J'.base, J'.hok, rv, q⟩
  | next =>
    obtain ⟨σ', H', J', q⟩ := ends
    exact ⟨V.non, H', J'.os, J'.bare, J'.base, J'.hok, rfl, q⟩
  | brk =>
    obtain ⟨_, _, _, q⟩ := ends
    exact q.elim
  | cont =>
    obtain ⟨_, _, _, q⟩ := ends
    exact q.elim
/-- nothing is raised -/
theorem passF {X : Cx} : Passes (L2.CX X.prog X.w) X (fun _ _ _ => False) := fun _ _ _ _ _ _ _ c => by
  obtain ⟨_, _, _, _, _, _, _, _, _, _, _, _, z⟩ := c
  exact z.elim
/-- the tables are masked -/
def mt (H : Hp) : Hp := fun b => match H b with
  | some (.tbl _) => none
  | o => o
theorem mt_some {H : Hp} {b : Addr} {o : HO} (h : mt H b = some o) : H b = some o ∧ ∀ ps, o ≠ .tbl ps := by
  unfold mt at h
  cases e : H b with
  | none =>
    rw [e] at h
    cases h
  | some u =>
    rw [e] at h
    cases u with
    | tbl ps => cases h
    | _ => cases h; exact ⟨rfl, fun ps z => by cases z⟩
theorem mt_of {H : Hp} {b : Addr} {o : HO} (h : H b = some o) (n : ∀ ps, o ≠ .tbl ps) : mt H b = some o := by
  unfold mt
  rw [h]
  cases o with
  | tbl ps => exact absurd rfl (n ps)
  | _ => rfl
theorem mt_ext {H H' : Hp} (e : ExtN H H') : Same (mt H) (mt H') := fun b o h => by
  obtain ⟨h1, h2⟩ := mt_some h
  exact mt_of (e b o h1 h2) h2
theorem mt_up {H H' : Hp} (e : Same H H') : Same (mt H) (mt H') := mt_ext (ExtN.of e)
theorem mt_self (H : Hp) : Same (mt H) H := fun b o h => (mt_some h).1
theorem ext_of_mt {H H' : Hp} (e : Same (mt H) (mt H')) : ExtN H H' := fun b o h n => (mt_some (e b o (mt_of h n))).1
end
end LG
set_option Elab.async false
set_option linter.all false
set_option maxRecDepth 100000
set_option maxHeartbeats 4000000
namespace LG
open PySem L2
def tyNames : List String := ["NoneType", "bool", "int", "str", "list", "tuple", "dict"]
theorem Gx.ty {K : PySem.W.Frag} {n : Nat} {H : Hp} {v : V} (h : Gx K n H v) : (∃ x, v = .str x ∧ TyX K H v (.type "str")) ∨ ∃ T ∈ tyNames, T ≠ "str" ∧ TyX K H v (.type T) ∧ ∀ x, v ≠ .str x := by
  obtain ⟨d, h, _⟩ := h
  cases h with
  | flat h =>
    obtain ⟨T, ty, e⟩ := ty_of h
    cases h with
    | str x => exact .inl ⟨x, rfl, by subst e; exact ty⟩
    | non => exact .inr ⟨T, by subst e; simp [tyNames], by subst e; simp, ty, fun x z => nomatch z⟩
    | bl b => exact .inr ⟨T, by subst e; simp [tyNames], by subst e; simp, ty, fun x z => nomatch z⟩
    | int i => exact .inr ⟨T, by subst e; simp [tyNames], by subst e; simp, ty, fun x z => nomatch z⟩
    | lst _ _ => exact .inr ⟨T, by subst e; simp [tyNames], by subst e; simp, ty, fun x z => nomatch z⟩
    | tup _ _ => exact .inr ⟨T, by subst e; simp [tyNames], by subst e; simp, ty, fun x z => nomatch z⟩
  | dct h p => exact .inr ⟨"dict", by simp [tyNames], by simp, .base (.dK h), fun x z => nomatch z⟩
theorem kit_nostr {K : PySem.W.Frag} : ∀ T ∈ tyNames, T ≠ "str" → PySem.W.kitOne K (.type T) (.type "str") = some false := by
  intro T hT ne
  simp only [tyNames, List.mem_cons, List.not_mem_nil, or_false] at hT
  rcases hT with rfl | rfl | rfl | rfl | rfl | rfl | rfl
  · exact kit_ty (by decide +kernel)
  · exact kit_ty (by decide +kernel)
  · exact kit_ty (by decide +kernel)
  · exact absurd rfl ne
  · exact kit_ty (by decide +kernel)
  · exact kit_ty (by decide +kernel)
  · exact kit_ty (by decide +kernel)
theorem Gx.strOr {K : PySem.W.Frag} {n : Nat} {H : Hp} {v : V} (h : Gx K n H v) : StrOr K H v := by
  rcases h.ty with ⟨x, e, _⟩ | ⟨T, hT, ne, ty, no⟩
  · exact .inl ⟨x, e⟩
  · exact .inr ⟨_, ty, kit_nostr T hT ne, no⟩
end LG
namespace K03
open PySem L2 LG
section
variable {P : Program} {w : World} {K : PySem.W.Frag} {mg : Str → Option Value} {base : Heap}
theorem scOdd : FnScope ["_law_pot_here", "_law_some_here"] ["_law_pot_here"] (defScope sOdd) := ⟨rfl, rfl, rfl, by decide +kernel, rfl, by decide +kernel, by decide +kernel⟩
theorem ok_odd {f g : Addr} {fd gd : FuncData} (F : Fun K "_law_odd" "_law_odd" sOdd f fd) (G : FnOk P w K mg base CX0 2 g gd ["_law_pot_here", "_law_some_here"] (spOf K)) (mG : mg "_law_of" = some (.ref g)) (kG : PySem.W.keepIn K (.ref g) = true) (bG : Binds K gd ["_law_pot_here", "_law_some_here"] []) :
    FnOk P w K mg base CX0 3 f fd ["_law_pot_here"] (spOdd K) := by
  refine F.ok scOdd (fun vs H Q E h => ?_) (fun cdv A outer s H vs Q E hr h => ?_)
  · obtain ⟨p, b, rfl, _⟩ := h
    rfl
  obtain ⟨p, b, rfl, hp, hb, q⟩ := h
  refine ⟨_, pss_cons (ps_set (i := 1) scOdd.nd rfl (Or.inl rfl) (pe_lst (gx_cons (n := 2) (gx_of gd_none) (gx_cons (gx_of gd_bool) (gx_cons (gx_of gd_bool) (gx_cons (gx_of gd_int) (gx_cons (gx_of gd_int) (gx_cons (gx_of gd_neg) (gx_cons (gx_of gd_int)
      (gx_cons (pe_imp (t' := tGx K 2) (pe_op op_pow pe_int pe_int) fun _ H Q h => ⟨_, _, rfl, rfl, ⟨by decide, by decide, by decide⟩, h _ _ (Same.refl H) ⟨.int _, .flat (.int _), by decide +kernel⟩⟩)
      (gx_cons (gx_of gd_str) (gx_cons (gx_of gd_str) (gx_cons (gx_of gd_str) (gx_cons (gx_of gd_str) (gx_cons (gx_of gd_str) (gx_cons (gx_of gd_str)
      (gx_cons (gx_of (gd_tup gd_nil)) (gx_cons (gx_of (gd_lst gd_nil)) (gx_cons gx_dict0 (gx_cons (gx_of (gd_tup (gd_cons gd_int gd_nil))) (gx_cons (gx_of (gd_tup (gd_cons (gd_tup gd_nil) gd_nil))) (gx_cons (gx_of (gd_lst (gd_cons gd_int gd_nil))) gx_nil))))))))))))))))))))))
    (pss_one (ps_ret (pe_call G hr rfl mG kG bG .nil pass0 (pa_cons (pv 0) (pa_cons (pe_op op_cat (pv 1) (pe_lst
      (gx_cons (n := 2) (gx_of (gd_tup (gd_cons gd_str gd_nil))) (gx_cons (gx_of (gd_tup (gd_cons gd_str (gd_cons gd_str gd_nil)))) (gx_cons (gx_of (gd_tup (gd_cons (gd_tup (gd_cons gd_str (gd_cons gd_str gd_nil))) gd_nil))) (gx_cons (gx_of (gd_tup (gd_cons (gd_tup (gd_cons gd_str gd_nil)) gd_nil)))
      (gx_cons (gx_of (gd_tup (gd_cons gd_none gd_nil))) (gx_cons gx_dict1 (gx_cons (gx_of (gd_tup (gd_cons gd_str (gd_cons gd_int gd_nil)))) (gx_cons (gx_of (gd_tup (gd_cons gd_bool gd_nil))) gx_nil)))))))))) pa_nil))))), ?_⟩
  intro xs H1 s1 l1 g1
  refine ⟨by rw [l1]; decide, fun l nl => ?_⟩
  have sl := same_new nl (.lst xs)
  have hl : (upd H1 l (.lst xs)) l = some (.lst xs) := upd_same
  show _
  generalize hH2 : upd H1 l (.lst xs) = H2 at sl hl
  refine ⟨_, rfl, _, rfl, ?_⟩
  intro ys H3 s3 l3 g3
  refine ⟨by rw [l3]; decide, fun l2 nl2 => ?_⟩
  have s4 := same_new nl2 (.lst ys)
  refine ⟨l, l2, _, _, rfl, rfl, s4 _ _ (s3 _ _ hl), upd_same, by rw [l1, l3]; decide, fun l5 nl5 => ?_⟩
  have s5 := same_new nl5 (.lst (xs ++ ys))
  have sAll : Same H (upd (upd H3 l2 (.lst ys)) l5 (.lst (xs ++ ys))) := (((s1.trans sl).trans s3).trans s4).trans s5
  refine ⟨p, l5, xs ++ ys, b, rfl, hp.same sAll, hb, SqL.of upd_same, by rw [List.length_append, l1, l3]; decide, by rw [List.length_append, l1, l3]; decide, ?_, fun x H' hx but pot => ?_⟩
  · intro z
    have := ((s1.trans sl).trans s3).trans s4
    have hpp := hp.same this
    exact hpp.there (by rw [← z]; exact nl5)
  · refine q x H' ((But.of sAll).trans but) pot ?_
    have up : Same (mn H (upd (upd H3 l2 (.lst ys)) l5 (.lst (xs ++ ys)))) (mn H H') := mn_but but hp.there
    rcases List.mem_append.mp hx with hx | hx
    · exact (g1 x hx).same ((mn_up (((sl.trans s3).trans s4).trans s5)).trans up)
    · exact (g3 x hx).same (((mn_down (s1.trans sl)).trans (mn_up (s4.trans s5))).trans up)
end
end K03
set_option Elab.async false
set_option linter.all false
set_option maxRecDepth 100000
set_option maxHeartbeats 8000000
namespace LG
open PySem L2 LamX
/-! ### what stands where only tables change -/
theorem SqT.mt {K : PySem.W.Frag} {H : Hp} {t : Addr} {zs : List V} (h : SqT K H t zs) : SqT K (mt H) t zs := by
  rcases h with (q | ⟨o, q⟩) | q
  · exact .inl (.inl (mt_of q fun ps z => by cases z))
  · exact .inl (.inr ⟨o, mt_of q fun ps z => by cases z⟩)
  · exact .inr q
theorem SqL.mt {K : PySem.W.Frag} {H : Hp} {t : Addr} {zs : List V} (h : SqL K H t zs) : SqL K (mt H) t zs := by
  rcases h with (q | ⟨o, q⟩) | q
  · exact .inl (.inl (mt_of q fun ps z => by cases z))
  · exact .inl (.inr ⟨o, mt_of q fun ps z => by cases z⟩)
  · exact .inr q
mutual
theorem Dp_mt {K : PySem.W.Frag} {H : Hp} : ∀ (d : PyData) (v : V), Dp K H v d → Dp K (mt H) v d
  | .none, _, h => by cases h; exact .non
  | .bool b, _, h => by cases h; exact .bl b
  | .int i, _, h => by cases h; exact .int i
  | .str x, _, h => by cases h; exact .str x
  | .list ds, _, h => by
    cases h with
    | lst hs ha => exact .lst (SqL.mt hs) (DpAll_mt ds _ ha)
  | .tuple ds, _, h => by
    cases h with
    | tup hs ha => exact .tup (SqT.mt hs) (DpAll_mt ds _ ha)
  | .dict _, _, h => by cases h
theorem DpAll_mt {K : PySem.W.Frag} {H : Hp} : ∀ (ds : List PyData) (vs : List V), DpAll K H vs ds → DpAll K (mt H) vs ds
  | [], _, h => by cases h; exact .nil
  | d :: ds, _, h => by
    cases h with
    | cons h1 h2 => exact .cons (Dp_mt d _ h1) (DpAll_mt ds _ h2)
end
theorem Gx.mt {K : PySem.W.Frag} {n : Nat} {H : Hp} {v : V} (h : Gx K n H v) : Gx K n (mt H) v := by
  obtain ⟨d, h, hs⟩ := h
  refine ⟨d, ?_, hs⟩
  cases h with
  | flat h => exact .flat (Dp_mt _ _ h)
  | dct h p => exact .dct (mt_of h fun ps z => by cases z) p
theorem GR.mt {K : PySem.W.Frag} {H : Hp} {kvs : List (List Key × V)} {g : Goals} (h : GR K H kvs g) : GR K (mt H) kvs g := by
  induction h with
  | nil => exact .nil
  | cons a _ ih => exact .cons (SqT.mt a) ih
theorem DevAt.mt {K : PySem.W.Frag} {H : Hp} {x C : Addr} {T : Str} {D : Dev} (h : DevAt K H x C T D) : DevAt K (mt H) x C T D := by
  obtain ⟨dx, c, a, s, g, h1, h2, h3, h4, kvs, h5, h6⟩ := h
  exact ⟨dx, c, a, s, g, mt_of h1 (fun ps z => by cases z), SqT.mt h2, SqT.mt h3, SqT.mt h4, kvs, h5.elim (fun q => .inl (mt_of q fun ps z => by cases z)) (fun ⟨o, q⟩ => .inr ⟨o, mt_of q fun ps z => by cases z⟩), h6.mt⟩
theorem OwnAt.mt {K : PySem.W.Frag} {H : Hp} {o : Addr} {D : Dev} (h : OwnAt K H o D) : OwnAt K (mt H) o D := by
  obtain ⟨c, a, s, r, kvs, h1, h2, h3, h4, h5, h6⟩ := h.ex
  exact ⟨⟨c, a, s, r, kvs, mt_of h1 (fun ps z => by cases z), mt_of h2 (fun ps z => by cases z), mt_of h3 (fun ps z => by cases z), mt_of h4 (fun ps z => by cases z), mt_of h5 (fun ps z => by cases z), h6.mt⟩⟩
theorem DevAt.ext {K : PySem.W.Frag} {H H' : Hp} {x C : Addr} {T : Str} {D : Dev} (e : ExtN H H') (h : DevAt K H x C T D) : DevAt K H' x C T D := (h.mt.same (mt_ext e)).same (mt_self H')
theorem OwnAt.ext {K : PySem.W.Frag} {H H' : Hp} {o : Addr} {D : Dev} (e : ExtN H H') (h : OwnAt K H o D) : OwnAt K H' o D := (h.mt.same (mt_ext e)).same (mt_self H')
theorem Gx.ext {K : PySem.W.Frag} {n : Nat} {H H' : Hp} {v : V} (e : ExtN H H') (h : Gx K n H v) : Gx K n H' v := (h.mt.same (mt_ext e)).same (mt_self H')
theorem SqLext {K : PySem.W.Frag} {H H' : Hp} {t : Addr} {zs : List V} (e : ExtN H H') (h : SqL K H t zs) : SqL K H' t zs := (mt_self H').seq ((mt_ext e).seq (SqL.mt h))
theorem exq_tbl {a : Addr} {c : Value} {d : Option Addr} : ∀ ps, exq a c d ≠ .tbl ps := fun ps z => by
  have z' : HO.ext _ = HO.tbl ps := z
  cases z'
theorem ErrQ.ext {H H' : Hp} {a C d : Addr} {fs : List (Str × V)} (e : ExtN H H') (h : ErrQ H a C d fs) : ErrQ H' a C d fs := ⟨e _ _ h.ob exq_tbl, e _ _ h.dc fun ps z => by cases z⟩
/-- while a dict with tuple keys is locked -/
theorem tup_lock {K : PySem.W.Frag} {H G : Hp} {r t : Addr} {kvs : List (List Key × V)} {zs : List V} (hr : H r = some (.dT kvs)) (e : But r H G) (h : SqT K H t zs) : SqT K G t zs := by
  rcases h with (q | ⟨o, q⟩) | q
  · exact .inl (.inl (e _ _ q (fun z => by rw [z, hr] at q; cases q)))
  · exact .inl (.inr ⟨o, e _ _ q (fun z => by rw [z, hr] at q; cases q)⟩)
  · exact .inr q
theorem gr_lock {K : PySem.W.Frag} {H G : Hp} {r : Addr} {kvs kvs' : List (List Key × V)} {g : Goals} (hr : H r = some (.dT kvs)) (e : But r H G) (h : GR K H kvs' g) : GR K G kvs' g := by
  induction h with
  | nil => exact .nil
  | cons a _ ih => exact .cons (tup_lock hr e a) ih
theorem DevAt.lock {K : PySem.W.Frag} {H G : Hp} {r x C : Addr} {kvs : List (List Key × V)} {od : Obj} {T : Str} {D : Dev} (hr : H r = some (.dT kvs)) (e : But r H G) (hg : G r = some (.frz od (.dT kvs))) (h : DevAt K H x C T D) : DevAt K G x C T D := by
  obtain ⟨dx, c, a, s, g, h1, h2, h3, h4, kvs', h5, h6⟩ := h
  refine ⟨dx, c, a, s, g, e _ _ h1 (fun z => by rw [z, hr] at h1; cases h1), tup_lock hr e h2, tup_lock hr e h3, tup_lock hr e h4, kvs', ?_, gr_lock hr e h6⟩
  by_cases hb : g = r
  · rcases h5 with q | ⟨o, q⟩
    · rw [hb, hr] at q
      cases q
      rw [hb]
      exact .inr ⟨od, hg⟩
    · rw [hb, hr] at q
      cases q
  · exact h5.elim (fun q => .inl (e _ _ q hb)) fun ⟨o, q⟩ => .inr ⟨o, e _ _ q hb⟩
/-- what the written part says of a class of errors that are caught -/
structure EQl (K : PySem.W.Frag) (mg : Str → Option Value) (fI B : Addr) (x : Str) (C : Addr) : Prop where
  ec : ECl K mg fI x C
  box : PySem.W.exmOne K (.ref C) (.ref B) = some true
/-- a caught error at v of the class at C that keeps y -/
def Caught (H : Hp) (C : Addr) (v y : V) : Prop := ∃ a d, v = .ref a ∧ ErrQ H a C d (vf y)
theorem Caught.ext {H H' : Hp} {C : Addr} {v y : V} (e : ExtN H H') (h : Caught H C v y) : Caught H' C v y := by
  obtain ⟨a, d, h1, h2⟩ := h
  exact ⟨a, d, h1, h2.ext e⟩
/-- one look by told: what is raised is caught, with its value -/
theorem told_row {K : PySem.W.Frag} {mg : Str → Option Value} {fI B C CS CC : Addr} {T : List (Addr × Str)} {H : Hp} {x : Addr} {s c : V} {txt : Str} {D : Dev} {Q : VK} {tl : XK → Hp → VK → Prop} (eS : EQl K mg fI B "NoState" CS) (eC : EQl K mg fI B "NoCall" CC)
    (hT : Tabs T H)
    (run : ∀ (G : Hp) (E : XK) (R : VK), ExtN H G → NoRow CS CC D s c G E → (amongB s D.states = true → amongB c D.calls = true → ∀ t G', Same G G' → R (.ref t) G') → tl E G R)
    (qs : ∀ (v : V) (p : Addr) (G : Hp), amongB s D.states = false → ExtN H G → Tabs T G → Caught G CS v s → G p = some (.tup [v, .non]) → Q (.ref p) G)
    (qc : ∀ (v : V) (p : Addr) (G : Hp), amongB s D.states = true → amongB c D.calls = false → ExtN H G → Tabs T G → Caught G CC v c → G p = some (.tup [v, .non]) → Q (.ref p) G)
    (qn : ∀ (v : V) (p : Addr) (G : Hp), amongB s D.states = true → amongB c D.calls = true → ExtN H G → Tabs T G → G p = some (.tup [.non, v]) → Q (.ref p) G) :
    Tabs T H ∧ ∀ H1, ExtN H H1 → Tabs T H1 → TTk K B tl H1 Q := by
  refine ⟨hT, fun H1 e1 T1 H2 E R s2 he hr => ?_⟩
  have e2 : ExtN H H2 := e1.trans (ExtN.of s2)
  have T2 : Tabs T H2 := T1.ext s2
  have fin : ∀ {Cx : Addr} {y : V} (d : Addr), H2 d = none → PySem.W.exmOne K (.ref Cx) (.ref B) = some true → (∀ (v : V) (p : Addr) (G : Hp), ExtN H G → Tabs T G → Caught G Cx v y → G p = some (.tup [v, .non]) → Q (.ref p) G) → E (.ref Cx) (some d) (upd H2 d (.xd (vf y))) := by
    intro Cx y d nd ex k
    have s3 := same_new nd (.xd (vf y))
    have hd : (upd H2 d (.xd (vf y))) d = some (.xd (vf y)) := upd_same
    refine he _ _ _ ex fun a na p np => ?_
    have s4 := same_new na (exq a (.ref Cx) (some d))
    have s5 := same_new np (.tup [.ref a, V.non])
    have s35 := (s3.trans s4).trans s5
    refine k (.ref a) p _ (e2.trans (ExtN.of s35)) (T2.ext s35) ⟨a, d, rfl, s5 _ _ upd_same, (s4.trans s5) _ _ hd⟩ upd_same
  refine run H2 E R e2 ⟨fun a1 d nd => ?_, fun a1 a2 d nd => ?_⟩ fun a1 a2 t G' sG => ?_
  · exact fin d nd eS.box fun v p G eG tG cG hp => qs v p G a1 eG tG cG hp
  · exact fin d nd eC.box fun v p G eG tG cG hp => qc v p G a1 a2 eG tG cG hp
  · refine hr _ _ fun p np => ?_
    have s5 := same_new np (.tup [V.non, .ref t])
    exact qn (.ref t) p _ a1 a2 (e2.trans (ExtN.of (sG.trans s5))) (T2.ext (sG.trans s5)) upd_same
end LG
set_option Elab.async false
set_option linter.all false
set_option maxRecDepth 100000
set_option maxHeartbeats 8000000
namespace LG
open PySem L2 LamX
theorem kit_self {K : PySem.W.Frag} {t : Value} : PySem.W.kitOne K t t = some true := if_pos (beq_self_eq_true _)
theorem upper_small {x : Str} (h : isNameB x = true) : small 0 (.str (Txt.upper x)) = true := by
  have hl := name_len h
  have hu := PyProof.Rows.len_upper x
  have hs := name_signs h
  have ok : ∀ c : Nat, (inL c || inF c) = true → (Unicode.upperOf c).all (fun d => decide (d < 16 ^ 8)) = true := by
    intro c hc
    have hm : c ∈ LET.cps.toList ++ FIG.cps.toList := by
      rw [Bool.or_eq_true] at hc
      rcases hc with hc | hc
      · exact List.mem_append_left _ (of_decide_eq_true hc)
      · exact List.mem_append_right _ (of_decide_eq_true hc)
    have all : (LET.cps.toList ++ FIG.cps.toList).all (fun c => (Unicode.upperOf c).all fun d => decide (d < 16 ^ 8)) = true := by decide +kernel
    exact List.all_eq_true.mp all c hm
  simp only [small, Bool.and_eq_true, decide_eq_true_eq]
  refine ⟨by omega, List.all_eq_true.mpr fun d hd => ?_⟩
  have hd' : d ∈ ((x.cps.mapIdx fun i c => (Unicode.upperOf c).toArray).flatten).toList := hd
  rw [Array.mem_toList_iff, Array.mem_flatten] at hd'
  obtain ⟨a, ha, hda⟩ := hd'
  obtain ⟨i, hi, rfl⟩ := Array.mem_mapIdx.mp ha
  have hc : x.cps[i] ∈ TL.tl x := by
    show x.cps[i] ∈ x.cps.toList
    simp
  have := List.all_eq_true.mp (ok _ (hs _ hc)) d (by simpa using hda)
  exact this
theorem name_small {x : Str} (h : isNameB x = true) : small 0 (.str x) = true := by
  have hl := name_len h
  have hs := name_signs h
  simp only [small, Bool.and_eq_true, decide_eq_true_eq]
  refine ⟨by omega, List.all_eq_true.mpr fun d hd => ?_⟩
  have hc := hs d hd
  have hm : d ∈ LET.cps.toList ++ FIG.cps.toList := by
    rw [Bool.or_eq_true] at hc
    rcases hc with hc | hc
    · exact List.mem_append_left _ (of_decide_eq_true hc)
    · exact List.mem_append_right _ (of_decide_eq_true hc)
  have all : (LET.cps.toList ++ FIG.cps.toList).all (fun d => decide (d < 16 ^ 8)) = true := by decide +kernel
  exact List.all_eq_true.mp all d hm
theorem name_x_small {x : Str} (h : isNameB x = true) : small 0 (.str (x ++ ("x" : Str))) = true := by
  have hl := name_len h
  have h0 := name_small h
  simp only [small, Bool.and_eq_true, decide_eq_true_eq] at h0 ⊢
  refine ⟨?_, ?_⟩
  · rw [strLen_append]
    have : ("x" : Str).length = 1 := by decide +kernel
    omega
  · have e : (x ++ ("x" : Str)).cps.toList = x.cps.toList ++ ("x" : Str).cps.toList := TL.tl_append x "x"
    rw [e, List.all_append, h0.2]
    decide +kernel
theorem Gx.str {K : PySem.W.Frag} {n : Nat} {H : Hp} {x : Str} (h : small 0 (.str x) = true) : Gx K n H (.str x) := ⟨.str x, .flat (.str x), small_le (Nat.zero_le n) h⟩
/-- all but p and the tables stay -/
def BtR (p : Addr) (H H' : Hp) : Prop := ∀ c o, H c = some o → c ≠ p → (∀ ps, o ≠ .tbl ps) → H' c = some o
theorem BtR.trans {p : Addr} {H H1 H2 : Hp} (a : BtR p H H1) (b : BtR p H1 H2) : BtR p H H2 := fun c o h n t => b c o (a c o h n t) n t
theorem BtR.of {p : Addr} {H H' : Hp} (a : But p H H') : BtR p H H' := fun c o h n _ => a c o h n
theorem BtR.ex {p : Addr} {H H' : Hp} (a : ExtN H H') : BtR p H H' := fun c o h _ t => a c o h t
theorem Tabs.but {T : List (Addr × Str)} {H H' : Hp} {p b : _} (e : But p H H') (hp : PotAt H p b) (h : Tabs T H) : Tabs T H' := by
  obtain ⟨own, sm, n, h1, _⟩ := hp
  intro q hq
  obtain ⟨ps, t1, t2, t3⟩ := h q hq
  refine ⟨ps, e _ _ t1 (fun z => by rw [z, h1] at t1; cases t1), t2, fun pos cv hc => ?_⟩
  obtain ⟨c, e1, e2⟩ := t3 pos cv hc
  exact ⟨c, e1, e _ _ e2 (fun z => by
    rw [z, h1] at e2
    have e3 : HO.lst _ = HO.ext _ := Option.some.inj e2
    cases e3)⟩
theorem PotAt.ext {H H' : Hp} {p b : _} (e : ExtN H H') (h : PotAt H p b) : PotAt H' p b := by
  obtain ⟨own, sm, n, h1, h2⟩ := h
  exact ⟨own, sm, n, e _ _ h1 (fun ps z => by cases z), h2⟩
end LG
set_option Elab.async false
set_option linter.all false
set_option maxRecDepth 100000
set_option maxHeartbeats 8000000
namespace K03
open PySem L2 LG
section
variable {P : Program} {w : World} {K : PySem.W.Frag} {mg : Str → Option Value} {base : Heap}
/-- a tuple of so many of these calls: the tuple's items, or no tuple -/
def spIsWalk (K : PySem.W.Frag) : Sp := fun vs H Q _ => ∃ (v : V) (c : Addr) (lo hi : Int) (C : List Str), vs = [v, .ref c, .int lo, .int hi] ∧ SqT K H c (C.map V.str) ∧
  ((∃ (t : Addr) (xs : List V), v = .ref t ∧ SqT K H t xs ∧ xs.length ≤ 1000 ∧ (∀ x ∈ xs, ∀ G, Same H G → StrOr K G x) ∧ ∀ G, Same H G → Q (.bl ((decide (lo ≤ (xs.length : Int)) && decide ((xs.length : Int) ≤ hi)) && xs.all fun x => amongB x C)) G) ∨
   ∃ ty, TyX K H v ty ∧ PySem.W.kitOne K ty (.type "tuple") = some false ∧ Q (.bl false) H)
abbrev nIw : List Str := ["value", "calls", "fewest", "most", "call"]
theorem scIsWalk : FnScope nIw ["value", "calls", "fewest", "most"] (defScope sIsWalk) := ⟨rfl, rfl, rfl, by decide +kernel, rfl, by decide +kernel, by decide +kernel⟩
theorem tup_ty {K : PySem.W.Frag} {H : Hp} {a : Addr} {xs : List V} (h : SqT K H a xs) : TyX K H (.ref a) (.type "tuple") := by
  rcases h with (h | ⟨o, h⟩) | ⟨o, its, n, h, c, _⟩
  · exact .base (.tup h)
  · exact .fTuple h
  · exact .kTuple h c
theorem bits (xs : List V) (f : V → Bool) : (List.range xs.length).map (fun i => V.bl (f (xs.getD i .non))) = (xs.map f).map V.bl := by
  apply List.ext_getElem
  · simp
  · intro k h1 h2
    have hk : k < xs.length := by simpa using h1
    simp [List.getD, hk]
theorem ok_iswalk {f g : Addr} {fd gd : FuncData} (F : Fun K "is_walk" "is_walk" sIsWalk f fd) (T : Bltn mg) (G : FnOk P w K mg base CX0 1 g gd ["value", "names"] (spAmong K)) (mG : mg "is_among" = some (.ref g)) (kG : PySem.W.keepIn K (.ref g) = true) (bG : Binds K gd ["value", "names"] []) :
    FnOk P w K mg base CX0 2 f fd ["value", "calls", "fewest", "most"] (spIsWalk K) := by
  refine F.ok scIsWalk (fun vs H Q E h => ?_) (fun cdv A outer s H vs Q E hr h => ?_)
  · obtain ⟨v, c, lo, hi, C, rfl, _⟩ := h
    rfl
  obtain ⟨v, c, lo, hi, C, rfl, hc, h⟩ := h
  refine ⟨_, pss_cons (ps_if (PW.pt (pw_or (pt_not (pt_val (pe_callB call_isi rfl T.isinstance (by decide +kernel) (pa_cons (pv 0) (pa_cons (pe_bltn (v := .ty "tuple") (u := .type "tuple") rfl T.tuple (by decide +kernel) rfl) pa_nil))))) (pw_or1 (pt_not (pt_chain op_le op_le (pv 2) (pe_callB call_len_seq rfl T.len PySem.boot_len (pa_cons (pv 0) pa_nil)) (pv 3))))))
      (pss_one (ps_ret pe_bl)) pss_nil)
    (pss_one (ps_ret (pe_callB (cr_all rfl) rfl T.all (by decide +kernel) (pa_cons (pe_lc (own := [("call", 4)]) (g := gName 4) (tt := tYes) rfl scIsWalk.nd (pi_tup (pv 0)) (blkOk_by (own := [("call", 4)]) (N := nIw) (sc := defScope sIsWalk) (by decide +kernel))
      (fun _ _ _ _ _ => pg_name (i := 4) scIsWalk.nd rfl (Or.inl rfl)) (fun _ _ _ _ _ => pts_nil)
      (fun _ _ _ _ _ => pe_call G hr rfl mG kG bG .nil pass0 (pa_cons (pv 4) (pa_cons (pv 1) pa_nil)))) pa_nil)))), ?_⟩
  rcases h with ⟨t, xs, rfl, ht, hl, so, q⟩ | ⟨ty, hty, kk, q⟩
  · refine ⟨_, rfl, .ref t, .ty "tuple", .type "tuple", .type "tuple", true, rfl, .ty _, tup_ty ht, if_pos (beq_self_eq_true _), _, rfl, iteF ?_⟩
    refine ⟨_, rfl, _, rfl, t, _, rfl, .inr ht, _, _, rfl, rfl, _, rfl, ?_⟩
    have q0 := q H (Same.refl H)
    refine ite2 (fun c1 => ?_) (fun c1 => ?_)
    · refine ⟨_, rfl, _, _, rfl, rfl, _, rfl, ?_⟩
      by_cases c2 : (xs.length : Int) ≤ hi
      · rw [decide_eq_true c2]
        refine iteF ⟨_, rfl, t, rfl, ⟨_, ht⟩, fun D nD => ?_⟩
        refine lc_all walk_tup nD (fun i => V.bl (amongB (xs.getD i .non) C)) (by rw [sizeLine_eq]; omega) (fun G sG => same_tup sG ht) ?_ ?_
        · rintro i x G4 G5 Kt hi4 sG ⟨rfl, hx⟩ hK
          refine ⟨rfl, _, rfl, _, rfl, x, c, C, rfl, so x (List.mem_of_getElem? hx) _ sG, .inr (same_tup sG hc), ?_⟩
          have := hK _ (Same.refl _)
          rw [List.getD_eq_getElem?_getD, hx] at this
          exact this
        · intro G sG hD
          rw [bits xs fun x => amongB x C] at hD
          refine ⟨D, _, rfl, SqL.of hD, ?_⟩
          have := q G sG
          rw [show decide (lo ≤ (xs.length : Int)) = true from c1, decide_eq_true c2, Bool.true_and, Bool.true_and] at this
          have e : (xs.map fun x => amongB x C).all id = xs.all fun x => amongB x C := by
            rw [List.all_map]
            rfl
          rw [e]
          exact this
      · rw [decide_eq_false c2]
        rw [decide_eq_false c2, Bool.and_false, Bool.false_and] at q0
        exact iteT q0
    · have c1' : decide (lo ≤ (xs.length : Int)) = false := by simpa using c1
      rw [c1', Bool.false_and, Bool.false_and] at q0
      exact ⟨_, rfl, iteT q0⟩
  · exact ⟨_, rfl, v, .ty "tuple", ty, .type "tuple", false, rfl, .ty _, hty, kk, _, rfl, iteT q⟩
end
end K03
set_option Elab.async false
set_option linter.all false
set_option maxRecDepth 100000
set_option maxHeartbeats 8000000
namespace LG
open PySem L2
/-- what is heard from the state on, and the state behind -/
def runD (D : Dev) : Str → List Str → List Str × Str
  | s, [] => ([], s)
  | s, w :: r => ((rowX D (s, w)).1 :: (runD D (rowX D (s, w)).2 r).1, (runD D (rowX D (s, w)).2 r).2)
theorem runD_snoc (D : Dev) : ∀ (ws : List Str) (s w : Str), runD D s (ws ++ [w]) = ((runD D s ws).1 ++ [(rowX D ((runD D s ws).2, w)).1], (rowX D ((runD D s ws).2, w)).2)
  | [], s, w => rfl
  | x :: r, s, w => by
    have ih := runD_snoc D r (rowX D (s, x)).2 w
    show ((rowX D (s, x)).1 :: (runD D (rowX D (s, x)).2 (r ++ [w])).1, (runD D (rowX D (s, x)).2 (r ++ [w])).2) = _
    rw [ih]
    rfl
/-- each state has a row for each call -/
structure Full (D : Dev) : Prop where
  st : D.states ≠ []
  row : ∀ s ∈ D.states, ∀ c ∈ D.calls, D.goals.lookup (s, c) = some (rowX D (s, c)) ∧ (rowX D (s, c)).2 ∈ D.states
theorem Full.run {D : Dev} (F : Full D) : ∀ {ws : List Str} {s : Str}, s ∈ D.states → (∀ w ∈ ws, w ∈ D.calls) → (runD D s ws).2 ∈ D.states
  | [], _, hs, _ => hs
  | w :: r, s, hs, h => F.run (ws := r) (F.row s hs w (h w List.mem_cons_self)).2 fun x hx => h x (List.mem_cons_of_mem _ hx)
/-- any value: a walk of these calls or none -/
def WalkIs (K : PySem.W.Frag) (H : Hp) (C : List Str) (v : V) (b : Bool) (ws : List Str) : Prop :=
  (∃ (t : Addr) (xs : List V), v = .ref t ∧ SqT K H t xs ∧ xs.length ≤ 1000 ∧ (∀ x ∈ xs, ∀ G, Same H G → StrOr K G x) ∧ b = (decide ((xs.length : Int) ≤ 24) && xs.all fun x => amongB x C) ∧ (b = true → xs = ws.map V.str)) ∨
  ∃ ty, TyX K H v ty ∧ PySem.W.kitOne K ty (.type "tuple") = some false ∧ b = false
theorem among_str {v : V} {C : List Str} (h : amongB v C = true) : ∃ x, v = .str x ∧ x ∈ C := by
  cases v with
  | str x => exact ⟨x, rfl, List.contains_iff_mem.mp h⟩
  | _ => cases h
theorem all_strs {C : List Str} : ∀ {xs : List V}, (xs.all fun x => amongB x C) = true → ∃ ws : List Str, xs = ws.map V.str ∧ ∀ w ∈ ws, w ∈ C
  | [], _ => ⟨[], rfl, fun _ h => nomatch h⟩
  | x :: r, h => by
    rw [List.all_cons, Bool.and_eq_true] at h
    obtain ⟨w, rfl, hw⟩ := among_str h.1
    obtain ⟨ws, rfl, hws⟩ := all_strs h.2
    refine ⟨w :: ws, rfl, fun y hy => ?_⟩
    rcases List.mem_cons.mp hy with rfl | hy
    · exact hw
    · exact hws y hy
end LG
namespace K03
open PySem L2 LG
section
variable {P : Program} {w : World} {K : PySem.W.Frag} {mg : Str → Option Value} {base : Heap} {fI C : Addr}
def spGone (K : PySem.W.Frag) (C CW : Addr) : Sp := fun vs H Q E => ∃ (x : Addr) (v : V) (X : Str) (D : Dev) (b : Bool) (ws : List Str), vs = [.ref x, v] ∧ DevAt K H x C X D ∧ Full D ∧ WalkIs K H D.calls v b ws ∧
  (b = false → ∀ d G, Same H G → G d = none → E (.ref CW) (some d) (upd G d (.xd (vf v)))) ∧
  (b = true → ∀ r a G, Same H G → G r = some (.tup [.ref a, .str (runD D (D.states.headD Str.empty) ws).2]) → G a = some (.tup ((runD D (D.states.headD Str.empty) ws).1.map V.str)) → Q (.ref r) G)
abbrev nGo : List Str := ["self", "walk", "state", "answers", "call", "answer"]
theorem scGone : FnScope nGo ["self", "walk"] (defScope sDGone) := ⟨rfl, rfl, rfl, by decide +kernel, rfl, by decide +kernel, by decide +kernel⟩
theorem ok_gone {f g CW : Addr} {fd gd : FuncData} {tM : Tok} (F : Fun K "_gone" "Device._gone" sDGone f fd) (T : Bltn mg) (DC : DevCl K mg C) (I : Ini P w K mg base fI) (cW : ECl K mg fI "BadWalk" CW) (mM : mg "MOST_STEPS" = some (.int 24 tM))
    (G : FnOk P w K mg base CX0 2 g gd ["value", "calls", "fewest", "most"] (spIsWalk K)) (mG : mg "is_walk" = some (.ref g)) (kG : PySem.W.keepIn K (.ref g) = true) (bG : Binds K gd ["value", "calls", "fewest", "most"] []) :
    FnOk P w K mg base (L2.CX P w) 3 f fd ["self", "walk"] (spGone K C CW) := by
  refine F.okX scGone (fun vs H Q E h => ?_) (fun cdv A0 outer st H vs Q E hr h => ?_)
  · obtain ⟨x, v, X, D, b, ws, rfl, _⟩ := h
    rfl
  obtain ⟨x, v, X, D, b, ws, rfl, hD, FD, hW, qn, qy⟩ := h
  have hu := hu_of hr
  have tk := takes_of (X := cxOf (L2.CX P w) P w K mg base nGo "Device._gone" (defScope sDGone) f cdv A0 outer st H E) rfl rfl rfl rfl
  refine ⟨_, pss_cons (ps_if (pt_not (pt_val (pe_call G hr rfl mG kG bG .nil pass0 (pa_cons (pv 1) (pa_cons (pe_fld (pv 0) rfl) (pa_cons pe_int (pa_cons (pe_glob (v := .int 24) rfl mM ⟨_, rfl⟩) pa_nil))))))) (pss_one (ps_err rfl I cW hr tk (pv 1) rfl)) pss_nil)
    (pss_cons (ps_set (i := 2) scGone.nd rfl (Or.inl rfl) (pe_ix ix_tup (pe_fld (pv 0) rfl) pe_int (fun _ _ => rfl)))
    (pss_cons (ps_set (i := 3) scGone.nd rfl (Or.inl rfl) (pe_lst pa_nil))
    (pss_cons (ps_for (passes_of rfl) rfl (pi_tup (pv 1)) (pg_name (i := 4) scGone.nd rfl (Or.inl rfl))
      (pss_cons (ps_asg (pe_dget hu (pe_fld (pv 0) rfl) (pe_tup (pa_cons (pv 2) (pa_cons (pv 4) pa_nil))) (fun _ _ => rfl)) (pg_tup rfl (pgs_cons (pg_name (i := 5) scGone.nd rfl (Or.inl rfl)) (pgs_cons (pg_name (i := 2) scGone.nd rfl (Or.inl rfl)) pgs_nil))))
      (pss_one (ps_expr (pe_bm PySem.F.plainAttrs_list PySem.F.slot_list_append PySem.F.type_list_append mt_append (pv 3) (pa_cons (pv 5) pa_nil))))))
    (pss_one (ps_ret (pe_tup (pa_cons (pe_callTy call_tuple_of rfl T.tuple (by decide +kernel) (pa_cons (pv 3) pa_nil)) (pa_cons (pv 2) pa_nil)))))))), ?_⟩
  obtain ⟨dx, c0, a0, s0, g0, hx, hc, ha, hs, hg⟩ := id hD
  obtain ⟨s1, sr, es⟩ : ∃ y l, D.states = y :: l := List.exists_cons_of_ne_nil FD.st
  rcases hW with ⟨t, xs, rfl, ht, hl, so, eb, ex⟩ | ⟨ty, hty, kk, eb⟩
  · refine ⟨_, rfl, _, rfl, x, C, dx, _, _, rfl, hx, DC.cl, DC.nc, rfl, .ref t, c0, 0, 24, D.calls, rfl, hc, .inl ⟨t, xs, rfl, ht, hl, so, fun G sG => ?_⟩⟩
    rw [decide_eq_true (by omega : (0 : Int) ≤ (xs.length : Int)), Bool.true_and, ← eb]
    cases b with
    | false => exact ⟨_, rfl, iteT ⟨_, rfl, fun d nd => qn rfl d G sG nd⟩⟩
    | true =>
      have eb := eb.symm
      rw [Bool.and_eq_true] at eb
      have l24 : xs.length ≤ 24 := by
        have := of_decide_eq_true eb.1
        omega
      have ex := ex rfl
      subst ex
      have hws : ∀ y ∈ ws, y ∈ D.calls := fun y hy => List.contains_iff_mem.mp (List.all_eq_true.mp eb.2 (V.str y) (List.mem_map.mpr ⟨y, hy, rfl⟩))
      rw [List.length_map] at l24
      have q := qy rfl
      have hd0 : D.states.headD Str.empty = s1 := by rw [es]; rfl
      rw [hd0] at q
      have hs1 : s1 ∈ D.states := by rw [es]; exact List.mem_cons_self
      clear qn qy eb so
      refine ⟨_, rfl, iteF ?_⟩
      have hs' := same_tup sG hs
      rw [es] at hs'
      refine ⟨_, rfl, x, C, dx, _, _, rfl, sG _ _ hx, DC.cl, DC.ns, rfl, s0, _, _, _, rfl, rfl, hs', atI_nat (j := 0) rfl, (by show 0 ≤ sizeLine; decide), fun al nal => ?_⟩
      have u1 := same_new nal (.lst [])
      have hal : (upd G al (.lst [])) al = some (.lst []) := upd_same
      have nalH : H al = none := sG.free nal
      have sG1 := sG.trans u1
      show _
      generalize upd G al (.lst []) = G1 at hal sG1 ⊢
      refine ⟨_, rfl, t, rfl, ⟨_, same_tup sG1 ht⟩, ?_⟩
      refine for_it walk_tup (fun i σ G4 => ∃ x4 x5, σ = [some (.ref x), some (.ref t), some (.str (runD D s1 (ws.take i)).2), some (.ref al), x4, x5] ∧ Same H G4 ∧ G4 al = some (.lst ((runD D s1 (ws.take i)).1.map V.str)) ∧ (runD D s1 (ws.take i)).1.length = i)
        ⟨_, _, rfl, sG1, hal, rfl⟩ (fun i σ G4 _ ⟨_, _, _, s4, _⟩ => same_tup s4 ht) ?_ ?_
      · rintro i y σ G4 G5 hi ⟨x4, x5, rfl, s4, h4, l4⟩ ⟨rfl, hy⟩
        rw [List.length_map] at hi
        rw [List.getElem?_map, List.getElem?_eq_getElem hi] at hy
        have ey : y = .str ws[i] := (Option.some.inj hy).symm
        subst ey
        have inS := FD.run (ws := ws.take i) hs1 fun w hw => hws w (List.mem_of_mem_take hw)
        obtain ⟨lk, _⟩ := FD.row _ inS ws[i] (hws _ (List.getElem_mem hi))
        have et : ws.take (i + 1) = ws.take i ++ [ws[i]] := by rw [List.take_add_one, List.getElem?_eq_getElem hi]; rfl
        have er := runD_snoc D (ws.take i) s1 ws[i]
        rw [← et] at er
        generalize runD D s1 (ws.take (i + 1)) = R' at er
        subst er
        generalize runD D s1 (ws.take i) = R at h4 l4 lk inS ⊢
        obtain ⟨as, sn⟩ := R
        dsimp only at h4 l4 lk inS ⊢
        have hx4 := s4 _ _ hx
        obtain ⟨kvs, hgr, gr⟩ := hg
        refine ⟨_, rfl, x, C, dx, _, _, rfl, hx4, DC.cl, DC.ng, rfl, _, rfl, _, rfl, (by show 2 ≤ sizeLine; decide), fun tk ntk => ?_⟩
        have u5 := same_new ntk (.tup [.str sn, .str ws[i]])
        have htk : (upd G5 tk (.tup [.str sn, .str ws[i]])) tk = some (.tup ((kT (sn, ws[i])).map kV)) := upd_same
        show _
        generalize upd G5 tk (.tup [.str sn, .str ws[i]]) = G6 at u5 htk ⊢
        rcases gr.val (sn, ws[i]) with ⟨l1, _⟩ | ⟨r2, t2, l1, l2, l3⟩
        · rw [l1] at lk
          cases lk
        · rw [l1] at lk
          have er2 : r2 = rowX D (sn, ws[i]) := Option.some.inj lk
          subst er2
          have g1 : DGet _ g0 (.ref tk) (valV kvs (kT (sn, ws[i]))) := .inr ⟨kvs, kT (sn, ws[i]), tk, rd_same (s4.trans u5) hgr, rfl, htk, rfl⟩
          rw [l2] at g1
          refine ⟨g0, _, rfl, g1, t2, _, rfl, same_tup (s4.trans u5) l3, rfl, _, _, rfl, _, _, rfl, rfl, ?_⟩
          have h6 := u5 _ _ h4
          refine ⟨_, rfl, .inl ⟨rfl, _, SqL.of h6⟩, _, rfl, al, _, _, rfl, rfl, h6, by rw [List.length_map, sizeLine_eq]; omega, ?_⟩
          refine ⟨_, _, rfl, fun bq o hq => ?_, ?_, ?_⟩
          · rw [upd_ne (ne_of_none hq nalH)]
            exact (s4.trans u5) _ _ hq
          · rw [upd_same, List.map_append]
            rfl
          · rw [List.length_append, l4]
            rfl
      · rintro σ G4 ⟨x4, x5, rfl, s4, h4, l4⟩
        rw [List.length_map, List.take_length] at h4 ⊢
        refine ⟨_, rfl, al, _, rfl, .inl ⟨SqL.of h4, fun p np => ?_⟩⟩
        have u5 := same_new np (.tup ((runD D s1 ws).1.map V.str))
        have hp : (upd G4 p (.tup ((runD D s1 ws).1.map V.str))) p = some (.tup ((runD D s1 ws).1.map V.str)) := upd_same
        show _
        generalize upd G4 p (.tup ((runD D s1 ws).1.map V.str)) = G6 at u5 hp ⊢
        refine ⟨_, rfl, (by show 2 ≤ sizeLine; decide), fun r nr => ?_⟩
        have u6 := same_new nr (.tup [.ref p, .str (runD D s1 ws).2])
        exact q r p _ ((s4.trans u5).trans u6) upd_same (u6 _ _ hp)
  · subst eb
    refine ⟨_, rfl, _, rfl, x, C, dx, _, _, rfl, hx, DC.cl, DC.nc, rfl, v, c0, 0, 24, D.calls, rfl, hc, .inr ⟨ty, hty, kk, _, rfl, iteT ⟨_, rfl, fun d nd => qn rfl d H (Same.refl H) nd⟩⟩⟩
end
end K03
set_option Elab.async false
set_option linter.all false
set_option maxRecDepth 100000
set_option maxHeartbeats 4000000
namespace K03
open PySem L2 LG
section
variable {P : Program} {w : World} {K : PySem.W.Frag} {mg : Str → Option Value} {base : Heap} {fI C : Addr}
def spHeard (K : PySem.W.Frag) (C CW : Addr) : Sp := fun vs H Q E => ∃ (x : Addr) (v : V) (X : Str) (D : Dev) (b : Bool) (ws : List Str), vs = [.ref x, v] ∧ DevAt K H x C X D ∧ Full D ∧ WalkIs K H D.calls v b ws ∧
  (b = false → ∀ d G, Same H G → G d = none → E (.ref CW) (some d) (upd G d (.xd (vf v)))) ∧
  (b = true → ∀ a G, Same H G → G a = some (.tup ((runD D (D.states.headD Str.empty) ws).1.map V.str)) → Q (.ref a) G)
def spBehind (K : PySem.W.Frag) (C CW : Addr) : Sp := fun vs H Q E => ∃ (x : Addr) (v : V) (X : Str) (D : Dev) (b : Bool) (ws : List Str), vs = [.ref x, v] ∧ DevAt K H x C X D ∧ Full D ∧ WalkIs K H D.calls v b ws ∧
  (b = false → ∀ d G, Same H G → G d = none → E (.ref CW) (some d) (upd G d (.xd (vf v)))) ∧
  (b = true → ∀ G, Same H G → Q (.str (runD D (D.states.headD Str.empty) ws).2) G)
theorem scHeard : FnScope ["self", "walk"] ["self", "walk"] (defScope sDHeard) := ⟨rfl, rfl, rfl, by decide +kernel, rfl, by decide +kernel, by decide +kernel⟩
theorem scBehind : FnScope ["self", "walk"] ["self", "walk"] (defScope sDBehind) := ⟨rfl, rfl, rfl, by decide +kernel, rfl, by decide +kernel, by decide +kernel⟩
theorem ok_heard {f g CW : Addr} {fd gd : FuncData} (F : Fun K "heard" "Device.heard" sDHeard f fd) (DC : DevCl K mg C) (G : FnOk P w K mg base (L2.CX P w) 3 g gd ["self", "walk"] (spGone K C CW)) (mG : Meth K C "_gone" g) (bG : Binds K gd ["self", "walk"] []) :
    FnOk P w K mg base (L2.CX P w) 4 f fd ["self", "walk"] (spHeard K C CW) := by
  refine F.okX scHeard (fun vs H Q E h => ?_) (fun cdv A0 outer st H vs Q E hr h => ?_)
  · obtain ⟨x, v, X, D, b, ws, rfl, _⟩ := h
    rfl
  obtain ⟨x, v, X, D, b, ws, rfl, hD, FD, hW, qn, qy⟩ := h
  have tk := takes_of (X := cxOf (L2.CX P w) P w K mg base ["self", "walk"] "Device.heard" (defScope sDHeard) f cdv A0 outer st H E) rfl rfl rfl rfl
  refine ⟨_, pss_one (ps_ret (pe_ix ix_tup (pe_meth (pv 0) DC.cl mG G hr bG .nil (passes_call tk (fun _ _ _ _ h => h)) (pa_cons (pv 1) pa_nil)) pe_int (fun _ _ => rfl))), ?_⟩
  obtain ⟨dx, c0, a0, s0, g0, hx, _⟩ := id hD
  refine ⟨_, rfl, x, dx, _, rfl, hx, rfl, _, rfl, x, v, X, D, b, ws, rfl, hD, FD, hW, qn, fun e1 r a G sG hr' ha => ?_⟩
  exact ⟨r, _, 0, _, rfl, rfl, .inl (.inl hr'), rfl, qy e1 a G sG ha⟩
theorem ok_behind {f g CW : Addr} {fd gd : FuncData} (F : Fun K "behind" "Device.behind" sDBehind f fd) (DC : DevCl K mg C) (G : FnOk P w K mg base (L2.CX P w) 3 g gd ["self", "walk"] (spGone K C CW)) (mG : Meth K C "_gone" g) (bG : Binds K gd ["self", "walk"] []) :
    FnOk P w K mg base (L2.CX P w) 4 f fd ["self", "walk"] (spBehind K C CW) := by
  refine F.okX scBehind (fun vs H Q E h => ?_) (fun cdv A0 outer st H vs Q E hr h => ?_)
  · obtain ⟨x, v, X, D, b, ws, rfl, _⟩ := h
    rfl
  obtain ⟨x, v, X, D, b, ws, rfl, hD, FD, hW, qn, qy⟩ := h
  have tk := takes_of (X := cxOf (L2.CX P w) P w K mg base ["self", "walk"] "Device.behind" (defScope sDBehind) f cdv A0 outer st H E) rfl rfl rfl rfl
  refine ⟨_, pss_one (ps_ret (pe_ix ix_tup (pe_meth (pv 0) DC.cl mG G hr bG .nil (passes_call tk (fun _ _ _ _ h => h)) (pa_cons (pv 1) pa_nil)) pe_int (fun _ _ => rfl))), ?_⟩
  obtain ⟨dx, c0, a0, s0, g0, hx, _⟩ := id hD
  refine ⟨_, rfl, x, dx, _, rfl, hx, rfl, _, rfl, x, v, X, D, b, ws, rfl, hD, FD, hW, qn, fun e1 r a G sG hr' ha => ?_⟩
  exact ⟨r, _, 1, _, rfl, rfl, .inl (.inl hr'), rfl, qy e1 G sG⟩
end
end K03
set_option Elab.async false
set_option linter.all false
set_option maxRecDepth 100000
set_option maxHeartbeats 8000000
namespace LG
open PySem L2
theorem made {H1 H' : Hp} {x dx C : Addr} (nx : H1 x = none) (nd : H1 dx = none) (e : But x (upd (upd H1 dx (.own x)) x (.ins C dx [])) H') : Same H1 H' := fun b u q =>
  e b u (by rw [upd_ne (ne_of_none q nx), upd_ne (ne_of_none q nd)]; exact q) (ne_of_none q nx)
theorem Drawn.split_lines {D : Dev} (d : Drawn D) {ks : List (Str × Str)} (h : ∀ k ∈ ks, k ∈ D.goals.map (·.1)) : Txt.split (textOf D ks) nl1 = linesOf D ks := lines_join (by unfold linesOf headsOf; simp) (d.no10 h)
theorem Drawn.text_len {D : Dev} (d : Drawn D) {ks : List (Str × Str)} (h : ∀ k ∈ ks, k ∈ D.goals.map (·.1)) (hk : ks.length ≤ 12) : (textOf D ks).length ≤ 3000 := by
  have h1 := join_le1 nl1_1 (d.lines_len h)
  have ln : (linesOf D ks).length = 3 + ks.length := by
    unfold linesOf
    rw [List.length_append, List.length_map]
    rfl
  rw [ln] at h1
  have h2 := Nat.mul_le_mul_right (45 + 1) (show 3 + ks.length ≤ 15 by omega)
  exact Nat.le_trans h1 (by omega)
theorem Drawn.full {D : Dev} (d : Drawn D) {ks : List (Str × Str)} (pm : ks.Perm (D.goals.map (·.1))) : Full (readOf D ks) := by
  refine ⟨fun e => ?_, fun s hs c hc => ?_⟩
  · have e : D.states = [] := e
    have := d.s1.1
    rw [e] at this
    simp at this
  · have km : (s, c) ∈ D.goals.map (·.1) := by
      rw [d.keys]
      exact prod_mem.mpr ⟨hs, hc⟩
    have l := readOf_look d pm km
    have ex : rowX (readOf D ks) (s, c) = rowX D (s, c) := by
      unfold rowX
      rw [l]
      rfl
    rw [ex]
    exact ⟨l, (d.row km).2.2.2.2⟩
/-! ### begun -/
def othS (S : List Str) (s : Str) : List Str := S.filter fun y => !decide (y = s)
def begD (D : Dev) (s : Str) : Dev := ⟨D.calls, D.answers, s :: othS D.states s, (prodK (s :: othS D.states s) D.calls).map fun k => (k, rowX D k)⟩
theorem oth_perm {S : List Str} {s : Str} (nd : S.Nodup) (h : s ∈ S) : (s :: othS S s).Perm S := by
  induction S with
  | nil => cases h
  | cons x r ih =>
    obtain ⟨n1, n2⟩ := List.nodup_cons.mp nd
    unfold othS
    by_cases e : x = s
    · subst e
      rw [List.filter_cons_of_neg (by simp)]
      have : r.filter (fun y => !decide (y = x)) = r := List.filter_eq_self.mpr fun y hy => by
        have : ¬ y = x := fun z => n1 (z ▸ hy)
        simp [this]
      rw [this]
    · rw [List.filter_cons_of_pos (by simp [e])]
      rcases List.mem_cons.mp h with z | z
      · exact absurd z.symm e
      · exact (List.Perm.swap x s _).trans ((ih n2 z).cons x)
theorem prod_perm {S S' C : List Str} (h : S'.Perm S) : (prodK S' C).Perm (prodK S C) := h.flatMap_right _
theorem look_map {ks : List (Str × Str)} {f : Str × Str → Str × Str} {k : Str × Str} (h : k ∈ ks) : (ks.map fun k => (k, f k)).lookup k = some (f k) := by
  induction ks with
  | nil => cases h
  | cons x r ih =>
    by_cases e : k = x
    · subst e
      simp [List.lookup]
    · have nb : (k == x) = false := by simpa using e
      rw [List.map_cons]
      have l : List.lookup k ((x, f x) :: r.map fun k => (k, f k)) = List.lookup k (r.map fun k => (k, f k)) := by simp [List.lookup, nb]
      rw [l]
      rcases List.mem_cons.mp h with z | z
      · exact absurd z e
      · exact ih z
theorem map_keys (ks : List (Str × Str)) (f : Str × Str → Str × Str) : (ks.map fun k => (k, f k)).map (·.1) = ks := by
  rw [List.map_map]
  exact List.map_id ks
theorem Drawn.begun {D : Dev} (d : Drawn D) {s : Str} (hs : s ∈ D.states) : Drawn (begD D s) := by
  have pS := oth_perm d.sn hs
  have pK := prod_perm (C := D.calls) pS
  refine ⟨d.cn, d.an, pS.nodup_iff.mpr d.sn, d.c1, d.a1, ?_, d.cw, d.aw, fun x hx => d.sw x (pS.mem_iff.mp hx), map_keys _ _, fun e he => ?_⟩
  · have := pS.length_eq
    have := d.s1
    show 1 ≤ (s :: othS D.states s).length ∧ (s :: othS D.states s).length ≤ 4
    omega
  · obtain ⟨k, hk, rfl⟩ := List.mem_map.mp he
    have km : k ∈ D.goals.map (·.1) := by
      rw [d.keys]
      exact pK.mem_iff.mp hk
    obtain ⟨_, _, _, h3, h4⟩ := d.row km
    exact ⟨h3, pS.mem_iff.mpr h4⟩
theorem Drawn.begun_perm {D : Dev} (d : Drawn D) {s : Str} (hs : s ∈ D.states) {ks : List (Str × Str)} (pm : ks.Perm (D.goals.map (·.1))) : ks.Perm ((begD D s).goals.map (·.1)) := by
  have e : (begD D s).goals.map (·.1) = prodK (s :: othS D.states s) D.calls := map_keys _ _
  rw [e]
  rw [d.keys] at pm
  exact pm.trans (prod_perm (oth_perm d.sn hs)).symm
theorem Drawn.begun_row {D : Dev} (d : Drawn D) {s : Str} (hs : s ∈ D.states) {k : Str × Str} (h : k ∈ D.goals.map (·.1)) : rowX (begD D s) k = rowX D k := by
  have hk : k ∈ prodK (s :: othS D.states s) D.calls := by
    rw [d.keys] at h
    exact (prod_perm (oth_perm d.sn hs)).mem_iff.mpr h
  show ((begD D s).goals.lookup k).getD _ = _
  have e : (begD D s).goals.lookup k = some (rowX D k) := look_map hk
  rw [e]
  rfl
theorem Drawn.begun_lines {D : Dev} (d : Drawn D) {s : Str} (hs : s ∈ D.states) {ks : List (Str × Str)} (mem : ∀ k ∈ ks, k ∈ D.goals.map (·.1)) : linesOf (begD D s) ks = (linesOf D ks).set 2 (Txt.join sp1 ("states" :: s :: othS D.states s)) := by
  have e3 : ("states " : Str) = ("states" : Str) ++ sp1 := by decide +kernel
  have er : ks.map (rowOf (begD D s)) = ks.map (rowOf D) := List.map_congr_left fun k hk => by
    unfold rowOf
    rw [d.begun_row hs (mem k hk)]
  unfold linesOf
  rw [er]
  unfold headsOf
  show _ :: _ :: (("states " : Str) ++ Txt.join sp1 (s :: othS D.states s)) :: ks.map (rowOf D) = _ :: _ :: _ :: _
  rw [e3, head_line (by simp)]
  rfl
end LG
set_option Elab.async false
set_option linter.all false
set_option maxRecDepth 100000
set_option maxHeartbeats 8000000
namespace LG
open PySem L2
theorem ixN_nat {n k : Nat} (h : k < n) : L2.ixN n ((k : Nat) : Int) = some k := by
  unfold L2.ixN
  rw [if_pos (by omega), if_pos (by omega), Int.toNat_natCast]
end LG
namespace K03
open PySem L2 LG
section
variable {P : Program} {w : World} {K : PySem.W.Frag} {mg : Str → Option Value} {base : Heap} {fI C : Addr}
def spBegun (K : PySem.W.Frag) (C CS : Addr) : Sp := fun vs H Q E => ∃ (x : Addr) (v : V) (D : Dev) (ks : List (Str × Str)), vs = [.ref x, v] ∧ DevAt K H x C (textOf D ks) (readOf D ks) ∧ LG.Drawn D ∧ ks.Perm (D.goals.map (·.1)) ∧ StrOr K H v ∧
  (amongB v D.states = false → ∀ d, H d = none → E (.ref CS) (some d) (upd H d (.xd (vf v)))) ∧
  (∀ s, v = .str s → s ∈ D.states → ∀ y G, Same H G → DevAt K G y C (textOf (begD D s) ks) (readOf (begD D s) ks) → Q (.ref y) G)
abbrev nBg : List Str := ["self", "state", "lines", "others", "name"]
theorem scBegun : FnScope nBg ["self", "state"] (defScope sDBegun) := ⟨rfl, rfl, rfl, by decide +kernel, rfl, by decide +kernel, by decide +kernel⟩
theorem ok_begun {f g h2 CS CB : Addr} {fd gd hd : FuncData} (F : Fun K "begun" "Device.begun" sDBegun f fd) (T : Bltn mg) (DC : DevCl K mg C) (I : Ini P w K mg base fI) (cS : ECl K mg fI "NoState" CS)
    (Hs : FnOk P w K mg base CX0 2 h2 hd ["self", "value"] (spHas K C)) (fH : PySem.W.findIn K (.ref C) "__contains__" = some (some (.ref h2))) (nH : PySem.W.isFn K (.ref h2) = true) (bH : Binds K hd ["self", "value"] [])
    (GI : FnOk P w K mg base (L2.CX P w) 4 g gd ["self", "text"] (spDInit K C CB)) (MI : Mk K C g) (bI : Binds K gd ["self", "text"] []) :
    FnOk P w K mg base (L2.CX P w) 6 f fd ["self", "state"] (spBegun K C CS) := by
  refine F.okX scBegun (fun vs H Q E h => ?_) (fun cdv A0 outer st H vs Q E hr h => ?_)
  · obtain ⟨x, v, D, ks, rfl, _⟩ := h
    rfl
  obtain ⟨x, v, D, ks, rfl, hD, dr, pm, so, qn, qy⟩ := h
  have r2 : Room 2 _ := hr.mono (by decide)
  have tk := takes_of (X := cxOf (L2.CX P w) P w K mg base nBg "Device.begun" (defScope sDBegun) f cdv A0 outer st H E) rfl rfl rfl rfl
  refine' ⟨_, pss_cons (ps_if (pt_cmpR (op_ownNotIn fH nH Hs bH r2) (pv 1) (pv 0) (by rfl)) (pss_one (ps_err rfl I cS r2 tk (pv 1) rfl)) pss_nil)
    (pss_cons (ps_set (i := 2) scBegun.nd rfl (Or.inl rfl) (pe_split (pe_fld (pv 0) rfl) pe_str))
    (pss_cons (ps_setLc (i := 3) (own := [("name", 4)]) (g := gName 4) rfl scBegun.nd rfl rfl (sw_true rfl rfl rfl (by decide +kernel)) (pi_tup (pe_fld (pv 0) rfl)) (blkOk_by (own := [("name", 4)]) (N := nBg) (sc := defScope sDBegun) (by decide +kernel))
      (fun _ _ _ _ _ => pg_name (i := 4) scBegun.nd rfl (Or.inl rfl)) (fun _ _ _ _ _ => pts_one (pt_cmpR op_ne (pv 4) (pv 1) (nomark _))) (fun _ _ _ _ _ => pv 4))
    (pss_cons (ps_asg (pe_join pe_str (pe_op op_cat (pe_lst (pa_cons pe_str (pa_cons (pv 1) pa_nil))) (pv 3))) (pg_sub (pv 2) pe_int set_list))
    (pss_one (ps_ret (pe_make MI GI (hr.mono (by decide)) rfl DC.mg bI .nil (passes_call tk (fun _ _ _ _ h => h)) (pa_cons (pe_join pe_str (pv 2)) pa_nil))))))), ?main⟩
  case main =>
    obtain ⟨dx, c0, a0, s0, g0, hx, hc, ha, hs, hg⟩ := id hD
    have mem : ∀ k ∈ ks, k ∈ D.goals.map (·.1) := fun k hk => pm.mem_iff.mp hk
    have glen : D.goals.length ≤ 12 := by
      have e := congrArg List.length dr.keys
      rw [List.length_map, prod_len] at e
      have := Nat.mul_le_mul dr.s1.2 dr.c1.2
      omega
    have len12 : ks.length ≤ 12 := by
      have := pm.length_eq
      rw [List.length_map] at this
      omega
    refine ⟨_, rfl, _, rfl, x, dx, _, rfl, hx, x, v, _, _, rfl, hD, so, _, rfl, _, rfl, ?_⟩
    have est : (readOf D ks).states = D.states := rfl
    rw [est]
    cases e1 : amongB v D.states with
    | false => exact iteT ⟨_, rfl, fun d nd => qn e1 d nd⟩
    | true =>
      obtain ⟨s, rfl, hS⟩ := among_str e1
      have q := qy s rfl hS
      clear qn qy so e1
      have tl := dr.text_len mem len12
      have tsp := dr.split_lines mem
      have ln : (LG.linesOf D ks).length = 3 + ks.length := by
        unfold LG.linesOf
        rw [List.length_append, List.length_map]
        rfl
      refine iteF ⟨_, rfl, x, C, dx, _, _, rfl, hx, DC.cl, DC.nt, rfl, ⟨_, rfl⟩, _, nl1, rfl, rfl, rfl, by rw [sizeLine_eq]; omega, fun l nl => ?_⟩
      rw [tsp]
      have u1 := same_new nl (.lst ((LG.linesOf D ks).map V.str))
      have hl : (upd H l (.lst ((LG.linesOf D ks).map V.str))) l = some (.lst ((LG.linesOf D ks).map V.str)) := upd_same
      show _
      generalize upd H l (.lst ((LG.linesOf D ks).map V.str)) = H1 at u1 hl ⊢
      refine ⟨_, rfl, x, C, dx, _, _, rfl, u1 _ _ hx, DC.cl, DC.ns, rfl, s0, rfl, ⟨_, same_tup u1 hs⟩, fun Dd nD => ?_⟩
      refine lc_it walk_tup (D := Dd) (g := gName 4) (tt := tTest (tOp rNe (tVar 4) (tVar 1))) (te := tVar 4) (vs := [4]) (fun i G => Same H1 G ∧ G Dd = some (.lst ((othS (D.states.take i) s).map V.str))) ⟨same_new nD _, upd_same⟩ (fun i G _ h => same_tup (u1.trans h.1) hs) ?_ ?_
      · rintro i y G4 G5 hi ⟨s4, d4⟩ ⟨rfl, hy⟩
        have hi : i < D.states.length := by
          rw [List.length_map] at hi
          exact hi
        rw [est, List.getElem?_map, List.getElem?_eq_getElem hi] at hy
        have ey : y = .str D.states[i] := (Option.some.inj hy).symm
        subst ey
        have et : D.states.take (i + 1) = D.states.take i ++ [D.states[i]] := by rw [List.take_add_one, List.getElem?_eq_getElem hi]; rfl
        refine ⟨rfl, _, rfl, _, rfl, rfl, _, rfl, ?_⟩
        have s1 := dr.s1
        have lo : (othS (D.states.take i) s).length ≤ i := by
          have := List.length_filter_le (fun y => !decide (y = s)) (D.states.take i)
          rw [List.length_take] at this
          unfold othS
          omega
        by_cases e : D.states[i] = s
        · refine iteN (by rw [e]; simp) ⟨s4, ?_⟩
          have eo : othS (D.states.take (i + 1)) s = othS (D.states.take i) s := by
            unfold othS
            rw [et, List.filter_append]
            have : [D.states[i]].filter (fun y => !decide (y = s)) = [] := by rw [e]; simp
            rw [this, List.append_nil]
          rw [eo]
          exact d4
        · refine iteC (by simp [e]) ⟨_, rfl, _, d4, by rw [List.length_map, sizeLine_eq]; omega, fun b o h => ?_, ?_⟩
          · rw [upd_ne (ne_of_none h nD)]
            exact s4 _ _ h
          · have eo : othS (D.states.take (i + 1)) s = othS (D.states.take i) s ++ [D.states[i]] := by
              unfold othS
              rw [et, List.filter_append]
              have : [D.states[i]].filter (fun y => !decide (y = s)) = [D.states[i]] := by simp [e]
              rw [this]
            rw [upd_same, eo, List.map_append]
            rfl
      · rintro G4 ⟨s4, d4⟩
        have el : ((readOf D ks).states.map V.str).length = D.states.length := List.length_map _
        rw [el, List.take_length] at d4
        have hl4 := s4 _ _ hl
        have s1 := dr.s1
        have lo := (oth_perm dr.sn hS).length_eq
        rw [List.length_cons] at lo
        refine ⟨⟨_, rfl⟩, _, rfl, (by show 2 ≤ sizeLine; decide), fun p1 np1 => ?_⟩
        have u2 := same_new np1 (.lst [V.str "states", V.str s])
        have h1 : (upd G4 p1 (.lst [V.str "states", V.str s])) p1 = some (.lst [V.str "states", V.str s]) := upd_same
        show _
        generalize upd G4 p1 (.lst [V.str "states", V.str s]) = G5 at u2 h1 ⊢
        refine ⟨_, rfl, p1, Dd, _, _, rfl, rfl, h1, u2 _ _ d4, by rw [List.length_map, sizeLine_eq]; show 2 + _ ≤ _; omega, fun p2 np2 => ?_⟩
        have ec : [V.str "states", V.str s] ++ (othS D.states s).map V.str = (("states" : Str) :: s :: othS D.states s).map V.str := rfl
        rw [ec]
        have u3 := same_new np2 (.lst ((("states" : Str) :: s :: othS D.states s).map V.str))
        have h2 : (upd G5 p2 (.lst ((("states" : Str) :: s :: othS D.states s).map V.str))) p2 = some (.lst ((("states" : Str) :: s :: othS D.states s).map V.str)) := upd_same
        show _
        generalize upd G5 p2 (.lst ((("states" : Str) :: s :: othS D.states s).map V.str)) = G6 at u3 h2 ⊢
        have w8 : ∀ t ∈ (("states" : Str) :: s :: othS D.states s), t.length ≤ 8 := by
          intro t ht
          rcases List.mem_cons.mp ht with rfl | ht
          · decide +kernel
          · exact name_len (dr.sw t ((oth_perm dr.sn hS).mem_iff.mp ht))
        have sm := sum_le w8
        have wl : (("states" : Str) :: s :: othS D.states s).length ≤ 5 := by
          rw [List.length_cons, List.length_cons]
          omega
        have hl6 := (u2.trans u3) _ _ hl4
        refine ⟨sp1, p2, _, rfl, rfl, .inl (SqL.of h2), by rw [sp1_1]; omega, _, rfl, l, _, _, 2, rfl, rfl, hl6, by rw [List.length_map]; exact ixN_nat (k := 2) (by omega), ?_⟩
        rw [← List.map_set, ← dr.begun_lines hS mem]
        have nlH : H l = none := nl
        have s6 : Same H (upd G6 l (.lst ((LG.linesOf (begD D s) ks).map V.str))) := fun b o h => by
          rw [upd_ne (ne_of_none h nl)]
          exact (((u1.trans s4).trans u2).trans u3) _ _ h
        have h6 : (upd G6 l (.lst ((LG.linesOf (begD D s) ks).map V.str))) l = some (.lst ((LG.linesOf (begD D s) ks).map V.str)) := upd_same
        show _
        generalize upd G6 l (.lst ((LG.linesOf (begD D s) ks).map V.str)) = G7 at s6 h6 ⊢
        have dr2 := dr.begun hS
        have pm2 := dr.begun_perm hS pm
        have mem2 : ∀ k ∈ ks, k ∈ (begD D s).goals.map (·.1) := fun k hk => pm2.mem_iff.mp hk
        have tl2 := dr2.text_len mem2 len12
        have ll2 := sum_le (dr2.lines_len mem2)
        have ln2 : (LG.linesOf (begD D s) ks).length = 3 + ks.length := by
          unfold LG.linesOf
          rw [List.length_append, List.length_map]
          rfl
        refine ⟨⟨_, rfl⟩, _, rfl, nl1, l, _, rfl, rfl, .inl (SqL.of h6), by rw [nl1_1]; omega, fun y dy ny ndy ney => ?_⟩
        have rd := dr2.read pm2
        refine ⟨y, dy, .str (textOf (begD D s) ks), rfl, upd_same, .inl ⟨_, rfl⟩, fun T' e => by cases e; exact tl2, fun T' D' e hp' G8 but dev => ⟨rfl, ?_⟩, fun n hn => absurd (hn.symm.trans rd) (fun z => by cases z)⟩
        cases e
        rw [rd] at hp'
        cases hp'
        exact q y G8 (s6.trans (made ny ndy but)) dev
end
end K03
set_option Elab.async false
set_option linter.all false
set_option maxRecDepth 100000
set_option maxHeartbeats 4000000
namespace LG
open PySem L2
/-! ### lines that begin so -/
theorem cut_eq : ∀ {a b A B : List Nat}, 32 ∉ a → 32 ∉ b → a ++ 32 :: A = b ++ 32 :: B → a = b ∧ A = B
  | [], [], A, B, _, _, h => by
    cases h
    exact ⟨rfl, rfl⟩
  | [], y :: b, A, B, _, hb, h => by
    simp at h
    exact absurd (by simp [h.1]) hb
  | x :: a, [], A, B, ha, _, h => by
    simp at h
    exact absurd (by simp [h.1]) ha
  | x :: a, y :: b, A, B, ha, hb, h => by
    simp only [List.cons_append, List.cons.injEq] at h
    obtain ⟨e1, e2⟩ := cut_eq (a := a) (b := b) (fun z => ha (List.mem_cons_of_mem _ z)) (fun z => hb (List.mem_cons_of_mem _ z)) h.2
    exact ⟨by rw [h.1, e1], e2⟩
theorem tl_sp : TL.tl sp1 = [32] := by decide +kernel
theorem start_pre {x y : Str} : Txt.startswith x y = true ↔ ∃ z, TL.tl x = TL.tl y ++ z := by
  have e : Txt.startswith x y = (decide (0 + y.length ≤ x.length) && Builtin.Str.subAt x y 0) := rfl
  rw [e, StrLaws.subAt_eq, Bool.and_eq_true, decide_eq_true_eq, beq_iff_eq, List.drop_zero]
  constructor
  · rintro ⟨_, h⟩
    refine ⟨(TL.tl x).drop y.length, ?_⟩
    have h : (TL.tl x).take y.length = TL.tl y := h
    rw [← h, List.take_append_drop]
  · rintro ⟨z, h⟩
    have l1 : x.length = (TL.tl x).length := by simp [TL.tl, Str.length]
    have l2 : y.length = (TL.tl y).length := by simp [TL.tl, Str.length]
    refine ⟨?_, ?_⟩
    · rw [l1, l2, h, List.length_append]
      omega
    · show (TL.tl x).take y.length = TL.tl y
      rw [l2, h, List.take_left]
theorem tl_line (w x : Str) (r : List Str) : TL.tl (Txt.join sp1 (w :: x :: r)) = TL.tl w ++ 32 :: TL.tl (Txt.join sp1 (x :: r)) := by
  rw [TL.join_eq, TL.join_eq]
  have e : Str.join sp1 (w :: x :: r) = w ++ sp1 ++ Str.join sp1 (x :: r) := rfl
  rw [e, TL.tl_append, TL.tl_append, tl_sp, List.append_assoc]
  rfl
/-- the head of a row -/
def headR (s c : Str) : Str := ((("row " : Str) ++ s) ++ sp1 ++ c) ++ sp1
theorem tl_row : TL.tl ("row " : Str) = TL.tl ("row" : Str) ++ [32] := by decide +kernel
theorem tl_head (s c : Str) : TL.tl (headR s c) = TL.tl ("row" : Str) ++ 32 :: (TL.tl s ++ 32 :: (TL.tl c ++ [32])) := by
  unfold headR
  rw [TL.tl_append, TL.tl_append, TL.tl_append, TL.tl_append, tl_row, tl_sp]
  simp
theorem tl_ext {x y : Str} (h : TL.tl x = TL.tl y) : x = y := by
  cases x with
  | mk a =>
    cases y with
    | mk b =>
      have : a = b := Array.ext' h
      rw [this]
theorem start_row {D : Dev} (d : Drawn D) {k : Str × Str} (hk : k ∈ D.goals.map (·.1)) {s c : Str} (hs : isNameB s = true) (hc : isNameB c = true) : Txt.startswith (rowOf D k) (headR s c) = decide (k = (s, c)) := by
  have hn := d.row_names hk
  have n1 := no_sign (hn k.1 (by simp)) sign32
  have n2 := no_sign (hn k.2 (by simp)) sign32
  have n3 := no_sign hs sign32
  have n4 := no_sign hc sign32
  have el : TL.tl (rowOf D k) = TL.tl ("row" : Str) ++ 32 :: (TL.tl k.1 ++ 32 :: (TL.tl k.2 ++ 32 :: TL.tl (Txt.join sp1 [(rowX D k).1, (rowX D k).2]))) := by
    unfold rowOf
    rw [tl_line, tl_line, tl_line]
  by_cases e : k = (s, c)
  · rw [decide_eq_true e, start_pre]
    refine ⟨TL.tl (Txt.join sp1 [(rowX D k).1, (rowX D k).2]), ?_⟩
    rw [el, tl_head, e]
    simp
  · rw [decide_eq_false e]
    cases h : Txt.startswith (rowOf D k) (headR s c) with
    | false => rfl
    | true =>
      exfalso
      obtain ⟨z, hz⟩ := start_pre.mp h
      rw [el, tl_head] at hz
      simp only [List.append_assoc, List.cons_append, List.nil_append] at hz
      have hz1 := (cut_eq w32.2.2.2 w32.2.2.2 hz).2
      obtain ⟨e1, hz2⟩ := cut_eq n1 n3 hz1
      obtain ⟨e2, _⟩ := cut_eq n2 n4 hz2
      exact e (Prod.ext (tl_ext e1) (tl_ext e2))
theorem start_head {w x : Str} {r : List Str} {s c : Str} (hw : (32 : Nat) ∉ TL.tl w) (ne : w ≠ "row") : Txt.startswith (Txt.join sp1 (w :: x :: r)) (headR s c) = false := by
  cases h : Txt.startswith (Txt.join sp1 (w :: x :: r)) (headR s c) with
  | false => rfl
  | true =>
    exfalso
    obtain ⟨z, hz⟩ := start_pre.mp h
    rw [tl_line, tl_head] at hz
    simp only [List.append_assoc, List.cons_append, List.nil_append] at hz
    exact ne (tl_ext (cut_eq hw w32.2.2.2 hz).1)
theorem row_text (s c a g : Str) : headR s c ++ a ++ sp1 ++ g = Txt.join sp1 ["row", s, c, a, g] := by
  refine tl_ext ?_
  rw [tl_line, tl_line, tl_line, tl_line, TL.tl_append, TL.tl_append, TL.tl_append, tl_head, tl_sp]
  have e : Txt.join sp1 [g] = g := by rw [TL.join_eq]; rfl
  rw [e]
  simp
/-! ### turned -/
def turD (D : Dev) (k0 f : Str × Str) : Dev := ⟨D.calls, D.answers, D.states, D.goals.map fun e => if e.1 = k0 then (k0, f) else e⟩
theorem tur_keys (D : Dev) (k0 f : Str × Str) : (turD D k0 f).goals.map (·.1) = D.goals.map (·.1) := by
  unfold turD
  rw [List.map_map]
  refine List.map_congr_left fun e _ => ?_
  show (if e.1 = k0 then (k0, f) else e).1 = e.1
  by_cases h : e.1 = k0
  · rw [if_pos h, h]
  · rw [if_neg h]
theorem tur_look {g : Goals} {k0 f k : Str × Str} (h : k ∈ g.map (·.1)) : (g.map fun e => if e.1 = k0 then (k0, f) else e).lookup k = if k = k0 then some f else g.lookup k := by
  induction g with
  | nil => simp at h
  | cons p r ih =>
    obtain ⟨k', x'⟩ := p
    rw [List.map_cons]
    by_cases e : k = k'
    · subst e
      by_cases e2 : k = k0
      · subst e2
        simp [List.lookup]
      · simp [List.lookup, e2]
    · have nb : (k == k') = false := by simpa using e
      have h' : k ∈ r.map (·.1) := by
        rcases List.mem_cons.mp h with z | z
        · exact absurd z e
        · exact z
      have l2 : List.lookup k ((k', x') :: r) = List.lookup k r := by simp [List.lookup, nb]
      rw [l2, ← ih h']
      by_cases e2 : k' = k0
      · subst e2
        simp [List.lookup, nb]
      · simp only [if_neg e2]
        simp [List.lookup, nb]
theorem Drawn.turned {D : Dev} (d : Drawn D) {k0 f : Str × Str} (h1 : f.1 ∈ D.answers) (h2 : f.2 ∈ D.states) : Drawn (turD D k0 f) := by
  refine ⟨d.cn, d.an, d.sn, d.c1, d.a1, d.s1, d.cw, d.aw, d.sw, ?_, fun e he => ?_⟩
  · rw [tur_keys]
    exact d.keys
  · obtain ⟨e0, he0, rfl⟩ := List.mem_map.mp he
    by_cases c : e0.1 = k0
    · rw [if_pos c]
      exact ⟨h1, h2⟩
    · rw [if_neg c]
      exact d.vals e0 he0
theorem tur_row {D : Dev} {k0 f k : Str × Str} (h : k ∈ D.goals.map (·.1)) : rowX (turD D k0 f) k = if k = k0 then f else rowX D k := by
  unfold rowX
  have e : (turD D k0 f).goals.lookup k = if k = k0 then some f else D.goals.lookup k := tur_look h
  rw [e]
  by_cases c : k = k0
  · rw [if_pos c, if_pos c]
    rfl
  · rw [if_neg c, if_neg c]
/-- what becomes of a line -/
def turL (s c a g : Str) (line : Str) : Str := if Txt.startswith line (headR s c) = true then headR s c ++ a ++ sp1 ++ g else line
theorem Drawn.turned_lines {D : Dev} (d : Drawn D) {s c a g : Str} (hs : s ∈ D.states) (hc : c ∈ D.calls) {ks : List (Str × Str)} (mem : ∀ k ∈ ks, k ∈ D.goals.map (·.1)) : linesOf (turD D (s, c) (a, g)) ks = (linesOf D ks).map (turL s c a g) := by
  have hd : headsOf (turD D (s, c) (a, g)) = headsOf D := rfl
  have ne : ∀ {l : List Str}, 1 ≤ l.length → ∃ y r, l = y :: r := fun {l} h => List.exists_cons_of_length_pos h
  unfold linesOf
  rw [hd, List.map_append]
  congr 1
  · rw [headsOf_eq d]
    obtain ⟨y1, r1, e1⟩ := ne d.c1.1
    obtain ⟨y2, r2, e2⟩ := ne (show 1 ≤ D.answers.length by have := d.a1; omega)
    obtain ⟨y3, r3, e3⟩ := ne d.s1.1
    rw [e1, e2, e3]
    have f1 := start_head (x := y1) (r := r1) (s := s) (c := c) w32.1 (by decide +kernel)
    have f2 := start_head (x := y2) (r := r2) (s := s) (c := c) w32.2.1 (by decide +kernel)
    have f3 := start_head (x := y3) (r := r3) (s := s) (c := c) w32.2.2.1 (by decide +kernel)
    simp only [List.map_cons, List.map_nil, turL, f1, f2, f3, Bool.false_eq_true, if_false]
  · rw [List.map_map]
    refine List.map_congr_left fun k hk => ?_
    have km := mem k hk
    have st := start_row d km (d.sw s hs) (d.cw c hc)
    show rowOf (turD D (s, c) (a, g)) k = turL s c a g (rowOf D k)
    unfold turL
    rw [st]
    by_cases e : k = (s, c)
    · rw [decide_eq_true e, if_pos rfl, row_text]
      unfold rowOf
      rw [tur_row km, if_pos e, e]
    · rw [decide_eq_false e, if_neg (by simp)]
      unfold rowOf
      rw [tur_row km, if_neg e]
end LG
set_option Elab.async false
set_option linter.all false
set_option maxRecDepth 100000
set_option maxHeartbeats 8000000
namespace LG
open PySem L2
/-- what is due where a row cannot be turned so -/
def NoTurn (CS CC CA : Addr) (D : Dev) (s c a g : V) (H : Hp) (E : XK) : Prop :=
  NoRow CS CC D s c H E ∧ (amongB s D.states = true → amongB c D.calls = true →
    (amongB a D.answers = false → ∀ d, H d = none → E (.ref CA) (some d) (upd H d (.xd (vf a)))) ∧
    (amongB a D.answers = true → amongB g D.states = false → ∀ d, H d = none → E (.ref CS) (some d) (upd H d (.xd (vf g)))))
theorem emp_app (x : Str) : Str.empty ++ x = x := by
  refine TL.ext_tl ?_
  rw [TL.tl_append]
  rfl
theorem head_eq (s c : Str) : Str.empty ++ ("row " : Str) ++ s ++ sp1 ++ c ++ sp1 = headR s c := by
  rw [emp_app]
  rfl
theorem row4 : ("row " : Str).length = 4 := by decide +kernel
theorem emp0 : Str.empty.length = 0 := by decide +kernel
theorem head_len {s c : Str} (h1 : s.length ≤ 8) (h2 : c.length ≤ 8) : (headR s c).length ≤ 22 := by
  unfold headR
  rw [Str.length_append, Str.length_append, Str.length_append, Str.length_append, row4, sp1_1]
  omega
end LG
namespace K03
open PySem L2 LG
section
variable {P : Program} {w : World} {K : PySem.W.Frag} {mg : Str → Option Value} {base : Heap} {fI C : Addr}
def spTurned (K : PySem.W.Frag) (C CS CC CA : Addr) : Sp := fun vs H Q E => ∃ (x : Addr) (s c a g : V) (D : Dev) (ks : List (Str × Str)), vs = [.ref x, s, c, a, g] ∧ DevAt K H x C (textOf D ks) (readOf D ks) ∧ LG.Drawn D ∧ ks.Perm (D.goals.map (·.1)) ∧
  StrOr K H s ∧ StrOr K H c ∧ StrOr K H a ∧ StrOr K H g ∧ NoTurn CS CC CA D s c a g H E ∧
  (∀ S Cn An Gn, s = .str S → c = .str Cn → a = .str An → g = .str Gn → S ∈ D.states → Cn ∈ D.calls → An ∈ D.answers → Gn ∈ D.states → ∀ y G, Same H G → DevAt K G y C (textOf (turD D (S, Cn) (An, Gn)) ks) (readOf (turD D (S, Cn) (An, Gn)) ks) → Q (.ref y) G)
abbrev nTu : List Str := ["self", "state", "call", "answer", "goal", "head", "lines", "line"]
theorem scTurned : FnScope nTu ["self", "state", "call", "answer", "goal"] (defScope sDTurned) := ⟨rfl, rfl, rfl, by decide +kernel, rfl, by decide +kernel, by decide +kernel⟩
theorem ok_turned {f g g1 g2 h2 CS CC CA CB : Addr} {fd gd gd1 gd2 hd : FuncData} (F : Fun K "turned" "Device.turned" sDTurned f fd) (T : Bltn mg) (DC : DevCl K mg C) (I : Ini P w K mg base fI) (cS : ECl K mg fI "NoState" CS) (cA : ECl K mg fI "NoAnswer" CA)
    (G1 : FnOk P w K mg base (L2.CX P w) 3 g1 gd1 ["self", "state", "call"] (spAsk K C CS CC)) (m1 : Meth K C "_ask_for_row" g1) (b1 : Binds K gd1 ["self", "state", "call"] [])
    (G2 : FnOk P w K mg base CX0 1 g2 gd2 ["value", "names"] (spAmong K)) (m2 : mg "is_among" = some (.ref g2)) (k2 : PySem.W.keepIn K (.ref g2) = true) (b2 : Binds K gd2 ["value", "names"] [])
    (Hs : FnOk P w K mg base CX0 2 h2 hd ["self", "value"] (spHas K C)) (fH : PySem.W.findIn K (.ref C) "__contains__" = some (some (.ref h2))) (nH : PySem.W.isFn K (.ref h2) = true) (bH : Binds K hd ["self", "value"] [])
    (GI : FnOk P w K mg base (L2.CX P w) 4 g gd ["self", "text"] (spDInit K C CB)) (MI : Mk K C g) (bI : Binds K gd ["self", "text"] []) :
    FnOk P w K mg base (L2.CX P w) 6 f fd ["self", "state", "call", "answer", "goal"] (spTurned K C CS CC CA) := by
  refine F.okX scTurned (fun vs H Q E h => ?_) (fun cdv A0 outer st H vs Q E hr h => ?_)
  · obtain ⟨x, s, c, a, g, D, ks, rfl, _⟩ := h
    rfl
  obtain ⟨x, s, c, a, gv, D, ks, rfl, hD, dr, pm, os, oc, oa, og, qn, qy⟩ := h
  have r2 : Room 2 _ := hr.mono (by decide)
  have r1 : Room 1 _ := hr.mono (by decide)
  have tk := takes_of (X := cxOf (L2.CX P w) P w K mg base nTu "Device.turned" (defScope sDTurned) f cdv A0 outer st H E) rfl rfl rfl rfl
  refine' ⟨_, pss_cons (ps_expr (pe_meth (pv 0) DC.cl m1 G1 (hr.mono (by decide)) b1 .nil (passes_call tk (fun _ _ _ _ h => h)) (pa_cons (pv 1) (pa_cons (pv 2) pa_nil))))
    (pss_cons (ps_if (pt_not (pt_val (pe_call G2 r1 rfl m2 k2 b2 .nil pass0 (pa_cons (pv 3) (pa_cons (pe_fld (pv 0) rfl) pa_nil))))) (pss_one (ps_err rfl I cA r2 tk (pv 3) rfl)) pss_nil)
    (pss_cons (ps_if (pt_cmpR (op_ownNotIn fH nH Hs bH r2) (pv 4) (pv 0) (by rfl)) (pss_one (ps_err rfl I cS r2 tk (pv 4) rfl)) pss_nil)
    (pss_cons (ps_set (i := 5) scTurned.nd rfl (Or.inr rfl) (pe_joined (.cons pe_str (.cons (pe_fmt (pv 1)) (.cons pe_str (.cons (pe_fmt (pv 2)) (.cons pe_str .nil)))))))
    (pss_cons (ps_setLc (i := 6) (own := [("line", 7)]) (g := gName 7) rfl scTurned.nd rfl rfl (sw_true rfl rfl rfl (by decide +kernel)) (pi_list (pe_split (pe_fld (pv 0) rfl) pe_str)) (blkOk_by (own := [("line", 7)]) (N := nTu) (sc := defScope sDTurned) (by decide +kernel))
      (fun _ _ _ _ _ => pg_name (i := 7) scTurned.nd rfl (Or.inl rfl)) (fun _ _ _ _ _ => pts_nil)
      (fun _ _ _ _ _ => pe_ifExp (pt_val (pe_m1 PySem.F.slot_str_startswith PySem.F.type_str_startswith mt_startswith (pv 7) (pv 5))) (pe_joined (.cons (pe_fmt (pv 5)) (.cons (pe_fmt (pv 3)) (.cons pe_str (.cons (pe_fmt (pv 4)) .nil))))) (pv 7)))
    (pss_one (ps_ret (pe_make MI GI (hr.mono (by decide)) rfl DC.mg bI .nil (passes_call tk (fun _ _ _ _ h => h)) (pa_cons (pe_join pe_str (pv 6)) pa_nil)))))))), ?main⟩
  case main =>
    obtain ⟨dx, c0, a0, s0, g0, hx, hc, ha, hs, hg⟩ := id hD
    have mem : ∀ k ∈ ks, k ∈ D.goals.map (·.1) := fun k hk => pm.mem_iff.mp hk
    refine ⟨_, rfl, x, dx, _, rfl, hx, rfl, _, rfl, _, rfl, x, s, c, _, _, rfl, hD, os, oc, fun e1 e2 => ?_, qn.1⟩
    have qn := qn.2 e1 e2
    clear os oc
    have est : (readOf D ks).states = D.states := rfl
    have ecl : (readOf D ks).calls = D.calls := rfl
    have ean : (readOf D ks).answers = D.answers := rfl
    rw [est] at e1
    rw [ecl] at e2
    show _
    refine ⟨_, rfl, _, rfl, x, C, dx, _, _, rfl, hx, DC.cl, DC.na, rfl, a, a0, _, rfl, oa, .inr ha, _, rfl, ?_⟩
    rw [ean]
    cases e3 : amongB a D.answers with
    | false => exact iteT ⟨_, rfl, fun d nd => qn.1 e3 d nd⟩
    | true =>
      have qn := qn.2 e3
      refine iteF ⟨_, rfl, _, rfl, x, dx, _, rfl, hx, x, gv, _, _, rfl, hD, og, _, rfl, _, rfl, ?_⟩
      rw [est]
      cases e4 : amongB gv D.states with
      | false => exact iteT ⟨_, rfl, fun d nd => qn e4 d nd⟩
      | true =>
        obtain ⟨S, rfl, hS⟩ := among_str e1
        obtain ⟨Cn, rfl, hC⟩ := among_str e2
        obtain ⟨An, rfl, hA⟩ := among_str e3
        obtain ⟨Gn, rfl, hG⟩ := among_str e4
        have q := qy S Cn An Gn rfl rfl rfl rfl hS hC hA hG
        clear qy qn oa og e1 e2 e3 e4
        have lS := name_len (dr.sw S hS)
        have lC := name_len (dr.cw Cn hC)
        have lA := name_len (dr.aw An hA)
        have lG := name_len (dr.sw Gn hG)
        have lH := head_len lS lC
        have glen : D.goals.length ≤ 12 := by
          have e := congrArg List.length dr.keys
          rw [List.length_map, prod_len] at e
          have := Nat.mul_le_mul dr.s1.2 dr.c1.2
          omega
        have len12 : ks.length ≤ 12 := by
          have := pm.length_eq
          rw [List.length_map] at this
          omega
        have tl := dr.text_len mem len12
        have tsp := dr.split_lines mem
        have ln : (LG.linesOf D ks).length = 3 + ks.length := by
          unfold LG.linesOf
          rw [List.length_append, List.length_map]
          rfl
        refine iteF ⟨"row ", rfl, by rw [Str.length_append, row4, emp0, sizeLine_eq]; omega, _, rfl, .inl ⟨S, rfl, by rw [sizeLine_eq]; omega, S, rfl, by rw [Str.length_append, Str.length_append, row4, emp0, sizeLine_eq]; omega, sp1, rfl, by rw [Str.length_append, Str.length_append, Str.length_append, row4, emp0, sp1_1, sizeLine_eq]; omega,
          _, rfl, .inl ⟨Cn, rfl, by rw [sizeLine_eq]; omega, Cn, rfl, by rw [Str.length_append, Str.length_append, Str.length_append, Str.length_append, row4, emp0, sp1_1, sizeLine_eq]; omega, sp1, rfl, by rw [head_eq, sizeLine_eq]; omega, ?_⟩⟩⟩
        rw [head_eq]
        refine ⟨_, rfl, x, C, dx, _, _, rfl, hx, DC.cl, DC.nt, rfl, ⟨_, rfl⟩, _, nl1, rfl, rfl, rfl, by rw [sizeLine_eq]; omega, fun l nl => ?_⟩
        rw [tsp]
        have u1 := same_new nl (.lst ((LG.linesOf D ks).map V.str))
        have hl : (upd H l (.lst ((LG.linesOf D ks).map V.str))) l = some (.lst ((LG.linesOf D ks).map V.str)) := upd_same
        show _
        generalize upd H l (.lst ((LG.linesOf D ks).map V.str)) = H1 at u1 hl ⊢
        have l45 := dr.lines_len mem
        have tlines := dr.turned_lines (a := An) (g := Gn) hS hC mem
        refine ⟨_, rfl, ⟨_, SqL.of hl⟩, fun Dd nD => ?_⟩
        refine lc_it walk_list (D := Dd) (g := gName 7) (tt := tYes) (vs := [7]) (fun i G => Same H1 G ∧ G Dd = some (.lst ((((LG.linesOf D ks).take i).map (turL S Cn An Gn)).map V.str))) ⟨same_new nD _, upd_same⟩ (fun i G _ h => SqL.of (h.1 _ _ hl)) ?_ ?_
        · rintro i y G4 G5 hi ⟨s4, d4⟩ ⟨rfl, hy⟩
          have hi : i < (LG.linesOf D ks).length := by
            rw [List.length_map] at hi
            exact hi
          rw [List.getElem?_map, List.getElem?_eq_getElem hi] at hy
          have ey : y = .str (LG.linesOf D ks)[i] := (Option.some.inj hy).symm
          subst ey
          have l4 := l45 _ (List.getElem_mem hi)
          have et : (LG.linesOf D ks).take (i + 1) = (LG.linesOf D ks).take i ++ [(LG.linesOf D ks)[i]] := by rw [List.take_add_one, List.getElem?_eq_getElem hi]; rfl
          have fin : ∀ z, z = turL S Cn An Gn (LG.linesOf D ks)[i] → ∃ zs, G5 Dd = some (.lst zs) ∧ zs.length < sizeLine ∧ Same H1 (upd G5 Dd (.lst (zs ++ [V.str z]))) ∧ (upd G5 Dd (.lst (zs ++ [V.str z]))) Dd = some (.lst ((((LG.linesOf D ks).take (i + 1)).map (turL S Cn An Gn)).map V.str)) := by
            rintro z rfl
            refine ⟨_, d4, by rw [List.length_map, List.length_map, List.length_take, sizeLine_eq]; omega, fun b o h => ?_, ?_⟩
            · rw [upd_ne (ne_of_none h nD)]
              exact s4 _ _ h
            · rw [upd_same, et, List.map_append, List.map_append]
              rfl
          generalize (LG.linesOf D ks)[i] = line at l4 fin hy
          have eb : Str.empty ++ headR S Cn ++ An ++ sp1 ++ Gn = headR S Cn ++ An ++ sp1 ++ Gn := by rw [emp_app]
          refine ⟨rfl, ?_⟩
          refine ⟨_, rfl, ⟨_, rfl⟩, _, rfl, line, _, rfl, rfl, _, rfl, ?_⟩
          cases es : Txt.startswith line (headR S Cn) with
          | false => exact iteF ⟨_, rfl, fin line (by unfold turL; rw [es]; simp)⟩
          | true =>
            refine iteT ⟨_, rfl, .inl ⟨headR S Cn, rfl, by rw [sizeLine_eq]; omega, headR S Cn, rfl, by rw [emp_app, sizeLine_eq]; omega, _, rfl, .inl ⟨An, rfl, by rw [sizeLine_eq]; omega, An, rfl, by rw [emp_app, Str.length_append, sizeLine_eq]; omega,
              sp1, rfl, by rw [emp_app, Str.length_append, Str.length_append, sp1_1, sizeLine_eq]; omega, _, rfl, .inl ⟨Gn, rfl, by rw [sizeLine_eq]; omega, Gn, rfl, by rw [emp_app, Str.length_append, Str.length_append, Str.length_append, sp1_1, sizeLine_eq]; omega, ?_⟩⟩⟩⟩
            refine fin _ ?_
            rw [eb]
            unfold turL
            rw [es, if_pos rfl]
        · rintro G4 ⟨s4, d4⟩
          rw [List.length_map, List.take_length, ← tlines] at d4
          have s5 := (u1.trans s4)
          have dr2 := dr.turned (k0 := (S, Cn)) (f := (An, Gn)) hA hG
          have pm2 : ks.Perm ((turD D (S, Cn) (An, Gn)).goals.map (·.1)) := by
            rw [tur_keys]
            exact pm
          have mem2 : ∀ k ∈ ks, k ∈ (turD D (S, Cn) (An, Gn)).goals.map (·.1) := fun k hk => pm2.mem_iff.mp hk
          have tl2 := dr2.text_len mem2 len12
          have ll2 := sum_le (dr2.lines_len mem2)
          have ln2 : (LG.linesOf (turD D (S, Cn) (An, Gn)) ks).length = 3 + ks.length := by
            unfold LG.linesOf
            rw [List.length_append, List.length_map]
            rfl
          refine ⟨⟨_, rfl⟩, _, rfl, nl1, Dd, _, rfl, rfl, .inl (SqL.of d4), by rw [nl1_1]; omega, fun y dy ny ndy ney => ?_⟩
          have rd := dr2.read pm2
          refine ⟨y, dy, .str (textOf (turD D (S, Cn) (An, Gn)) ks), rfl, upd_same, .inl ⟨_, rfl⟩, fun T' e => by cases e; exact tl2, fun T' D' e hp' G8 but dev => ⟨rfl, ?_⟩, fun n hn => absurd (hn.symm.trans rd) (fun z => by cases z)⟩
          cases e
          rw [rd] at hp'
          cases hp'
          exact q y G8 (s5.trans (made ny ndy but)) dev
end
end K03
set_option Elab.async false
set_option linter.all false
set_option maxRecDepth 100000
set_option maxHeartbeats 8000000
namespace LG
open PySem L2
theorem Drawn.full0 {D : Dev} (d : Drawn D) : Full D := by
  refine ⟨fun e => ?_, fun s hs c hc => ?_⟩
  · have := d.s1.1
    rw [e] at this
    simp at this
  · have km : (s, c) ∈ D.goals.map (·.1) := by
      rw [d.keys]
      exact prod_mem.mpr ⟨hs, hc⟩
    exact ⟨(d.row km).1, (d.row km).2.2.2.2⟩
end LG
namespace K03
open PySem L2 LG
section
variable {P : Program} {w : World} {K : PySem.W.Frag} {mg : Str → Option Value} {base : Heap}
/-! ### the law's own walk of a device -/
def spRun (K : PySem.W.Frag) : Sp := fun vs H Q _ => ∃ (o r t : Addr) (s : Str) (ws : List Str) (D : Dev), vs = [.ref o, .str s, .ref t] ∧ (∀ G, Same H G → DGet G o (.str "rows") (some (.ref r))) ∧ GoalsAt K H r D.goals ∧ Full D ∧ s ∈ D.states ∧ (∀ y ∈ ws, y ∈ D.calls) ∧
  SqT K H t (ws.map V.str) ∧ ws.length ≤ 1000 ∧
  ∀ q a G, Same H G → G q = some (.tup [.ref a, .str (runD D s ws).2]) → G a = some (.tup ((runD D s ws).1.map V.str)) → Q (.ref q) G
abbrev nRu : List Str := ["_law_device", "_law_state", "_law_walk", "_law_found", "_law_call", "_law_answer"]
theorem scRun : FnScope nRu ["_law_device", "_law_state", "_law_walk"] (defScope sRun) := ⟨rfl, rfl, rfl, by decide +kernel, rfl, by decide +kernel, by decide +kernel⟩
theorem ok_run {f : Addr} {fd : FuncData} (F : Fun K "_law_run" "_law_run" sRun f fd) (T : Bltn mg) : FnOk P w K mg base CX0 1 f fd ["_law_device", "_law_state", "_law_walk"] (spRun K) := by
  refine F.ok scRun (fun vs H Q E h => ?_) (fun cdv A0 outer st H vs Q E hr h => ?_)
  · obtain ⟨o, r, t, s, ws, D, rfl, _⟩ := h
    rfl
  obtain ⟨o, r, t, s1, ws, D, rfl, hr0, hg, FD, hs1, hws, ht, hl, q⟩ := h
  have hu := hu_of hr
  refine ⟨_, pss_cons (ps_set (i := 3) scRun.nd rfl (Or.inl rfl) (pe_lst pa_nil))
    (pss_cons (ps_for PassesOwn.never rfl (pi_tup (pv 2)) (pg_name (i := 4) scRun.nd rfl (Or.inl rfl))
      (pss_cons (ps_asg (pe_dget hu (pe_dget hu (pv 0) pe_str (fun _ _ => rfl)) (pe_tup (pa_cons (pv 1) (pa_cons (pv 4) pa_nil))) (fun _ _ => rfl)) (pg_tup rfl (pgs_cons (pg_name (i := 5) scRun.nd rfl (Or.inl rfl)) (pgs_cons (pg_name (i := 1) scRun.nd rfl (Or.inl rfl)) pgs_nil))))
      (pss_one (ps_expr (pe_bm PySem.F.plainAttrs_list PySem.F.slot_list_append PySem.F.type_list_append mt_append (pv 3) (pa_cons (pv 5) pa_nil))))))
    (pss_one (ps_ret (pe_tup (pa_cons (pe_callTy call_tuple_of rfl T.tuple (by decide +kernel) (pa_cons (pv 3) pa_nil)) (pa_cons (pv 1) pa_nil)))))), ?_⟩
  refine ⟨(by show 0 ≤ sizeLine; decide), fun al nal => ?_⟩
  have u1 := same_new nal (.lst [])
  have hal : (upd H al (.lst [])) al = some (.lst []) := upd_same
  have nalH : H al = none := nal
  show _
  generalize upd H al (.lst []) = G1 at hal u1 ⊢
  refine ⟨_, rfl, t, rfl, ⟨_, same_tup u1 ht⟩, ?_⟩
  refine for_it walk_tup (fun i σ G4 => ∃ x4 x5, σ = [some (.ref o), some (.str (runD D s1 (ws.take i)).2), some (.ref t), some (.ref al), x4, x5] ∧ Same H G4 ∧ G4 al = some (.lst ((runD D s1 (ws.take i)).1.map V.str)) ∧ (runD D s1 (ws.take i)).1.length = i)
    ⟨_, _, rfl, u1, hal, rfl⟩ (fun i σ G4 _ ⟨_, _, _, s4, _⟩ => same_tup s4 ht) ?_ ?_
  · rintro i y σ G4 G5 hi ⟨x4, x5, rfl, s4, h4, l4⟩ ⟨rfl, hy⟩
    rw [List.length_map] at hi
    rw [List.getElem?_map, List.getElem?_eq_getElem hi] at hy
    have ey : y = .str ws[i] := (Option.some.inj hy).symm
    subst ey
    have inS := FD.run (ws := ws.take i) hs1 fun w hw => hws w (List.mem_of_mem_take hw)
    obtain ⟨lk, _⟩ := FD.row _ inS ws[i] (hws _ (List.getElem_mem hi))
    have et : ws.take (i + 1) = ws.take i ++ [ws[i]] := by rw [List.take_add_one, List.getElem?_eq_getElem hi]; rfl
    have er := runD_snoc D (ws.take i) s1 ws[i]
    rw [← et] at er
    generalize runD D s1 (ws.take (i + 1)) = R' at er
    subst er
    generalize runD D s1 (ws.take i) = R at h4 l4 lk inS ⊢
    obtain ⟨as, sn⟩ := R
    dsimp only at h4 l4 lk inS ⊢
    obtain ⟨kvs, hgr, gr⟩ := hg
    refine ⟨_, rfl, _, _, rfl, hr0 _ s4, _, rfl, _, rfl, (by show 2 ≤ sizeLine; decide), fun tk ntk => ?_⟩
    have u5 := same_new ntk (.tup [.str sn, .str ws[i]])
    have htk : (upd G5 tk (.tup [.str sn, .str ws[i]])) tk = some (.tup ((kT (sn, ws[i])).map kV)) := upd_same
    show _
    generalize upd G5 tk (.tup [.str sn, .str ws[i]]) = G6 at u5 htk ⊢
    rcases gr.val (sn, ws[i]) with ⟨l1, _⟩ | ⟨r2, t2, l1, l2, l3⟩
    · rw [l1] at lk
      cases lk
    · rw [l1] at lk
      have er2 : r2 = rowX D (sn, ws[i]) := Option.some.inj lk
      subst er2
      have g1 : DGet _ r (.ref tk) (valV kvs (kT (sn, ws[i]))) := .inr ⟨kvs, kT (sn, ws[i]), tk, rd_same (s4.trans u5) hgr, rfl, htk, rfl⟩
      rw [l2] at g1
      refine ⟨r, _, rfl, g1, t2, _, rfl, same_tup (s4.trans u5) l3, rfl, _, _, rfl, _, _, rfl, rfl, ?_⟩
      have h6 := u5 _ _ h4
      refine ⟨_, rfl, .inl ⟨rfl, _, SqL.of h6⟩, _, rfl, al, _, _, rfl, rfl, h6, by rw [List.length_map, sizeLine_eq]; omega, ?_⟩
      refine ⟨_, _, rfl, fun bq o hq => ?_, ?_, ?_⟩
      · rw [upd_ne (ne_of_none hq nalH)]
        exact (s4.trans u5) _ _ hq
      · rw [upd_same, List.map_append]
        rfl
      · rw [List.length_append, l4]
        rfl
  · rintro σ G4 ⟨x4, x5, rfl, s4, h4, l4⟩
    rw [List.length_map, List.take_length] at h4 ⊢
    refine ⟨_, rfl, al, _, rfl, .inl ⟨SqL.of h4, fun p np => ?_⟩⟩
    have u5 := same_new np (.tup ((runD D s1 ws).1.map V.str))
    have hp : (upd G4 p (.tup ((runD D s1 ws).1.map V.str))) p = some (.tup ((runD D s1 ws).1.map V.str)) := upd_same
    show _
    generalize upd G4 p (.tup ((runD D s1 ws).1.map V.str)) = G6 at u5 hp ⊢
    refine ⟨_, rfl, (by show 2 ≤ sizeLine; decide), fun r nr => ?_⟩
    have u6 := same_new nr (.tup [.ref p, .str (runD D s1 ws).2])
    exact q r p _ ((s4.trans u5).trans u6) upd_same (u6 _ _ hp)
end
end K03
set_option Elab.async false
set_option linter.all false
set_option maxRecDepth 100000
set_option maxHeartbeats 8000000
namespace K03
open PySem L2 LG
section
variable {P : Program} {w : World} {K : PySem.W.Frag} {mg : Str → Option Value} {base : Heap}
/-! ### a walk drawn -/
def spAWalk (K : PySem.W.Frag) : Sp := fun vs H Q _ => ∃ (p l : Addr) (m b : Nat) (C : List Str), vs = [.ref p, .ref l, .int m] ∧ PotAt H p b ∧ b ≤ 90000 ∧ m ≤ 30 ∧ SqL K H l (C.map V.str) ∧ l ≠ p ∧ 0 < C.length ∧ C.length ≤ 1000 ∧
  ∀ (t : Addr) (ws : List Str) (B : Nat) (H' : Hp), But p H H' → PotAt H' p B → B ≤ b + 31 → H t = none → t ≠ p → H' t = some (.tup (ws.map V.str)) → ws.length ≤ m → (∀ y ∈ ws, y ∈ C) → Q (.ref t) H'
abbrev nAw : List Str := ["_law_pot_here", "_law_calls", "_law_most", "_law_lap"]
theorem scAWalk : FnScope nAw ["_law_pot_here", "_law_calls", "_law_most"] (defScope sAWalk) := ⟨rfl, rfl, rfl, by decide +kernel, rfl, by decide +kernel, by decide +kernel⟩
theorem ok_awalk {f g1 g2 : Addr} {fd gd1 gd2 : FuncData} (F : Fun K "_law_a_walk" "_law_a_walk" sAWalk f fd) (T : Bltn mg)
    (GT : FnOk P w K mg base CX0 1 g1 gd1 ["_law_pot_here", "_law_upto"] spTake) (mT : mg "_law_take" = some (.ref g1)) (kT_ : PySem.W.keepIn K (.ref g1) = true) (bT : Binds K gd1 ["_law_pot_here", "_law_upto"] [])
    (GO : FnOk P w K mg base CX0 2 g2 gd2 ["_law_pot_here", "_law_some_here"] (spOf K)) (mO : mg "_law_of" = some (.ref g2)) (kO : PySem.W.keepIn K (.ref g2) = true) (bO : Binds K gd2 ["_law_pot_here", "_law_some_here"] []) :
    FnOk P w K mg base CX0 3 f fd ["_law_pot_here", "_law_calls", "_law_most"] (spAWalk K) := by
  refine F.ok scAWalk (fun vs H Q E h => ?_) (fun cdv A0 outer st H vs Q E hr h => ?_)
  · obtain ⟨p, l, m, b, C, rfl, _⟩ := h
    rfl
  obtain ⟨p, l, m, b, C, rfl, hp, hb, hm, hl, nlp, c0, c1, q⟩ := h
  have r1 : Room 1 _ := hr.mono (by decide)
  refine' ⟨_, pss_one (ps_ret (pe_callTy call_tuple_of rfl T.tuple (by decide +kernel) (pa_cons (pe_lc (te := tCall (spOf K) [] E0 (tCons (tVar 0) (tCons (tVar 1) tNil))) (own := [("_law_lap", 3)]) (g := gName 3) (tt := tYes) rfl scAWalk.nd (pi_range1 rfl T.range (pa_cons (pe_call GT r1 rfl mT kT_ bT .nil pass0 (pa_cons (pv 0) (pa_cons (pe_op op_add (pv 2) pe_int) pa_nil))) pa_nil))
      (blkOk_by (own := [("_law_lap", 3)]) (N := nAw) (sc := defScope sAWalk) (by decide +kernel)) (fun _ _ _ _ _ => pg_name (i := 3) scAWalk.nd rfl (Or.inl rfl)) (fun _ _ _ _ _ => pts_nil)
      (fun _ _ _ _ _ => by exact pe_call GO hr rfl mO kO bO .nil pass0 (pa_cons (pv 0) (pa_cons (pv 1) pa_nil)))) pa_nil))), ?main⟩
  case main =>
    refine ⟨_, rfl, _, rfl, _, _, rfl, rfl, p, _, b, rfl, hp, by omega, by omega, by omega, fun k H1 k0 k1 but pot => ⟨k, rfl, by omega, by omega, fun D nD => ?_⟩⟩
    have npD : D ≠ p := fun z => by
      obtain ⟨own, sm, n, e, _⟩ := pot
      rw [z, e] at nD
      cases nD
    have nDH : H D = none := by
      cases e : H D with
      | none => rfl
      | some o => rw [but _ _ e npD] at nD; cases nD
    have kn : k.toNat ≤ m := by omega
    refine lc_it (walk_range (lo := 0)) (D := D) (g := gName 3) (tt := tYes) (te := tCall (spOf K) [] E0 (tCons (tVar 0) (tCons (tVar 1) tNil))) (vs := [3]) (fun i G => ∃ ws : List Str, But p H G ∧ PotAt G p (b + 1 + i) ∧ G D = some (.lst (ws.map V.str)) ∧ ws.length = i ∧ ∀ y ∈ ws, y ∈ C)
      ⟨[], but.trans (But.of (same_new nD _)), pot.same (same_new nD _), upd_same, rfl, fun _ h => nomatch h⟩ (fun _ _ _ _ => trivial) ?_ ?_
    · rintro i y G4 G5 hi ⟨ws, b4, p4, d4, l4, m4⟩ ⟨rfl, rfl⟩
      refine ⟨rfl, ?_⟩
      refine ⟨_, rfl, _, rfl, p, l, C.map V.str, _, rfl, p4, by omega, But.seq b4 nlp hl, by rw [List.length_map]; exact c0, by rw [List.length_map]; exact c1, nlp, fun x G6 hx b6 p6 => ?_⟩
      obtain ⟨c, hc, rfl⟩ := List.mem_map.mp hx
      have d6 := b6 _ _ d4 npD
      refine ⟨_, d6, by rw [List.length_map, sizeLine_eq]; omega, ws ++ [c], ?_, ?_, ?_, ?_, ?_⟩
      · intro c' o hc' ne
        rw [upd_ne (ne_of_none hc' nDH)]
        exact b6 _ _ (b4 _ _ hc' ne) ne
      · obtain ⟨own, sm, n, e, r⟩ := p6
        exact ⟨own, sm, n, by rw [upd_ne npD.symm]; exact e, r⟩
      · rw [upd_same, List.map_append]
        rfl
      · rw [List.length_append, l4]
        rfl
      · intro y hy
        rcases List.mem_append.mp hy with h | h
        · exact m4 y h
        · rw [List.mem_singleton.mp h]
          exact hc
    · rintro G4 ⟨ws, b4, p4, d4, l4, m4⟩
      refine ⟨D, _, rfl, .inl ⟨SqL.of d4, fun t nt => ?_⟩⟩
      have ntp : t ≠ p := fun z => by
        obtain ⟨own, sm, n, e, _⟩ := p4
        rw [z, e] at nt
        cases nt
      have ntH : H t = none := by
        cases e : H t with
        | none => rfl
        | some o => rw [b4 _ _ e ntp] at nt; cases nt
      exact q t ws _ _ (b4.trans (But.of (same_new nt _))) (p4.same (same_new nt _)) (by omega) ntH ntp upd_same (by omega) m4
end
end K03
set_option Elab.async false
set_option linter.all false
set_option maxRecDepth 100000
set_option maxHeartbeats 8000000
namespace LG
open PySem L2
theorem eqv_two (a b c d : Str) : PyData.eqv (.tuple [.str a, .str b]) (.tuple [.str c, .str d]) = decide ((a, b) = (c, d)) := by
  show (a == c && (b == d && true)) = _
  rw [Bool.and_true]
  by_cases h : (a, b) = (c, d)
  · obtain ⟨rfl, rfl⟩ := Prod.mk.inj h
    simp
  · rw [decide_eq_false h]
    by_cases h1 : a = c
    · have h2 : ¬ b = d := fun z => h (by rw [h1, z])
      simp [h2]
    · simp [h1]
theorem row_words {D : Dev} (d : Drawn D) {k : Str × Str} (h : k ∈ D.goals.map (·.1)) : Txt.split (rowOf D k) sp1 = [("row" : Str), k.1, k.2, (rowX D k).1, (rowX D k).2] := words_join (by simp) fun t ht => by
  rcases List.mem_cons.mp ht with rfl | ht
  · exact w32.2.2.2
  · exact no_sign (d.row_names h t ht) sign32
theorem name_asc3 {x : Str} (h : isNameB x = true) : ∀ c ∈ TL.tl x, c < 128 := by
  intro c hc
  have hs := name_signs h c hc
  rw [Bool.or_eq_true] at hs
  have all : (LET.cps.toList ++ FIG.cps.toList).all (fun d => decide (d < 128)) = true := by decide +kernel
  have hm : c ∈ LET.cps.toList ++ FIG.cps.toList := by
    rcases hs with h | h
    · exact List.mem_append_left _ (of_decide_eq_true h)
    · exact List.mem_append_right _ (of_decide_eq_true h)
  exact of_decide_eq_true (List.all_eq_true.mp all c hm)
theorem name_lay {x : Str} (h : isNameB x = true) : PyData.canLay0 (.str x) = true := by
  simp only [PyData.canLay0]
  show (x.cps.all fun c => decide (c < 0x110000)) = true
  rw [Array.all_eq_true']
  intro c hc
  exact decide_eq_true (Nat.lt_trans (name_asc3 h c (by simpa [TL.tl] using hc)) (by decide))
theorem two_shaped {a b : Str} (h1 : isNameB a = true) (h2 : isNameB b = true) : SeqAt.shaped (.tuple [.str a, .str b]) = true := by
  have e1 := name_lay h1
  have e2 := name_lay h2
  have c : PyData.canLay0 (.tuple [.str a, .str b]) = true := by
    simp only [PyData.canLay0, PyData.canLayAll0] at e1 e2 ⊢
    rw [e1, e2]
    rfl
  unfold SeqAt.shaped
  rw [c]
  rfl
theorem Dp_two {K : PySem.W.Frag} {H : Hp} {t : Addr} {a b : Str} (h : SqT K H t [.str a, .str b]) : Dp K H (.ref t) (.tuple [.str a, .str b]) := .tup h (.cons (.str a) (.cons (.str b) .nil))
theorem tur_rowOf {D : Dev} {k0 f k : Str × Str} (km : k ∈ D.goals.map (·.1)) : rowOf (turD D k0 f) k = if k = k0 then Txt.join sp1 ["row", k.1, k.2, f.1, f.2] else rowOf D k := by
  unfold rowOf
  rw [tur_row km]
  by_cases e : k = k0
  · rw [if_pos e, if_pos e]
  · rw [if_neg e, if_neg e]
end LG
namespace K03
open PySem L2 LG
section
variable {P : Program} {w : World} {K : PySem.W.Frag} {mg : Str → Option Value} {base : Heap}
/-! ### the law's own turning of a row -/
def spTurnedL (K : PySem.W.Frag) : Sp := fun vs H Q _ => ∃ (l tk tf : Addr) (D : Dev) (ks : List (Str × Str)) (k0 f0 : Str × Str), vs = [.ref l, .ref tk, .ref tf] ∧ SqL K H l ((ks.map (rowOf D)).map V.str) ∧ LG.Drawn D ∧ (∀ k ∈ ks, k ∈ D.goals.map (·.1)) ∧ ks.length ≤ 12 ∧
  k0 ∈ D.goals.map (·.1) ∧ SqT K H tk [.str k0.1, .str k0.2] ∧ SqT K H tf [.str f0.1, .str f0.2] ∧ f0.1.length ≤ 8 ∧ f0.2.length ≤ 8 ∧
  ∀ (r : Addr) (H' : Hp), Same H H' → H r = none → H' r = some (.lst ((ks.map (rowOf (turD D k0 f0))).map V.str)) → Q (.ref r) H'
abbrev nTl : List Str := ["_law_lines_here", "_law_key", "_law_fresh", "_law_found", "_law_line", "_law_words", "_law_is_it"]
theorem scTurnedL : FnScope nTl ["_law_lines_here", "_law_key", "_law_fresh"] (defScope sTurnedL) := ⟨rfl, rfl, rfl, by decide +kernel, rfl, by decide +kernel, by decide +kernel⟩
theorem ok_turnedl {f : Addr} {fd : FuncData} (F : Fun K "_law_turned_lines" "_law_turned_lines" sTurnedL f fd) (T : Bltn mg) : FnOk P w K mg base CX0 1 f fd ["_law_lines_here", "_law_key", "_law_fresh"] (spTurnedL K) := by
  refine F.ok scTurnedL (fun vs H Q E h => ?_) (fun cdv A0 outer st H vs Q E hr h => ?_)
  · obtain ⟨l, tk, tf, D, ks, k0, f0, rfl, _⟩ := h
    rfl
  obtain ⟨l, tk, tf, D, ks, k0, f0, rfl, hl, dr, mem, len12, k0m, htk, htf, lf1, lf2, q⟩ := h
  have hu := hu_of hr
  refine' ⟨_, pss_cons (ps_set (i := 3) scTurnedL.nd rfl (Or.inl rfl) (pe_lst pa_nil))
    (pss_cons (ps_for PassesOwn.never rfl (pi_list (pv 0)) (pg_name (i := 4) scTurnedL.nd rfl (Or.inl rfl))
      (pss_cons (ps_set (i := 5) scTurnedL.nd rfl (Or.inl rfl) (pe_split (pv 4) pe_str))
      (pss_cons (ps_set (i := 6) scTurnedL.nd rfl (Or.inl rfl) (pe_and (pe_cmpR op_eq (pe_ix ix_list (pv 5) pe_int (fun _ _ => rfl)) pe_str (nomark _)) (pe_and (pe_cmpR (op_eqD hr.units) (pe_tup (pa_cons (pe_ix ix_list (pv 5) pe_int (fun _ _ => rfl)) (pa_cons (pe_ix ix_list (pv 5) pe_int (fun _ _ => rfl)) pa_nil))) (pv 1) (by rfl))
          (pe_one (pe_cmpR op_eq (pe_callB call_len_seq rfl T.len PySem.boot_len (pa_cons (pv 5) pa_nil)) pe_int (nomark _))))))
      (pss_one (ps_expr (pe_bm PySem.F.plainAttrs_list PySem.F.slot_list_append PySem.F.type_list_append mt_append (pv 3) (pa_cons (pe_ifExp (pt_val (pv 6)) (pe_join pe_str (pe_op op_catT (pe_op op_catT (pe_tup (pa_cons pe_str pa_nil)) (pv 1)) (pv 2))) (pv 4)) pa_nil)))))))
    (pss_one (ps_ret (pv 3)))), ?main⟩
  case main =>
    refine ⟨(by show 0 ≤ sizeLine; decide), fun al nal => ?_⟩
    have u1 := same_new nal (.lst [])
    have hal : (upd H al (.lst [])) al = some (.lst []) := upd_same
    have nalH : H al = none := nal
    show _
    generalize upd H al (.lst []) = G1 at hal u1 ⊢
    refine ⟨_, rfl, l, rfl, ⟨_, u1.seq hl⟩, ?_⟩
    refine for_it walk_list (fun i σ G4 => ∃ x4 x5 x6, σ = [some (.ref l), some (.ref tk), some (.ref tf), some (.ref al), x4, x5, x6] ∧ Same H G4 ∧ G4 al = some (.lst (((ks.take i).map (rowOf (turD D k0 f0))).map V.str)))
      ⟨_, _, _, rfl, u1, hal⟩ (fun i σ G4 _ ⟨_, _, _, _, s4, _⟩ => s4.seq hl) ?_ ?_
    · rintro i y σ G4 G5 hi ⟨x4, x5, x6, rfl, s4, h4⟩ ⟨rfl, hy⟩
      rw [List.length_map, List.length_map] at hi
      rw [List.getElem?_map, List.getElem?_map, List.getElem?_eq_getElem hi] at hy
      have ey : y = .str (rowOf D ks[i]) := (Option.some.inj hy).symm
      subst ey
      have km := mem _ (List.getElem_mem hi)
      have et : ks.take (i + 1) = ks.take i ++ [ks[i]] := by rw [List.take_add_one, List.getElem?_eq_getElem hi]; rfl
      obtain ⟨l45, l8⟩ := dr.row_len km
      have kn := dr.row_names km
      have k0n := dr.row_names k0m
      have rw5 := row_words dr km
      have tr := tur_rowOf (k0 := k0) (f := f0) km
      have lt : (ks.take i).length ≤ 12 := by
        rw [List.length_take]
        omega
      refine ⟨_, rfl, ⟨_, rfl⟩, _, sp1, rfl, rfl, (by decide +kernel), by rw [sizeLine_eq]; omega, fun lw nlw => ?_⟩
      rw [rw5]
      have fin : ∀ z G6, Same G5 G6 → z = rowOf (turD D k0 f0) ks[i] → Same H (upd G6 al (.lst (((ks.take i).map (rowOf (turD D k0 f0))).map V.str ++ [V.str z]))) ∧ (upd G6 al (.lst (((ks.take i).map (rowOf (turD D k0 f0))).map V.str ++ [V.str z]))) al = some (.lst (((ks.take (i + 1)).map (rowOf (turD D k0 f0))).map V.str)) := by
        rintro z G6 s6 rfl
        refine ⟨fun b o h => ?_, ?_⟩
        · rw [upd_ne (ne_of_none h nalH)]
          exact (s4.trans s6) _ _ h
        · rw [upd_same, et, List.map_append, List.map_append]
          rfl
      generalize ks[i] = k at km kn l45 l8 rw5 tr fin ⊢
      have u5 := same_new nlw (.lst ((["row", k.1, k.2, (rowX D k).1, (rowX D k).2] : List Str).map V.str))
      have hlw : (upd G5 lw (.lst ((["row", k.1, k.2, (rowX D k).1, (rowX D k).2] : List Str).map V.str))) lw = some (.lst ((["row", k.1, k.2, (rowX D k).1, (rowX D k).2] : List Str).map V.str)) := upd_same
      show _
      generalize upd G5 lw (.lst ((["row", k.1, k.2, (rowX D k).1, (rowX D k).2] : List Str).map V.str)) = G6 at u5 hlw ⊢
      have htk6 := same_tup (s4.trans u5) htk
      have htf6 := same_tup (s4.trans u5) htf
      have h46 := u5 _ _ h4
      refine ⟨_, rfl, lw, _, _, _, rfl, rfl, SqL.of hlw, atI_nat (j := 0) rfl, rfl, _, rfl, iteC (by simp) ?_⟩
      refine ⟨_, rfl, lw, _, _, _, rfl, rfl, SqL.of hlw, atI_nat (j := 1) rfl, _, rfl, lw, _, _, _, rfl, rfl, SqL.of hlw, atI_nat (j := 2) rfl, (by show 2 ≤ sizeLine; decide), fun t0 nt0 => ?_⟩
      have u6 := same_new nt0 (.tup [.str k.1, .str k.2])
      have ht0 : (upd G6 t0 (.tup [.str k.1, .str k.2])) t0 = some (.tup [.str k.1, .str k.2]) := upd_same
      show _
      generalize upd G6 t0 (.tup [.str k.1, .str k.2]) = G7 at u6 ht0 ⊢
      have htk7 := same_tup u6 htk6
      have htf7 := same_tup u6 htf6
      have h47 := u6 _ _ h46
      have hlw7 := u6 _ _ hlw
      have s57 := u5.trans u6
      refine ⟨_, rfl, _, _, Dp_two (.inl (.inl ht0)), Dp_two htk7, two_shaped (kn k.1 (by simp)) (kn k.2 (by simp)), two_shaped (k0n k0.1 (by simp)) (k0n k0.2 (by simp)), _, rfl, ?_⟩
      rw [eqv_two]
      by_cases e : k = k0
      · subst e
        rw [if_pos rfl] at tr
        refine iteC (by simp) ⟨_, rfl, lw, _, rfl, .inl (SqL.of hlw7), rfl, ?_⟩
        refine ⟨_, rfl, .inl ⟨rfl, _, SqL.of h47⟩, _, rfl, _, rfl, iteC (by simp) ?_⟩
        refine ⟨⟨_, rfl⟩, (by show 1 ≤ sizeLine; decide), fun t1 nt1 => ?_⟩
        have u7 := same_new nt1 (.tup [.str "row"])
        have ht1 : (upd G7 t1 (.tup [.str "row"])) t1 = some (.tup [.str "row"]) := upd_same
        show _
        generalize upd G7 t1 (.tup [.str "row"]) = G8 at u7 ht1 ⊢
        refine ⟨_, rfl, t1, tk, [.str "row"], [.str k.1, .str k.2], rfl, rfl, .inl (.inl ht1), same_tup u7 htk7, by simp, (by show 3 ≤ sizeLine; decide), fun e => absurd e (by simp), fun _ t2 nt2 => ?_⟩
        have u8 := same_new nt2 (.tup ([.str "row"] ++ [.str k.1, .str k.2]))
        have ht2 : (upd G8 t2 (.tup ([.str "row"] ++ [.str k.1, .str k.2]))) t2 = some (.tup [.str "row", .str k.1, .str k.2]) := upd_same
        show _
        generalize upd G8 t2 (.tup ([.str "row"] ++ [.str k.1, .str k.2])) = G9 at u8 ht2 ⊢
        refine ⟨_, rfl, t2, tf, [.str "row", .str k.1, .str k.2], [.str f0.1, .str f0.2], rfl, rfl, .inl (.inl ht2), same_tup (u7.trans u8) htf7, by simp, (by show 5 ≤ sizeLine; decide), fun e => absurd e (by simp), fun _ t3 nt3 => ?_⟩
        have u9 := same_new nt3 (.tup ([.str "row", .str k.1, .str k.2] ++ [.str f0.1, .str f0.2]))
        have h49 := (u7.trans u8) _ _ h47
        refine ⟨sp1, t3, ["row", k.1, k.2, f0.1, f0.2], rfl, rfl, .inr (.inl (.inl upd_same)), ?_, al, _, _, rfl, rfl, u9 _ _ h49, by rw [List.length_map, List.length_map, sizeLine_eq]; omega, ?_⟩
        · have l1 := l8 k.1 (by simp)
          have l2 := l8 k.2 (by simp)
          rw [sp1_1]
          simp only [List.map_cons, List.map_nil, List.sum_cons, List.sum_nil, List.length_cons, List.length_nil]
          have l0 : ("row" : Str).length = 3 := by decide +kernel
          rw [l0]
          omega
        · exact ⟨_, _, _, rfl, fin _ _ (((s57.trans u7).trans u8).trans u9) tr.symm⟩
      · rw [if_neg e] at tr
        refine iteN (decide_eq_false fun z => e (Prod.ext (Prod.mk.inj z).1 (Prod.mk.inj z).2)) ?_
        refine ⟨_, rfl, .inl ⟨rfl, _, SqL.of h47⟩, _, rfl, _, rfl, iteF ⟨_, rfl, al, _, _, rfl, rfl, h47, by rw [List.length_map, List.length_map, sizeLine_eq]; omega, ?_⟩⟩
        exact ⟨_, _, _, rfl, fin _ _ s57 tr.symm⟩
    · rintro σ G4 ⟨x4, x5, x6, rfl, s4, h4⟩
      rw [List.length_map, List.length_map, List.take_length] at h4
      exact ⟨_, rfl, q al G4 s4 nalH h4⟩
end
end K03
set_option Elab.async false
set_option linter.all false
set_option maxRecDepth 100000
set_option maxHeartbeats 4000000
namespace LG
open PySem L2 LamX
/-- one look by told: an error of these is caught, with its value; or nothing is raised -/
theorem told_gen {K : PySem.W.Frag} {B : Addr} {T : List (Addr × Str)} {H : Hp} {Q : VK} {tl : XK → Hp → VK → Prop} (Bad : Addr → V → Prop) (Good : Prop) (box : ∀ C y, Bad C y → PySem.W.exmOne K (.ref C) (.ref B) = some true) (hT : Tabs T H)
    (run : ∀ (G : Hp) (E : XK) (R : VK), ExtN H G → (∀ C y d G', Bad C y → Same G G' → G' d = none → E (.ref C) (some d) (upd G' d (.xd (vf y)))) → (Good → ∀ v G', Same G G' → R v G') → tl E G R)
    (qb : ∀ (C : Addr) (y v : V) (p : Addr) (G : Hp), Bad C y → ExtN H G → Tabs T G → Caught G C v y → G p = some (.tup [v, .non]) → Q (.ref p) G)
    (qg : ∀ (v : V) (p : Addr) (G : Hp), Good → ExtN H G → Tabs T G → G p = some (.tup [.non, v]) → Q (.ref p) G) :
    Tabs T H ∧ ∀ H1, ExtN H H1 → Tabs T H1 → TTk K B tl H1 Q := by
  refine ⟨hT, fun H1 e1 T1 H2 E R s2 he hr => ?_⟩
  have e2 : ExtN H H2 := e1.trans (ExtN.of s2)
  have T2 : Tabs T H2 := T1.ext s2
  refine run H2 E R e2 (fun C y d G' bad sG nd => ?_) fun good v G' sG => ?_
  · have s3 := same_new nd (.xd (vf y))
    have hd : (upd G' d (.xd (vf y))) d = some (.xd (vf y)) := upd_same
    refine he _ _ _ (box C y bad) fun a na p np => ?_
    have s4 := same_new na (exq a (.ref C) (some d))
    have s5 := same_new np (.tup [.ref a, V.non])
    have s35 := ((sG.trans s3).trans s4).trans s5
    exact qb C y (.ref a) p _ bad (e2.trans (ExtN.of s35)) (T2.ext s35) ⟨a, d, rfl, s5 _ _ upd_same, (s4.trans s5) _ _ hd⟩ upd_same
  · refine hr _ _ fun p np => ?_
    have s5 := same_new np (.tup [V.non, v])
    exact qg v p _ good (e2.trans (ExtN.of (sG.trans s5))) (T2.ext (sG.trans s5)) upd_same
end LG
set_option Elab.async false
set_option linter.all false
set_option maxRecDepth 100000
set_option maxHeartbeats 4000000
/-! dict(pairs), the keys tuples. -/
namespace LG
open PySem PySem.Spec PyProof.Rows L2
def mergeT (xs ps : List (List L2.Key × V)) : List (List L2.Key × V) := ps.foldl (fun acc p => putK acc p.1 p.2) xs
theorem KT_merge {H : Hp} {ps : List (List L2.Key × V)} {qs : List (List L2.Key × Addr × Value)} (h : KT H ps qs) : ∀ {kvs : List (List L2.Key × V)} {xs : List (List L2.Key × Addr × Value)}, KT H kvs xs → KT H (mergeT kvs ps) (storedAllH xs qs) := by
  induction h with
  | nil => exact fun r => r
  | @cons p q ps qs hq t ih =>
    intro kvs xs r
    obtain ⟨k, b, u⟩ := q
    obtain ⟨e, hb, ry⟩ := hq
    have e : p.1 = k := e
    have := ih (r.put p.1 (b := b) (y := p.2) (u := u) hb ry)
    rw [e] at this
    show KT H (mergeT (putK kvs p.1 p.2) ps) (storedAllH (storedH xs k b u) qs)
    rw [e]
    exact this
section
variable {X : Cx}
theorem pairsT_of {pins : List (Addr × Obj)} {σ : L2.St} {H : Hp} {s : Shared} (I : Inv X pins σ H s) : ∀ {ps : List Addr} {kvs : List (List L2.Key × V)}, Paired (fun (p : Addr) (kv : List L2.Key × V) => ∃ b, SqT X.K H p [.ref b, kv.2] ∧ H b = some (.tup (kv.1.map kV))) ps kvs →
    ∃ qs : List (List L2.Key × Addr × Value), KT H kvs qs ∧ qs.length = ps.length ∧ ∀ (j : Nat) (q : List L2.Key × Addr × Value), qs[j]? = some q → ∃ p : Addr, ps[j]? = some p ∧ IsTup s.heap p #[.ref q.2.1, q.2.2]
  | _, _, .nil => ⟨[], .nil, rfl, fun j q e => by simp at e⟩
  | _, _, .cons (a := p) (b := kv) ⟨b, h, hb⟩ t => by
    obtain ⟨qs, r, hl, hp⟩ := pairsT_of I t
    obtain ⟨its, rv, ht, _⟩ := I.tuple h
    obtain ⟨u, y, ei, ru, ry⟩ := vals2 rv
    subst ei
    have eu : u = Value.ref b := ru
    subst eu
    refine ⟨(kv.1, b, y) :: qs, .cons ⟨rfl, hb, ry⟩ r, by rw [List.length_cons, List.length_cons, hl], fun j q e => ?_⟩
    cases j with
    | zero =>
      have e' : (kv.1, b, y) = q := Option.some.inj e
      subst e'
      exact ⟨p, rfl, ht⟩
    | succ j =>
      obtain ⟨p', e1, e2⟩ := hp j q (by simpa using e)
      exact ⟨p', by simpa using e1, e2⟩
/-- dict(xs) of a list of pairs (a tuple of ints and texts, a value): later pairs win, the place is the first one's -/
theorem call_dictT (hcalm : X.calm = true) (hu : X.A.units + 64 < cLine) : CallR X (.type "dict") (fun xs H Q => ∃ (a : Addr) (ps : List Addr) (kvs : List (List L2.Key × V)), xs = [.ref a] ∧ SqL X.K H a (ps.map V.ref) ∧ Paired (fun (p : Addr) (kv : List L2.Key × V) => ∃ b, SqT X.K H p [.ref b, kv.2] ∧ H b = some (.tup (kv.1.map kV))) ps kvs ∧
    ∀ p, H p = none → Q (.ref p) (upd H p (.dT (mergeT [] kvs)))) := by
  intro pins s σ H xs us Q I r q
  obtain ⟨a, ps, kvs, ex, hq, hp, q⟩ := q
  subst ex
  obtain ⟨u, eu, rx⟩ := vals1 r
  subst eu
  cases rx
  obtain ⟨its, rv, pl, hz⟩ := I.list hq
  have ei := refs_at rv
  subst ei
  rw [List.length_map] at hz
  obtain ⟨qs, rel, hl, hpr⟩ := pairsT_of I hp
  obtain ⟨o, n, ho, hc, hd, hdat⟩ := pl
  have keys : ∀ h' : Heap, (∀ b o, s.heap.get? b = some o → h'.get? b = some o) → ∀ {l : List (List L2.Key × V)} {m : List (List L2.Key × Addr × Value)}, KT H l m → ∀ x ∈ m, (tupleKind (mixKind X.prog X.w)).is h' x.1 x.2.1 := by
    intro h' k l m r
    induction r with
    | nil => intro x hx; exact nomatch hx
    | @cons p q ps qs hq t ih =>
      intro x hx
      rcases List.mem_cons.mp hx with e | hx
      · subst e
        exact key_of (I.hok.kept k) (by rw [← hq.1]; exact hq.2.1)
      · exact ih x hx
  refine PySem.call_dict_pairsH (knd := tupleKind (mixKind X.prog X.w)) (ps := qs) (PairArg.list a (ps.map Value.ref).toArray (fun j => ps.getD j 0) (qs.map fun q => (.ref q.2.1, q.2.2))) (I.ok.hd hcalm) ?_ ?_ ?_ ?_ ?_ fun h' tk hd' k => ?_
  · show X.A.in1.in1.units < cLine
    have : X.A.in1.in1.units = X.A.units + 2 := rfl
    omega
  · refine ⟨⟨o, n, ho, hc, hd, hdat⟩, by simp [hl], fun j key v e => ?_⟩
    rw [List.getElem?_map] at e
    cases eq_ : qs[j]? with
    | none => rw [eq_] at e; cases e
    | some q0 =>
      rw [eq_] at e
      obtain ⟨rfl, rfl⟩ := Prod.mk.inj (Option.some.inj e)
      obtain ⟨p, e1, e2⟩ := hpr j q0 eq_
      have eg : ps.getD j 0 = p := by rw [List.getD_eq_getElem?_getD, e1]; rfl
      refine ⟨?_, .inl ?_⟩
      · show (ps.map Value.ref).toArray[j]? = some (Value.ref (ps.getD j 0))
        rw [eg]
        simp [e1]
      · show s.heap.IsTuple (ps.getD j 0) _
        rw [eg]
        exact e2
  · refine ⟨by simp, fun i key v e => ?_⟩
    have e : (qs.map fun q => (Value.ref q.2.1, q.2.2))[i]? = some (key, v) := e
    rw [List.getElem?_map] at e
    cases eq_ : qs[i]? with
    | none => rw [eq_] at e; cases e
    | some q0 =>
      rw [eq_] at e
      obtain ⟨rfl, rfl⟩ := Prod.mk.inj (Option.some.inj e)
      exact ⟨_, _, rfl, rfl⟩
  · intro h' k x hx
    exact keys h' (fun b o e => k b o (Nat.ne_of_lt (Heap.lt_size e)) (by simp) e) rel x hx
  · rw [List.length_map, hl]
    exact hz
  · have hm : (s.heap.objs.size == sysModules) = false := beq_eq_false_iff_ne.mpr (Nat.ne_of_gt I.big)
    have nS : H s.heap.objs.size = none := I.hok.fresh (Nat.le_refl _)
    have rel2 : KT H (mergeT [] kvs) (storedAllH [] qs) := KT_merge rel .nil
    have hlen : (mergeT [] kvs).length ≤ sizeLine := by
      have h1 := rel2.length
      have h2 := storedAllH_length qs []
      simp only [List.length_nil, Nat.zero_add] at h2
      omega
    obtain ⟨o', es, ep, h1, h2, h3, h4, h5, h6⟩ := hd'
    refine ⟨.ref s.heap.objs.size, upd H s.heap.objs.size (.dT (mergeT [] kvs)), I.laid (t' := tk) (fun b u e => k b u (by simp) e) (Nat.le_refl _) (show ObjOk X.prog X.w _ _ _ (.dT (mergeT [] kvs)) from ⟨hlen, hm, storedAllH [] qs, rel2.keeps fun b ys e => by rw [upd_ne (ne_of_none e nS)]; exact e, o', es, ep, h1, h2, h3, h4, h6⟩), rfl, q _ nS⟩
end
end LG
set_option Elab.async false
set_option linter.all false
set_option maxRecDepth 100000
set_option maxHeartbeats 4000000
/-! list(d.items()), the keys tuples. -/
namespace LG
open PySem PySem.Spec PyProof.Rows L2
/-- the pairs tracked at their addresses -/
def putP : Hp → List Addr → List (Addr × V) → Hp
  | H, a :: as, p :: ps => putP (upd H a (.tup [.ref p.1, p.2])) as ps
  | H, _, _ => H
theorem putP_off {b : Addr} : ∀ (as : List Addr) (ps : List (Addr × V)) (H : Hp), b ∉ as → putP H as ps b = H b
  | [], _, _, _ => rfl
  | _ :: _, [], _, _ => rfl
  | a :: as, p :: ps, H, h => by
    show putP (upd H a (.tup [.ref p.1, p.2])) as ps b = H b
    rw [putP_off as ps _ (fun z => h (List.mem_cons_of_mem _ z)), upd_ne (fun z => h (by rw [z]; exact List.mem_cons_self))]
theorem putP_at : ∀ (as : List Addr) (ps : List (Addr × V)) (H : Hp), as.length = ps.length → as.Nodup → Paired (fun (t : Addr) (p : Addr × V) => putP H as ps t = some (.tup [.ref p.1, p.2])) as ps
  | [], [], _, _, _ => .nil
  | [], _ :: _, _, h, _ => by cases h
  | _ :: _, [], _, h, _ => by cases h
  | a :: as, p :: ps, H, h, hn => by
    have hn' := List.nodup_cons.mp hn
    have ih := putP_at as ps (upd H a (.tup [.ref p.1, p.2])) (Nat.succ.inj h) hn'.2
    refine .cons ?_ ih
    show putP (upd H a (.tup [.ref p.1, p.2])) as ps a = some (.tup [.ref p.1, p.2])
    rw [putP_off as ps _ hn'.1, upd_same]
theorem kt_prs {H : Hp} {kvs : List (List L2.Key × V)} {xs : List (List L2.Key × Addr × Value)} (h : KT H kvs xs) : ∃ ps : List (Addr × V), ps.length = xs.length ∧ Paired (fun (p : Addr × V) (kv : List L2.Key × V) => p.2 = kv.2 ∧ H p.1 = some (.tup (kv.1.map kV))) ps kvs ∧
    ∀ (j : Nat) (p : Addr × V), ps[j]? = some p → ∃ x : List L2.Key × Addr × Value, xs[j]? = some x ∧ x.2.1 = p.1 ∧ RelV p.2 x.2.2 := by
  induction h with
  | nil => exact ⟨[], rfl, .nil, fun j p e => by simp at e⟩
  | @cons kv x kvs xs hq t ih =>
    obtain ⟨ps, h1, h2, h3⟩ := ih
    obtain ⟨e1, e2, e3⟩ := hq
    refine ⟨(x.2.1, kv.2) :: ps, by rw [List.length_cons, List.length_cons, h1], .cons ⟨rfl, e2⟩ h2, fun j p e => ?_⟩
    cases j with
    | zero =>
      have e' : (x.2.1, kv.2) = p := Option.some.inj e
      subst e'
      exact ⟨x, rfl, rfl, e3⟩
    | succ j =>
      obtain ⟨y, g1, g2⟩ := h3 j p (by simpa using e)
      exact ⟨y, by simpa using g1, g2⟩
theorem paired_map {α β γ : Type} {F : α → β → Prop} {G : β → γ → Prop} {K : α → γ → Prop} (k : ∀ a b c, F a b → G b c → K a c) : ∀ {as : List α} {bs : List β} {cs : List γ}, Paired F as bs → Paired G bs cs → Paired K as cs
  | _, _, _, .nil, .nil => .nil
  | _, _, _, .cons h1 t1, .cons h2 t2 => .cons (k _ _ _ h1 h2) (paired_map k t1 t2)
section
variable {X : Cx} {pins : List (Addr × Obj)} {σ : L2.St} {H : Hp} {s : Shared}
theorem itemsT_laid {h' : Heap} {tk : Nat} {ps : List (Addr × V)} {es : Array DictEntry} {acc : Array Value} {c : Nat} {as : List Addr} (I : Inv X pins σ H s) (hz : ps.length ≤ sizeLine) (hps : ps.length = es.size) (hp : ∀ (j : Nat) (p : Addr × V), ps[j]? = some p → ∃ e : DictEntry, es[j]? = some e ∧ e.key = .ref p.1 ∧ RelV p.2 e.val)
    (hk : ∀ b o, s.heap.get? b = some o → h'.get? b = some o) (hS : h'.get? s.heap.objs.size = some { cls := .type "list", dict := none, data := .seq acc c, slots := #[] }) (hl : as.length = es.size) (hG : PySem.W.DilG es s.heap.objs.size h' as) (hacc : acc.toList = as.map Value.ref) :
    ∃ H' : Hp, (∀ b o, H b = some o → H' b = some o) ∧ H s.heap.objs.size = none ∧ (∀ t ∈ as, H t = none) ∧ s.heap.objs.size ∉ as ∧ H' s.heap.objs.size = some (.lst (as.map V.ref)) ∧ Paired (fun (t : Addr) (p : Addr × V) => H' t = some (.tup [.ref p.1, p.2])) as ps ∧ Inv X pins σ H' { s with heap := h', toks := tk } := by
  have hSn : s.heap.objs.size ∉ as := fun z => Nat.lt_irrefl _ (hG.above _ z)
  have nd : as.Nodup := List.Pairwise.imp (fun {a b} (h : a < b) => Nat.ne_of_lt h) hG.rise
  have new : ∀ t ∈ as, H t = none := fun t ht => I.hok.fresh (Nat.le_of_lt (hG.above t ht))
  have newS : H s.heap.objs.size = none := I.hok.fresh (Nat.le_refl _)
  have atP := putP_at as ps (upd H s.heap.objs.size (.lst (as.map V.ref))) (by omega) nd
  have off : ∀ b, b ∉ as → b ≠ s.heap.objs.size → putP (upd H s.heap.objs.size (.lst (as.map V.ref))) as ps b = H b := fun b h1 h2 => by rw [putP_off as ps _ h1, upd_ne h2]
  have low : ∀ b o, s.heap.get? b = some o → b ∉ as ∧ b ≠ s.heap.objs.size := fun b o e => ⟨fun z => absurd (Heap.lt_size e) (Nat.not_lt.mpr (Nat.le_of_lt (hG.above b z))), Nat.ne_of_lt (Heap.lt_size e)⟩
  have kp : ∀ b u, H b = some u → (putP (upd H s.heap.objs.size (.lst (as.map V.ref))) as ps) b = some u := fun b u e => by
    rw [off b (fun z => by rw [new b z] at e; cases e) (fun z => by rw [z, newS] at e; cases e)]
    exact e
  have eS : putP (upd H s.heap.objs.size (.lst (as.map V.ref))) as ps s.heap.objs.size = some (.lst (as.map V.ref)) := by rw [putP_off as ps _ hSn, upd_same]
  refine ⟨putP (upd H s.heap.objs.size (.lst (as.map V.ref))) as ps, kp, newS, new, hSn, eS, atP, ?_⟩
  refine I.call' (ch := []) rfl ⟨fun b o q _ _ _ => hk b o q, fun b o q _ _ _ => ⟨o.slots, hk b o q⟩, fun b o q n _ => ?_, fun b o q _ => ⟨o, hk b o q⟩, fun b xs q => kp b _ q, fun b o u q => kp b _ q, fun b ps q => ⟨#[], by rw [kp b _ q]; simp⟩⟩ (fun b u q => ?_) I.bare fun b z => by simp at z
  · obtain ⟨z1, z2⟩ := low b o q
    rw [off b z1 z2]
    exact n
  · by_cases hb : b ∈ as
    · obtain ⟨j, pk, e1, e2, e3⟩ := LiI.paired_ix atP hb
      rw [e3] at q
      cases q
      obtain ⟨hj, f3⟩ := hG.pairs j b e1
      obtain ⟨en, g1, g2, g3⟩ := hp j pk e2
      have ge : es[j] = en := by
        rw [Array.getElem?_eq_getElem hj] at g1
        exact Option.some.inj g1
      rw [ge] at f3
      exact ⟨by show 2 ≤ sizeLine; decide, [en.key, en.val], .cons g2 (.cons g3 .nil), ⟨_, f3, rfl, _, rfl⟩⟩
    · by_cases hb2 : b = s.heap.objs.size
      · rw [hb2] at q ⊢
        rw [eS] at q
        cases q
        refine ⟨by rw [List.length_map]; omega, acc.toList, c, by rw [hacc]; exact LiI.vals_refs as, ?_⟩
        rw [Array.toArray_toList]
        exact hS
      · rw [off b hb hb2] at q
        exact (I.hok b u q).stay (fun d v _ y => hk d v y) (fun d y => kp d _ y) fun d xs y => kp d _ y
theorem dt_both {d : Addr} {kvs : List (List L2.Key × V)} (I : Inv X pins σ H s) (h : H d = some (.dT kvs)) : kvs.length ≤ sizeLine ∧ (d == sysModules) = false ∧ ∃ (es : Array DictEntry) (ep : Nat) (ps : List (Addr × V)), s.heap.DictRaw d es ep ∧ ps.length = es.size ∧ ps.length = kvs.length ∧
    Paired (fun (p : Addr × V) (kv : List L2.Key × V) => p.2 = kv.2 ∧ H p.1 = some (.tup (kv.1.map kV))) ps kvs ∧ ∀ (j : Nat) (p : Addr × V), ps[j]? = some p → ∃ e : DictEntry, es[j]? = some e ∧ e.key = .ref p.1 ∧ RelV p.2 e.val := by
  obtain ⟨z, hs, xs, pr, o', es, ep, ho, hx, hdt, he, _⟩ := I.hok d _ h
  obtain ⟨ps, h1, h2, h3⟩ := kt_prs pr
  have l1 : es.size = xs.length := size_of_entries he
  have l2 : kvs.length = xs.length := Paired.length pr
  refine ⟨z, hs, es, ep, ps, ⟨o', ho, hx, hdt⟩, by omega, by omega, h2, fun j p e => ?_⟩
  obtain ⟨x, g1, g2, g3⟩ := h3 j p e
  have q := entry_at he j
  rw [g1] at q
  exact ⟨_, q, by show Value.ref x.2.1 = _; rw [g2], g3⟩
def tListItemsT (te : TE) : TE := fun σ H Q => te σ H fun x H1 => ∃ (d : Addr) (kvs : List (List L2.Key × V)), x = .ref d ∧ H1 d = some (.dT kvs) ∧
  ∀ (H' : Hp) (p : Addr) (ts : List Addr), (∀ b o, H1 b = some o → H' b = some o) → H1 p = none → (∀ t ∈ ts, H1 t = none) → p ∉ ts → H' p = some (.lst (ts.map V.ref)) →
    Paired (fun (t : Addr) (q : List L2.Key × V) => ∃ b, H' t = some (.tup [.ref b, q.2]) ∧ H' b = some (.tup (q.1.map kV))) ts kvs → Q (.ref p) H'
/-- list(e.items()) -/
theorem pe_listItemsT {e : Expr} {te : TE} {p apos cpos pos : Pos} (hc : X.calm = true) (he : PE X e te) (hg : Gl X "list") (hm : X.mg "list" = none) (hv : bootBuiltins "list" = some (.type "list")) (hbase : attributeBase e "items" X.env (eval e X.env) = eval e X.env := by rfl) (hline : (apos.endLine == cpos.line) = true := by rfl)
    (hs : starEach [.Call (.Attribute e "items" apos) [] [] cpos] X.env = (false, eval (.Call (.Attribute e "items" apos) [] [] cpos) X.env) :: starEach [] X.env := by rfl) :
    PE X (.Call (.Name "list" p) [.Call (.Attribute e "items" apos) [] [] cpos] [] pos) (tListItemsT te) := by
  refine ⟨fun pins s σ H Q I hq => ?_⟩
  refine wpAny_Call_Name_kw (ld_blt I hg hm hv ?_)
  refine PyProof.Rows.callWith_type1 ?_ hs rfl
  rw [hs]
  show wpAny _ _ (spliced ((false, eval (.Call (.Attribute e "items" apos) [] [] cpos) X.env) :: backTo pos (starEach [] X.env))) _ _ s
  refine Calls.spliced_cons ?_
  refine wpAny_Call_method (T := "dict") (id := "dict.items") hbase rfl hline F.plainAttrs_dict F.slot_dict_items F.type_dict_items (thn (he.run pins s σ H _ I hq) fun u s1 ⟨x, H1, I1, rx, d, kvs, ex, hd, q⟩ => ?_)
  subst ex
  have eu : u = Value.ref d := rx
  subst eu
  obtain ⟨hz, hs0, es, ep, ps, raw, l1, l2, pr, hp⟩ := dt_both I1 hd
  have there : ∃ ob, s1.heap.get? d = some ob ∧ ob.ExactDict := by
    obtain ⟨ob, h1, h2, _⟩ := raw
    exact ⟨ob, h1, h2⟩
  obtain ⟨ob, hob, hex⟩ := there
  have I2 : Inv X pins σ H1 { s1 with heap := s1.heap.push { cls := .type "dict_items", data := .fields #[.ref d] } } := I1.kept (t' := s1.toks) fun b ob q => Heap.get?_push_of_some _ q
  have raw2 : (s1.heap.push { cls := .type "dict_items", data := .fields #[.ref d] }).DictRaw d es ep := by
    obtain ⟨ob, h1, h2⟩ := raw
    exact ⟨ob, Heap.get?_push_of_some _ h1, h2⟩
  refine ⟨⟨ob, hob, hex.1⟩, fun a ea => ⟨ob, by cases ea; exact hob, hex.2.1⟩, ?_⟩
  show wpAny _ _ (callWith cpos (.builtin "dict.items") [.ref d] [] []) _ X.xe s1
  refine method_meetsIn F.slot_dict_items F.entry_dict_items rfl (PySem.evalArgs_none ⟨rfl, ⟨ob, hob, hex.1⟩, F.args_dict_items_1 _, _, meets_dict_items_raw d hs0, ⟨es, ep, raw⟩, ?_⟩)
  refine Calls.spliced_nil ?_
  refine PySem.W.dil_call (es := es) (ep := ep) (d := d) (I1.ok.hd hc) ⟨_, Heap.get?_push_size _ rfl, rfl, rfl⟩ raw2 (by omega) fun h' tk acc c as hk hS hl hG hacc => ?_
  obtain ⟨H', k1, k2, k3, k4, k5, k6, J⟩ := itemsT_laid (tk := tk) I2 (by omega) l1 hp hk hS hl hG hacc
  exact ⟨.ref _, H', J, rfl, q H' _ as k1 k2 k3 k4 k5 (paired_map (fun t p kv a b => ⟨p.1, by rw [← b.1]; exact a, k1 _ _ b.2⟩) k6 pr)⟩
end
end LG
set_option Elab.async false
set_option linter.all false
set_option maxRecDepth 100000
set_option maxHeartbeats 4000000
namespace LG
open PySem L2 LamX
theorem ext_bt {p : Addr} {H H' : Hp} (np : H p = none) (e : BtR p H H') : ExtN H H' := fun b o h t => e b o h (fun z => by rw [z, np] at h; cases h) t
theorem all_tr (n : Nat) : ((List.replicate n true).all id) = true := by simp
theorem tabs_upd {T : List (Addr × Str)} {H : Hp} {a : Addr} {xs : List V} {o : HO} (h : H a = some (.lst xs)) (t : Tabs T H) : Tabs T (upd H a o) := by
  intro q hq
  obtain ⟨ps, t1, t2, t3⟩ := t q hq
  refine ⟨ps, by rw [upd_ne (fun z => by rw [z, h] at t1; cases t1)]; exact t1, t2, fun pos cv hc => ?_⟩
  obtain ⟨c, e1, e2⟩ := t3 pos cv hc
  exact ⟨c, e1, by rw [upd_ne (fun z => by rw [z, h] at e2; have e3 : HO.lst _ = HO.ext _ := Option.some.inj e2; cases e3)]; exact e2⟩
end LG
namespace K03
open PySem L2 LG LamX
section
variable {P : Program} {w : World} {K : PySem.W.Frag} {mg : Str → Option Value} {base : Heap}
abbrev qWk : Str := "_law_are_walks_right" ++ ".<locals>." ++ "<lambda>"
abbrev qTn : Str := "_law_is_turned_right" ++ ".<locals>." ++ "<lambda>"
abbrev qRg : Str := "_law_right" ++ ".<locals>." ++ "<lambda>"
/-- the tables of the code objects of the lambdas -/
abbrev tTab (P1 P2 P3 : Addr) : List (Addr × Str) := [(P1, qWk), (P2, qTn), (P3, qRg)]
def spRight (P1 P2 P3 : Addr) : Sp := fun vs H Q _ => ∃ (p : Addr) (b : Nat), vs = [.ref p] ∧ Tabs (tTab P1 P2 P3) H ∧ PotAt H p b ∧ b ≤ 20000 ∧ ∀ H', Tabs (tTab P1 P2 P3) H' → BtR p H H' → (∃ B, PotAt H' p B ∧ B ≤ b + 2000) → Q (.bl true) H'
def spLaw (K : PySem.W.Frag) (P1 P2 P3 : Addr) : Sp := fun vs H Q _ => ∃ (a : Addr) (ns : List Int), vs = [.ref a] ∧ SqL K H a (ns.map V.int) ∧ ns.length ≤ 63 ∧ Tabs (tTab P1 P2 P3) H ∧ ∀ H', Q (.bl true) H'
abbrev nLw : List Str := ["_law_script", "_law_place", "_law_pot_here", "_law_lap"]
theorem scLaw : FnScope nLw ["_law_script"] (defScope sLaw) := ⟨rfl, rfl, rfl, by decide +kernel, rfl, by decide +kernel, by decide +kernel⟩
theorem ok_law {f gr gp gc P1 P2 P3 : Addr} {fd grd gpd gcd : FuncData} (F : Fun K "law" "law" sLaw f fd) (T : Bltn mg)
    (GR : GnOk P w K mg base 10 gr grd ["_law_pot_here"] (spRight P1 P2 P3)) (mR : mg "_law_right" = some (.ref gr)) (kR : PySem.W.keepIn K (.ref gr) = true) (bR : Binds K grd ["_law_pot_here"] [])
    (GP : FnOk P w K mg base CX0 1 gp gpd ["_law_script", "_law_place"] (spPot K)) (mP : mg "_law_pot" = some (.ref gp)) (kP : PySem.W.keepIn K (.ref gp) = true) (bP : Binds K gpd ["_law_script", "_law_place"] [])
    (GC : FnOk P w K mg base CX0 1 gc gcd ["_law_script", "_law_most"] (spCells K)) (mC : mg "_law_cells" = some (.ref gc)) (kC : PySem.W.keepIn K (.ref gc) = true) (bC : Binds K gcd ["_law_script", "_law_most"] []) :
    GnOk P w K mg base 11 f fd ["_law_script"] (spLaw K P1 P2 P3) := by
  refine gn_of F scLaw (fun vs H Q E h => ?_) (fun cdv A0 outer s H vs Q hG hr h => ?_)
  · obtain ⟨a, ns, rfl, _⟩ := h
    rfl
  obtain ⟨a, ns, rfl, hS, h63, hT, q⟩ := h
  have r1 : Room 1 _ := hr.mono (by decide)
  refine' ⟨_, pss_cons (ps_for PassesOwn.never rfl (pi_list (pe_call GC r1 rfl mC kC bC .nil pass0 (pa_cons (pv 0) (pa_cons pe_int pa_nil)))) (pg_name (i := 1) scLaw.nd rfl (Or.inl rfl))
      (pss_cons (ps_set (i := 2) scLaw.nd rfl (Or.inr rfl) (pe_call GP r1 rfl mP kP bP .nil pass0 (pa_cons (pv 0) (pa_cons (pv 1) pa_nil))))
      (pss_one (ps_if (pt_not (pt_val (pe_callB (cr_all rfl) rfl T.all (by decide +kernel) (pa_cons (pe_lc (te := fun σ H Q => tCons (tVar 2) tNil σ H fun vs H1 => spRight P1 P2 P3 vs H1 Q E0) (own := [("_law_lap", 3)]) (g := gName 3) (tt := tYes) rfl scLaw.nd (pi_range1 rfl T.range (pa_cons pe_int pa_nil))
        (blkOk_by (own := [("_law_lap", 3)]) (N := nLw) (sc := defScope sLaw) (by decide +kernel)) (fun _ _ _ _ _ => pg_name (i := 3) scLaw.nd rfl (Or.inl rfl)) (fun _ _ _ _ _ => pts_nil)
        (fun _ _ _ _ _ => by exact pe_gcall GR hG hr rfl mR kR bR (pa_cons (pv 2) pa_nil))) pa_nil)))) (pss_one (ps_ret pe_bl)) pss_nil))))
    (pss_one (ps_ret pe_bl)), ?main⟩
  case main =>
    refine ⟨_, rfl, a, ns, 6, rfl, hS, h63, by decide, by decide, fun lp n H1 s1 nlp n1 n63 hlp => ⟨lp, rfl, ⟨_, SqL.of hlp⟩, ?_⟩⟩
    refine for_it walk_list (fun i σ G => ∃ x1 x2 x3, σ = [some (.ref a), x1, x2, x3] ∧ ExtN H1 G ∧ Tabs (tTab P1 P2 P3) G) ⟨_, _, _, rfl, ExtN.refl _, Tabs.ext hT s1⟩ (fun i σ G _ ⟨_, _, _, _, e, _⟩ => SqL.of (e _ _ hlp (fun ps z => by cases z))) ?_ ?_
    · rintro i y σ G4 G5 hi ⟨x1, x2, x3, rfl, e4, t4⟩ ⟨rfl, hy⟩
      rw [List.length_map, List.length_range] at hi
      have ey : y = V.int (i : Nat) := by
        rw [List.getElem?_map, List.getElem?_range hi] at hy
        exact (Option.some.inj hy).symm
      subst ey
      refine ⟨_, rfl, _, rfl, a, ns, (i : Nat), rfl, SqLext e4 (s1.seq hS), h63, by omega, by omega, fun pp G2 s2 npp pot => ?_⟩
      refine ⟨2, rfl, by decide, by decide, fun D nD => ?_⟩
      have nD5 : G5 D = none := s2.free nD
      have npD : D ≠ pp := fun z => by
        obtain ⟨own, sm, k, e, _⟩ := pot
        rw [z, e] at nD
        cases nD
      refine lc_it (walk_range (lo := 0) (n := 2)) (D := D) (g := gName 3) (tt := tYes) (te := fun σ H Q => tCons (tVar 2) tNil σ H fun vs H1 => spRight P1 P2 P3 vs H1 Q E0) (vs := [3])
        (fun j G => ∃ B, ExtN G5 G ∧ Tabs (tTab P1 P2 P3) G ∧ PotAt G pp B ∧ B ≤ j * 2000 ∧ G D = some (.lst ((List.replicate j true).map V.bl)))
        ⟨0, ExtN.of (s2.trans (same_new nD _)), Tabs.ext (Tabs.ext t4 s2) (same_new nD _), pot.same (same_new nD _), by omega, upd_same⟩ (fun _ _ _ _ => trivial) ?_ ?_
      · rintro j y G6 G7 hj ⟨B, e6, t6, p6, hB, d6⟩ ⟨rfl, rfl⟩
        refine ⟨rfl, ?_⟩
        refine ⟨_, rfl, pp, B, rfl, t6, p6, by omega, fun G8 t8 b8 ⟨B2, p8, hB2⟩ => ?_⟩
        have d8 := b8 _ _ d6 npD (fun ps z => by cases z)
        refine ⟨_, d8, by rw [List.length_map, List.length_replicate, sizeLine_eq]; omega, B2, fun c o hc ht => ?_, tabs_upd d8 t8, ?_, by omega, ?_⟩
        · rw [upd_ne (fun z => by rw [z, nD5] at hc; cases hc)]
          exact b8 c o (e6 _ _ hc ht) (fun z => by rw [z, npp] at hc; cases hc) ht
        · obtain ⟨own, sm, k, e, r⟩ := p8
          exact ⟨own, sm, k, by rw [upd_ne npD.symm]; exact e, r⟩
        · rw [upd_same, List.replicate_succ', List.map_append]
          rfl
      · rintro G6 ⟨B, e6, t6, p6, hB, d6⟩
        refine ⟨D, _, rfl, SqL.of d6, ?_⟩
        rw [all_tr]
        exact ⟨_, rfl, iteF ⟨_, _, _, rfl, e4.trans e6, t6⟩⟩
    · rintro σ G ⟨x1, x2, x3, rfl, _, _⟩
      exact q G
end
end K03
set_option Elab.async false
set_option linter.all false
set_option maxRecDepth 100000
set_option maxHeartbeats 4000000
/-! What is due where a row is turned otherwise than it can be: the first place that is wrong. -/
namespace LG
open PySem L2 LamX
/-- the places that are wrong -/
def badL (b0 b1 b2 b3 : Bool) : List Nat := (if b0 = true then [] else [0]) ++ (if b1 = true then [] else [1]) ++ (if b2 = true then [] else [2]) ++ (if b3 = true then [] else [3])
def badsOf (D : Dev) (s c a g : V) : List Nat := badL (amongB s D.states) (amongB c D.calls) (amongB a D.answers) (amongB g D.states)
def clsAt (CS CC CA : Addr) : Nat → Addr
  | 1 => CC
  | 2 => CA
  | _ => CS
def valAt (s c a g : V) : Nat → V
  | 0 => s
  | 1 => c
  | 2 => a
  | _ => g
def BadT (CS CC CA : Addr) (D : Dev) (s c a g : V) : Addr → V → Prop := fun C y => ∃ k r, badsOf D s c a g = k :: r ∧ C = clsAt CS CC CA k ∧ y = valAt s c a g k
def GoodT (D : Dev) (s c a g : V) : Prop := badsOf D s c a g = []
theorem bads_lt {b0 b1 b2 b3 : Bool} {k : Nat} {r : List Nat} (h : badL b0 b1 b2 b3 = k :: r) : k < 4 := by
  cases b0 <;> cases b1 <;> cases b2 <;> cases b3 <;> simp [badL] at h <;> omega
theorem good_all {D : Dev} {s c a g : V} (h : GoodT D s c a g) : amongB s D.states = true ∧ amongB c D.calls = true ∧ amongB a D.answers = true ∧ amongB g D.states = true := by
  unfold GoodT badsOf at h
  cases e0 : amongB s D.states <;> cases e1 : amongB c D.calls <;> cases e2 : amongB a D.answers <;> cases e3 : amongB g D.states <;> rw [e0, e1, e2, e3] at h <;> simp [badL] at h <;> exact ⟨rfl, rfl, rfl, rfl⟩
theorem good_of {D : Dev} {s c a g : V} (h0 : amongB s D.states = true) (h1 : amongB c D.calls = true) (h2 : amongB a D.answers = true) (h3 : amongB g D.states = true) : GoodT D s c a g := by
  unfold GoodT badsOf
  rw [h0, h1, h2, h3]
  rfl
theorem noTurn_of {CS CC CA : Addr} {D : Dev} {s c a g : V} {H : Hp} {E : XK} (h : ∀ C y d, BadT CS CC CA D s c a g C y → H d = none → E (.ref C) (some d) (upd H d (.xd (vf y)))) : NoTurn CS CC CA D s c a g H E := by
  have k : ∀ k r, badsOf D s c a g = k :: r → ∀ d, H d = none → E (.ref (clsAt CS CC CA k)) (some d) (upd H d (.xd (vf (valAt s c a g k)))) := fun k r e d nd => h _ _ d ⟨k, r, e, rfl, rfl⟩ nd
  unfold badsOf at k
  refine ⟨⟨fun e0 d nd => ?_, fun e0 e1 d nd => ?_⟩, fun e0 e1 => ⟨fun e2 d nd => ?_, fun e2 e3 d nd => ?_⟩⟩
  · rw [e0] at k
    exact k 0 _ rfl d nd
  · rw [e0, e1] at k
    exact k 1 _ rfl d nd
  · rw [e0, e1, e2] at k
    exact k 2 _ rfl d nd
  · rw [e0, e1, e2, e3] at k
    exact k 3 _ rfl d nd
/-- one look by told at a turning -/
theorem told_turned {K : PySem.W.Frag} {mg : Str → Option Value} {fI B CS CC CA : Addr} {T : List (Addr × Str)} {H : Hp} {s c a g : V} {D : Dev} {Q : VK} {tl : XK → Hp → VK → Prop} (eS : EQl K mg fI B "NoState" CS) (eC : EQl K mg fI B "NoCall" CC) (eA : EQl K mg fI B "NoAnswer" CA) (hT : Tabs T H)
    (run : ∀ (G : Hp) (E : XK) (R : VK), ExtN H G → NoTurn CS CC CA D s c a g G E → (GoodT D s c a g → ∀ v G', Same G G' → R v G') → tl E G R)
    (qb : ∀ (k : Nat) (r : List Nat) (v : V) (p : Addr) (G : Hp), badsOf D s c a g = k :: r → ExtN H G → Tabs T G → Caught G (clsAt CS CC CA k) v (valAt s c a g k) → G p = some (.tup [v, .non]) → Q (.ref p) G)
    (qg : ∀ (v : V) (p : Addr) (G : Hp), GoodT D s c a g → ExtN H G → Tabs T G → G p = some (.tup [.non, v]) → Q (.ref p) G) :
    Tabs T H ∧ ∀ H1, ExtN H H1 → Tabs T H1 → TTk K B tl H1 Q := by
  refine told_gen (BadT CS CC CA D s c a g) (GoodT D s c a g) ?_ hT (fun G E R eG er rt => run G E R eG (noTurn_of fun C y d bad nd => er C y d G bad (Same.refl G) nd) rt) ?_ qg
  · rintro C y ⟨k, r, _, rfl, _⟩
    match k with
    | 0 => exact eS.box
    | 1 => exact eC.box
    | 2 => exact eA.box
    | n + 3 => exact eS.box
  · rintro C y v p G ⟨k, r, e, rfl, rfl⟩ eG tG cG hp
    exact qb k r v p G e eG tG cG hp
end LG
set_option Elab.async false
set_option linter.all false
set_option maxRecDepth 100000
set_option maxHeartbeats 4000000
/-! Any value as a walk; one look by told at what is heard. -/
namespace LG
open PySem L2 LamX
theorem kit_notup {K : PySem.W.Frag} : ∀ T ∈ tyNames, T ≠ "tuple" → PySem.W.kitOne K (.type T) (.type "tuple") = some false := by
  intro T hT ne
  simp only [tyNames, List.mem_cons, List.not_mem_nil, or_false] at hT
  rcases hT with rfl | rfl | rfl | rfl | rfl | rfl | rfl
  all_goals first
    | exact kit_ty (by decide +kernel)
    | exact absurd rfl ne
theorem DpAll_items {K : PySem.W.Frag} {n : Nat} {H : Hp} : ∀ {ds : List PyData} {xs : List V}, DpAll K H xs ds → smalls n ds = true → ∀ x ∈ xs, Gx K n H x
  | _, _, .nil, _ => fun _ h => nomatch h
  | _, _, .cons a b, h => by
    simp only [smalls, Bool.and_eq_true] at h
    intro x hx
    rcases List.mem_cons.mp hx with rfl | hx
    · exact ⟨_, .flat a, h.1⟩
    · exact DpAll_items b h.2 x hx
theorem Dx.ext {K : PySem.W.Frag} {H H' : Hp} {v : V} {d : PyData} (e : ExtN H H') (h : Dx K H v d) : Dx K H' v d := by
  cases h with
  | flat h => exact .flat (Dp_same (mt_self H') _ _ (Dp_same (mt_ext e) _ _ (Dp_mt _ _ h)))
  | dct h p => exact .dct (e _ _ h fun ps z => by cases z) p
theorem Dx.notup {K : PySem.W.Frag} {H : Hp} {v : V} {d : PyData} (h : Dx K H v d) (no : ∀ xs, d ≠ .tuple xs) : ∃ ty, TyX K H v ty ∧ PySem.W.kitOne K ty (.type "tuple") = some false := by
  cases h with
  | flat h =>
    obtain ⟨T, ty, e⟩ := ty_of h
    cases h with
    | tup _ _ => exact absurd rfl (no _)
    | non => exact ⟨_, ty, kit_notup _ (by subst e; simp [tyNames]) (by subst e; simp)⟩
    | bl b => exact ⟨_, ty, kit_notup _ (by subst e; simp [tyNames]) (by subst e; simp)⟩
    | int i => exact ⟨_, ty, kit_notup _ (by subst e; simp [tyNames]) (by subst e; simp)⟩
    | str x => exact ⟨_, ty, kit_notup _ (by subst e; simp [tyNames]) (by subst e; simp)⟩
    | lst _ _ => exact ⟨_, ty, kit_notup _ (by subst e; simp [tyNames]) (by subst e; simp)⟩
  | dct h p => exact ⟨_, .base (.dK h), kit_notup "dict" (by simp [tyNames]) (by simp)⟩
/-- a tuple, its items data again; or no tuple, whatever else comes -/
theorem Gx.tup {K : PySem.W.Frag} {n : Nat} {H : Hp} {v : V} (g : Gx K n H v) : (∃ (t : Addr) (xs : List V), v = .ref t ∧ SqT K H t xs ∧ xs.length ≤ 25 ∧ ∀ x ∈ xs, Gx K n H x) ∨ ∀ G, ExtN H G → ∃ ty, TyX K G v ty ∧ PySem.W.kitOne K ty (.type "tuple") = some false := by
  obtain ⟨d, h, hs⟩ := g
  cases d with
  | tuple ds =>
    left
    cases h with
    | flat h =>
      cases h with
      | tup ht ha =>
        cases n with
        | zero =>
          simp only [small] at hs
          cases hs
        | succ n =>
          simp only [small, Bool.and_eq_true, decide_eq_true_eq] at hs
          exact ⟨_, _, rfl, ht, by rw [← DpAll_length _ _ ha]; exact hs.1, fun x hx => (DpAll_items ha hs.2 x hx).le (Nat.le_succ n)⟩
  | _ => exact .inr fun G e => (h.ext e).notup fun xs z => by cases z
/-- one look by told at what is heard, or at the state behind -/
theorem told_walk {K : PySem.W.Frag} {mg : Str → Option Value} {fI B CW : Addr} {T : List (Addr × Str)} {H : Hp} {v : V} {b : Bool} {Q : VK} {tl : XK → Hp → VK → Prop} (eW : EQl K mg fI B "BadWalk" CW) (hT : Tabs T H)
    (run : ∀ (G : Hp) (E : XK) (R : VK), ExtN H G → (b = false → ∀ d G', Same G G' → G' d = none → E (.ref CW) (some d) (upd G' d (.xd (vf v)))) → (b = true → ∀ v G', Same G G' → R v G') → tl E G R)
    (qb : ∀ (u : V) (p : Addr) (G : Hp), b = false → ExtN H G → Tabs T G → Caught G CW u v → G p = some (.tup [u, .non]) → Q (.ref p) G)
    (qg : ∀ (u : V) (p : Addr) (G : Hp), b = true → ExtN H G → Tabs T G → G p = some (.tup [.non, u]) → Q (.ref p) G) :
    Tabs T H ∧ ∀ H1, ExtN H H1 → Tabs T H1 → TTk K B tl H1 Q :=
  told_gen (fun C y => b = false ∧ C = CW ∧ y = v) (b = true) (fun C y h => by rw [h.2.1]; exact eW.box) hT (fun G E R eG er rt => run G E R eG (fun hb d G' s n => er CW v d G' ⟨hb, rfl, rfl⟩ s n) rt)
    (fun C y u p G ⟨hb, hC, hy⟩ eG tG cG hp => by subst hC; subst hy; exact qb u p G hb eG tG cG hp) qg
theorem TTk.held {K : PySem.W.Frag} {B : Addr} (tl : XK → Hp → VK → Prop) (o : HO) (f : Addr) (G : Hp) (Q : VK) (h : G f = some o) (t : TTk K B tl G Q) : TTk K B (fun E G' R => G' f = some o ∧ tl E G' R) G Q :=
  fun H1 E R s he hr => ⟨s _ _ h, t H1 E R s he hr⟩
theorem caught_upd {H : Hp} {C a : Addr} {v y : V} {xs : List V} {o : HO} (h : H a = some (.lst xs)) (c : Caught H C v y) : Caught (upd H a o) C v y := by
  obtain ⟨b, d, e, er⟩ := c
  refine ⟨b, d, e, ?_, ?_⟩
  · rw [upd_ne (fun z => by
      have q := er.ob
      rw [z, h] at q
      have q2 : HO.lst _ = HO.ext _ := Option.some.inj q
      cases q2)]
    exact er.ob
  · rw [upd_ne (fun z => by
      have q := er.dc
      rw [z, h] at q
      cases q)]
    exact er.dc
end LG
set_option Elab.async false
set_option linter.all false
set_option maxRecDepth 100000
set_option maxHeartbeats 16000000
/-! Law k03's question of walks. -/
namespace LG
open PySem L2 LamX
def forBody : Stmt → List Stmt
  | .For _ _ b _ _ => b
  | _ => []
def stValue : Stmt → Expr
  | .Assign _ v _ => v
  | .Expr v _ => v
  | _ => .Constant .none 0 ⟨0, 0, 0, 0⟩
def exItem : Expr → Expr
  | .List (e :: _) _ => e
  | .Call _ (e :: _) _ _ => e
  | e => e
def lmP : Expr → Arguments
  | .Lambda a _ _ _ => a
  | _ => default
def lmB : Expr → Expr
  | .Lambda _ b _ _ => b
  | e => e
def lmS (d : Scope) : Expr → Scope
  | .Lambda _ _ s _ => s
  | _ => d
theorem tup0 {K : PySem.W.Frag} {a b : V} {p : Addr} {G : Hp} {Q : VK} (h : G p = some (.tup [a, b])) (q : Q a G) : rIxT K (.ref p) (.int 0) G Q := ⟨p, _, 0, a, rfl, rfl, .inl (.inl h), rfl, q⟩
theorem ne_self {a : V} : (!decide (a = a)) = false := by simp
theorem pt_imp {X : Cx} {e : Expr} {t t' : TT} (h : PT X e t) (w : ∀ σ H Q, t' σ H Q → t σ H Q) : PT X e t' := ⟨fun pins s σ H Q I q => h.run pins s σ H Q I (w σ H Q q)⟩
theorem run_names {D : Dev} (d : Drawn D) : ∀ {ws : List Str} {s : Str}, s ∈ D.states → (∀ y ∈ ws, y ∈ D.calls) → ∀ a ∈ (runD D s ws).1, a ∈ D.answers
  | [], _, _, _ => fun _ h => nomatch h
  | w :: r, s, hs, h => by
    have km : (s, w) ∈ D.goals.map (·.1) := by
      rw [d.keys]
      exact prod_mem.mpr ⟨hs, h w List.mem_cons_self⟩
    obtain ⟨_, _, _, mA, mS⟩ := d.row km
    intro a ha
    rcases List.mem_cons.mp (show a ∈ (rowX D (s, w)).1 :: (runD D (rowX D (s, w)).2 r).1 from ha) with rfl | ha
    · exact mA
    · exact run_names d (ws := r) mS (fun y hy => h y (List.mem_cons_of_mem _ hy)) a ha
theorem run_len (D : Dev) : ∀ (ws : List Str) (s : Str), (runD D s ws).1.length = ws.length
  | [], _ => rfl
  | w :: r, s => by
    show ((rowX D (s, w)).1 :: (runD D (rowX D (s, w)).2 r).1).length = _
    rw [List.length_cons, List.length_cons, run_len D r]
theorem smalls_names {n : Nat} : ∀ {ns : List Str}, (∀ x ∈ ns, isNameB x = true) → smalls n (ns.map PyData.str) = true
  | [], _ => by simp only [List.map_nil, smalls]
  | x :: r, h => by
    simp only [List.map_cons, smalls, Bool.and_eq_true]
    exact ⟨small_le (Nat.zero_le n) (name_small (h x List.mem_cons_self)), smalls_names fun y hy => h y (List.mem_cons_of_mem _ hy)⟩
theorem DpAll_strs {K : PySem.W.Frag} {H : Hp} : ∀ ns : List Str, DpAll K H (ns.map V.str) (ns.map PyData.str)
  | [] => .nil
  | x :: r => .cons (.str x) (DpAll_strs r)
theorem PotAt.upd {G : Hp} {p r : Addr} {k : Nat} {o : HO} (h : PotAt G p k) (ne : r ≠ p) : PotAt (upd G r o) p k := by
  obtain ⟨own, sm, n, e1, e2⟩ := h
  exact ⟨own, sm, n, by rw [upd_ne (Ne.symm ne)]; exact e1, e2⟩
end LG
namespace K03
open PySem L2 LG LamX
section
variable {P : Program} {w : World} {K : PySem.W.Frag} {mg : Str → Option Value} {base : Heap}
abbrev nWk : List Str := ["_law_pot_here", "_law_own", "_law_here", "_law_first", "_law_size", "_law_walk", "_law_answers", "_law_state", "_law_call", "_law_values", "_law_value", "_law_is_walk", "_law_looks", "_law_caught", "_law_lap", "_law_one", "_law_look"]
theorem scWalks : FnScope nWk ["_law_pot_here", "_law_own", "_law_here", "_law_first"] (defScope sWalks) := ⟨rfl, rfl, rfl, by decide +kernel, rfl, by decide +kernel, by decide +kernel⟩
abbrev wLoop : List Stmt := forBody ((defBody sWalks).getD 3 (.Pass ⟨0, 0, 0, 0⟩))
abbrev wLam1 : Expr := exItem (stValue (wLoop.getD 2 (.Pass ⟨0, 0, 0, 0⟩)))
abbrev wLam2 : Expr := exItem (stValue (wLoop.getD 3 (.Pass ⟨0, 0, 0, 0⟩)))
abbrev cxW (P : Program) (w : World) (K : PySem.W.Frag) (mg : Str → Option Value) (base : Heap) (f c : Addr) (A : Around) (outer : List Env) (s : Shared) (H : Hp) : Cx := (cxOf CX0 P w K mg base nWk "_law_are_walks_right" (defScope sWalks) f (.ref c) A outer s H E0).nox
/-- the two looks -/
def famW (K : PySem.W.Frag) (C CW : Addr) : Bool → Lam
  | true => ⟨lmP wLam1, lmB wLam1, lmS (defScope sWalks) wLam1, fun E => tMeth C "heard" (spHeard K C CW) [] E (tVar 2) (tCons (tVar 10) tNil)⟩
  | false => ⟨lmP wLam2, lmB wLam2, lmS (defScope sWalks) wLam2, fun E => tMeth C "behind" (spBehind K C CW) [] E (tVar 2) (tCons (tVar 10) tNil)⟩
def spWalks (K : PySem.W.Frag) (C P1 P2 P3 : Addr) : Sp := fun vs H Q _ => ∃ (p o x : Addr) (b : Nat) (s : Str) (D DR : Dev) (txt : Str), vs = [.ref p, .ref o, .ref x, .str s] ∧ Tabs (tTab P1 P2 P3) H ∧ PotAt H p b ∧ b ≤ 50000 ∧ OwnAt K (mk p H) o D ∧ LG.Drawn D ∧ DevAt K (mk p H) x C txt DR ∧ Full DR ∧ DR.calls = D.calls ∧
  DR.states.headD Str.empty = s ∧ s ∈ D.states ∧ (∀ ws : List Str, (∀ y ∈ ws, y ∈ D.calls) → runD DR s ws = runD D s ws) ∧ ∀ H', Tabs (tTab P1 P2 P3) H' → BtR p H H' → (∃ B, PotAt H' p B ∧ B ≤ b + 100) → Q (.bl true) H'
structure KitW (P : Program) (w : World) (K : PySem.W.Frag) (mg : Str → Option Value) (base : Heap) (fI C CW B P1 P2 P3 : Addr) : Prop where
  take : ∃ g gd, FnOk P w K mg base CX0 1 g gd ["_law_pot_here", "_law_upto"] spTake ∧ mg "_law_take" = some (.ref g) ∧ PySem.W.keepIn K (.ref g) = true ∧ L2.Binds K gd ["_law_pot_here", "_law_upto"] []
  of_ : ∃ g gd, FnOk P w K mg base CX0 2 g gd ["_law_pot_here", "_law_some_here"] (spOf K) ∧ mg "_law_of" = some (.ref g) ∧ PySem.W.keepIn K (.ref g) = true ∧ L2.Binds K gd ["_law_pot_here", "_law_some_here"] []
  odd : ∃ g gd, FnOk P w K mg base CX0 3 g gd ["_law_pot_here"] (spOdd K) ∧ mg "_law_odd" = some (.ref g) ∧ PySem.W.keepIn K (.ref g) = true ∧ L2.Binds K gd ["_law_pot_here"] []
  run : ∃ g gd, FnOk P w K mg base CX0 1 g gd ["_law_device", "_law_state", "_law_walk"] (spRun K) ∧ mg "_law_run" = some (.ref g) ∧ PySem.W.keepIn K (.ref g) = true ∧ L2.Binds K gd ["_law_device", "_law_state", "_law_walk"] []
  heard : ∃ g gd, FnOk P w K mg base (L2.CX P w) 4 g gd ["self", "walk"] (spHeard K C CW) ∧ Meth K C "heard" g ∧ L2.Binds K gd ["self", "walk"] []
  behind : ∃ g gd, FnOk P w K mg base (L2.CX P w) 4 g gd ["self", "walk"] (spBehind K C CW) ∧ Meth K C "behind" g ∧ L2.Binds K gd ["self", "walk"] []
  told : ∃ (g : Addr) (kV dc pm cd ct oc : Value) (an od : Option Addr) (sl : Array (Option Value)), mg "_law_told" = some (.ref g) ∧ PySem.W.keepIn K (.ref g) = true ∧ K.lookup g = some ⟨oc, od, .func (PySem.W.fnOf "_law_told" "_law_told" (defArgs sTold) (defBody sTold) (defScope sTold) .none kV dc pm an cd ct), sl⟩ ∧
    PySem.W.codeIn K cd "_law_told" = true ∧ L2.Binds K (PySem.W.fnOf "_law_told" "_law_told" (defArgs sTold) (defBody sTold) (defScope sTold) .none kV dc pm an cd ct) ["_law_look"] []
  box : mg "BoxError" = some (.ref B)
  ew : EQl K mg fI B "BadWalk" CW
  dev : DevCl K mg C
  dsc : ClsD K
  n12 : P1 ≠ P2
  n13 : P1 ≠ P3
  n23 : P2 ≠ P3
/-! ### what the questions ask -/
/-- a tuple of at most 24, or no tuple -/
def tIw (K : PySem.W.Frag) : TE := fun σ H Q => ∃ (v : V) (b0 : Bool), σ[10]? = some (some v) ∧ ((∃ (t : Addr) (xs : List V), v = .ref t ∧ SqT K H t xs ∧ b0 = decide (xs.length < 25)) ∨ ∃ ty, TyX K H v ty ∧ PySem.W.kitOne K ty (.type "tuple") = some false ∧ b0 = false) ∧ Q (.bl b0) H
/-- and all of them calls -/
def tIw2 (K : PySem.W.Frag) : TE := fun σ H Q => ∃ (v : V) (b0 : Bool) (xs : List V) (o ca : Addr) (C : List Str), σ[10]? = some (some v) ∧ σ[11]? = some (some (.bl b0)) ∧ (b0 = true → ∃ t : Addr, v = .ref t ∧ SqT K H t xs ∧ xs.length ≤ 25 ∧ ∀ x ∈ xs, Gx K 2 H x) ∧ σ[1]? = some (some (.ref o)) ∧
  (∀ G, Same H G → DGet G o (.str "calls") (some (.ref ca))) ∧ H ca = some (.lst (C.map V.str)) ∧ σ.length = 17 ∧ ∀ H', Same H H' → Q (.bl (b0 && xs.all fun x => amongB x C)) H'
def tOneIn (K : PySem.W.Frag) : TE := fun σ H Q => ∃ (v : V) (o ca : Addr) (C : List Str), σ[15]? = some (some v) ∧ σ[1]? = some (some (.ref o)) ∧ DGet H o (.str "calls") (some (.ref ca)) ∧ H ca = some (.lst (C.map V.str)) ∧ Gx K 2 H v ∧ Q (.bl (amongB v C)) H
def tF1 (K : PySem.W.Frag) (CW : Addr) : TT := fun σ H Q => ∃ (b : Bool) (cv v : V), σ[11]? = some (some (.bl b)) ∧ σ[13]? = some (some cv) ∧ σ[10]? = some (some v) ∧ (b = true → cv = .non) ∧ (b = false → Caught H CW cv v) ∧ Gx K 2 H v ∧ Q false H
theorem isi_str {H : Hp} {v : V} {n : Nat} (g : Gx K n H v) : ∃ t b, TyX K H v t ∧ PySem.W.kitOne K t (.type "str") = some b ∧ ((b = true ∧ ∃ z, v = .str z) ∨ (b = false ∧ ∀ z, v ≠ .str z)) := by
  rcases g.ty with ⟨z, e, ty⟩ | ⟨T0, hT, ne, ty, no⟩
  · exact ⟨_, true, ty, kit_self, .inl ⟨rfl, z, e⟩⟩
  · exact ⟨_, false, ty, kit_nostr T0 hT ne, .inr ⟨rfl, no⟩⟩
theorem wipe_set {σ : L2.St} {v : V} (h : σ.length = 17) : wipe ((wipe σ [15]).set 15 (some v)) [15] = wipe σ [15] := by
  show ((σ.set 15 none).set 15 (some v)).set 15 none = σ.set 15 none
  rw [List.set_set, List.set_set]
theorem slot_set {σ : L2.St} {v : V} (h : σ.length = 17) : ((wipe σ [15]).set 15 (some v))[15]? = some (some v) := by
  show ((σ.set 15 none).set 15 (some v))[15]? = _
  rw [List.set_set, List.getElem?_set_self (by omega)]
theorem slot1_set {σ : L2.St} {v u : V} (h : σ.length = 17) (e : σ[1]? = some (some u)) : ((wipe σ [15]).set 15 (some v))[1]? = some (some u) := by
  show ((σ.set 15 none).set 15 (some v))[1]? = _
  rw [List.set_set, List.getElem?_set_ne (by decide), e]
theorem ok_walks {f c P1 P2 P3 fI C CW B : Addr} {oc kV doc pm ct : Value} {od an : Option Addr} {osl : Array (Option Value)} (T : Bltn mg) (Z : KitW P w K mg base fI C CW B P1 P2 P3)
    (lk : K.lookup f = some ⟨oc, od, .func (PySem.W.fnOf "_law_are_walks_right" "_law_are_walks_right" (defArgs sWalks) (defBody sWalks) (defScope sWalks) .none kV doc pm an (.ref c) ct), osl⟩) (hcd : PySem.W.codeIn K (.ref c) "_law_are_walks_right" = true) (TB : TabB base mg c P1) :
    GnOk P w K mg base 7 f (PySem.W.fnOf "_law_are_walks_right" "_law_are_walks_right" (defArgs sWalks) (defBody sWalks) (defScope sWalks) .none kV doc pm an (.ref c) ct) ["_law_pot_here", "_law_own", "_law_here", "_law_first"] (spWalks K C P1 P2 P3) := by
  obtain ⟨ga, gad, GA, mA, kA, bA⟩ := Z.take
  obtain ⟨gf, gfd, GF, mF, kF, bF⟩ := Z.of_
  obtain ⟨go, god, GO, mO, kO, bO⟩ := Z.odd
  obtain ⟨gr, grd, GR, mR, kR, bR⟩ := Z.run
  obtain ⟨gh, ghd, GH, mH, bH⟩ := Z.heard
  obtain ⟨gb, gbd, GB, mB, bB⟩ := Z.behind
  obtain ⟨gt, kVt, dct, pmt, cdt, ctt, oct, ant, odt, slt, mT, kT_, lT, cT, bT⟩ := Z.told
  refine gn_ofL lk hcd scWalks (fun vs H Q E h => ?_) (fun A0 outer s H vs Q hG hr h => ?_)
  · obtain ⟨p, o, x, b, s, D, DR, txt, rfl, _⟩ := h
    rfl
  obtain ⟨p, o, x, b, s0, D, DR, txt, rfl, hT, hp, hb, hO, dr, hD, FD, ecalls, ehd, inS, hrun, q⟩ := h
  have r4 : Room 4 _ := hr.mono (by decide)
  have r3 : Room 3 _ := hr.mono (by decide)
  have r2 : Room 2 _ := hr.mono (by decide)
  have r1 : Room 1 _ := hr.mono (by decide)
  have hu := hu_of hr
  have hmT : ((P1, qWk) : Addr × Str) ∈ tTab P1 P2 P3 := List.mem_cons_self
  have huT : ∀ q ∈ tTab P1 P2 P3, q.1 = P1 → q.2 = qWk := by
    intro q hq e
    rcases List.mem_cons.mp hq with rfl | hq
    · rfl
    rcases List.mem_cons.mp hq with rfl | hq
    · exact absurd e.symm Z.n12
    · rw [List.mem_singleton.mp hq] at e
      exact absurd e.symm Z.n13
  have famL : ∀ j, LamS (cxW P w K mg base f c A0 outer s H).env.scope (famW K C CW j).scope := by
    intro j
    cases j
    · exact lamS_by (by show lamSB (defScope sWalks) (lmS (defScope sWalks) wLam2) = true; decide +kernel)
    · exact lamS_by (by show lamSB (defScope sWalks) (lmS (defScope sWalks) wLam1) = true; decide +kernel)
  have famB : ∀ (j : Bool) (q : Str) (cl : List (Str × Addr)) (pm cv ctv : Value), bindArgs (PySem.W.kla_fn "<lambda>" q (famW K C CW j).params (famW K C CW j).body (famW K C CW j).scope cl pm cv ctv) ⟨[], []⟩ = pure [] := by
    intro j q cl pm cv ctv
    cases j
    all_goals rfl
  have famO : ∀ (j : Bool) (A : Around) (outer' : List Env) (s' : Shared) (H' : Hp) (E : XK) (f' c' : Addr), Room 4 (A.deeper (lamEnv (cxW P w K mg base f c A0 outer s H) (famW K C CW j).scope s'.heap.objs.size f' c')) →
      PE (lamCx (cxW P w K mg base f c A0 outer s H) A outer' s' H' E (famW K C CW j).scope f' c') (famW K C CW j).body ((famW K C CW j).t E) := by
    intro j A outer' s' H' E f' c' hr4
    cases j
    · exact pe_meth (pv 2) Z.dev.cl mB GB hr4 bB .nil (passes_call (takes_of (E := E) rfl rfl rfl rfl) (fun _ _ _ _ h => h)) (pa_cons (pv 10) pa_nil)
    · exact pe_meth (pv 2) Z.dev.cl mH GH hr4 bH .nil (passes_call (takes_of (E := E) rfl rfl rfl rfl) (fun _ _ _ _ h => h)) (pa_cons (pv 10) pa_nil)
  refine' ⟨_, pss_cons ?l1 (pss_cons ?call (pss_cons ?vals (pss_cons (ps_for PassesOwn.never rfl (pi_list ?it) (pg_name (i := 10) scWalks.nd rfl (Or.inr rfl)) (pss_cons ?iw (pss_cons ?iw2 (pss_cons ?mk1 (pss_cons ?mk2 (pss_one ?lp)))))) (pss_one (ps_ret pe_bl))))), ?main⟩
  case l1 =>
    exact ps_for PassesOwn.never rfl (pi_tup (pe_tup (pa_cons pe_int (pa_cons pe_int (pa_cons (pe_op op_add pe_int (pe_call GA r1 rfl mA kA bA .nil pass0 (pa_cons (pv 0) (pa_cons pe_int pa_nil)))) (pa_cons (pe_call GA r1 rfl mA kA bA .nil pass0 (pa_cons (pv 0) (pa_cons pe_int pa_nil))) pa_nil)))))) (pg_name (i := 4) scWalks.nd rfl (Or.inl rfl))
      (pss_cons (ps_set (i := 5) scWalks.nd rfl (Or.inl rfl) (pe_callTy call_tuple_of rfl T.tuple (by decide +kernel) (pa_cons (pe_lc (te := tCall (spOf K) [] E0 (tCons (tVar 0) (tCons (tDGet (tVar 1) (tC (.str "calls"))) tNil))) (own := [("_law_lap", 14)]) (g := gName 14) (tt := tYes) rfl scWalks.nd (pi_range1 rfl T.range (pa_cons (pv 4) pa_nil))
          (blkOk_by (own := [("_law_lap", 14)]) (N := nWk) (sc := defScope sWalks) (by decide +kernel)) (fun _ _ _ _ _ => pg_name (i := 14) scWalks.nd rfl (Or.inl rfl)) (fun _ _ _ _ _ => pts_nil)
          (fun _ _ _ _ _ => by exact pe_call GF r2 rfl mF kF bF .nil pass0 (pa_cons (pv 0) (pa_cons (pe_dget hu (pv 1) pe_str (fun _ _ => rfl)) pa_nil)))) pa_nil)))
      (pss_cons (ps_asg (pe_call GR r1 rfl mR kR bR .nil pass0 (pa_cons (pv 1) (pa_cons (pv 3) (pa_cons (pv 5) pa_nil)))) (pg_tup rfl (pgs_cons (pg_name (i := 6) scWalks.nd rfl (Or.inl rfl)) (pgs_cons (pg_name (i := 7) scWalks.nd rfl (Or.inl rfl)) pgs_nil))))
      (pss_one (ps_if (pt_cmpR op_ne (pe_callB (call_repr hG hr.units) rfl T.repr (by decide +kernel) (pa_cons (pe_tup (pa_cons (pe_meth (pv 2) Z.dev.cl mH GH r4 bH .nil passF (pa_cons (pv 5) pa_nil)) (pa_cons (pe_meth (pv 2) Z.dev.cl mB GB r4 bB .nil passF (pa_cons (pv 5) pa_nil)) pa_nil))) pa_nil)) (pe_callB (call_repr hG hr.units) rfl T.repr (by decide +kernel) (pa_cons (pe_tup (pa_cons (pv 6) (pa_cons (pv 7) pa_nil))) pa_nil)) (nomark _))
        (pss_one (ps_ret pe_bl)) pss_nil))))
  case call => exact ps_set (i := 8) scWalks.nd rfl (Or.inl rfl) (pe_ix ix_list (pe_dget hu (pv 1) pe_str (fun _ _ => rfl)) pe_int (fun _ _ => rfl))
  case vals =>
    exact ps_set (i := 9) scWalks.nd rfl (Or.inl rfl) (pe_lst (pa_cons (pe_op op_repT (pe_tup (pa_cons (pv 8) pa_nil)) pe_int) (pa_cons (pe_lst (pa_cons (pv 8) pa_nil)) (pa_cons (pv 8) (pa_cons pe_non (pa_cons pe_int
      (pa_cons (pe_tup (pa_cons (pv 8) (pa_cons pe_str pa_nil))) (pa_cons (pe_tup (pa_cons (pv 8) (pa_cons pe_non pa_nil))) (pa_cons (pe_tup (pa_cons pe_int pa_nil)) (pa_cons (pe_tup (pa_cons (pe_tup (pa_cons (pv 8) pa_nil)) pa_nil)) pa_nil))))))))))
  case it => exact pe_op op_cat (pv 9) (pe_lst (pa_cons (pe_call GO r3 rfl mO kO bO .nil pass0 (pa_cons (pv 0) pa_nil)) (pa_cons (pe_call GO r3 rfl mO kO bO .nil pass0 (pa_cons (pv 0) pa_nil)) pa_nil)))
  case iw =>
    refine' ps_set (i := 11) scWalks.nd rfl (Or.inl rfl) (pe_imp (t' := tIw K) (pe_and (pe_callB call_isi rfl T.isinstance (by decide +kernel) (pa_cons (pv 10) (pa_cons (pe_bltn (v := .ty "tuple") (u := .type "tuple") rfl T.tuple (by decide +kernel) rfl) pa_nil))) (pe_one (pe_cmpR op_lt (pe_callB call_len_seq rfl T.len PySem.boot_len (pa_cons (pv 10) pa_nil)) pe_int (nomark _)))) ?_)
    rintro σ H Q ⟨v, b0, e10, hv, k⟩
    rcases hv with ⟨t, xs, rfl, ht, rfl⟩ | ⟨ty, hty, kk, rfl⟩
    · refine ⟨_, e10, .ref t, .ty "tuple", _, .type "tuple", true, rfl, .ty _, tup_ty ht, kit_self, _, rfl, iteT ?_⟩
      refine ⟨_, e10, t, _, rfl, .inr ht, _, _, rfl, rfl, ?_⟩
      have e : decide ((xs.length : Int) < 25) = decide (xs.length < 25) := by
        by_cases h : xs.length < 25
        · rw [decide_eq_true h, decide_eq_true (by omega)]
        · rw [decide_eq_false h, decide_eq_false (by omega)]
      show Q (.bl (decide ((xs.length : Int) < 25))) H
      rw [e]
      exact k
    · exact ⟨_, e10, v, .ty "tuple", ty, .type "tuple", false, rfl, .ty _, hty, kk, _, rfl, iteF k⟩
  case iw2 =>
    refine' ps_set (i := 11) scWalks.nd rfl (Or.inl rfl) (pe_imp (t' := tIw2 K) (pe_and (pv 11) (pe_one (pe_callB (cr_all rfl) rfl T.all (by decide +kernel) (pa_cons (pe_lc (te := tOneIn K) (own := [("_law_one", 15)]) (g := gName 15) (tt := tYes) rfl scWalks.nd (pi_tup (pv 10)) (blkOk_by (own := [("_law_one", 15)]) (N := nWk) (sc := defScope sWalks) (by decide +kernel))
      (fun _ _ _ _ _ => pg_name (i := 15) scWalks.nd rfl (Or.inl rfl)) (fun _ _ _ _ _ => pts_nil)
      (fun _ _ _ _ _ => by
        refine' pe_imp (t' := tOneIn K) (pe_and (pe_callB call_isi rfl T.isinstance (by decide +kernel) (pa_cons (pv 15) (pa_cons (pe_bltn (v := .ty "str") (u := .type "str") rfl T.str (by decide +kernel) rfl) pa_nil))) (pe_one (pe_cmpR op_in_txt (pv 15) (pe_dget hu (pv 1) pe_str (fun _ _ => rfl)) (by rfl)))) ?_
        rintro σ H Q ⟨v, o, ca, Cs, e15, e1, dg, hc, gv, k⟩
        obtain ⟨t, b, ty, kk, hb⟩ := isi_str gv
        refine ⟨_, e15, v, _, t, _, b, rfl, .ty _, ty, kk, _, rfl, ?_⟩
        rcases hb with ⟨rfl, z, rfl⟩ | ⟨rfl, no⟩
        · refine iteT ?_
          exact ⟨_, e15, _, e1, o, _, rfl, dg, z, ca, _, rfl, rfl, .inl (SqL.of hc), k⟩
        · rw [among_not no] at k
          exact iteF k)) pa_nil)))) ?_)
    rintro σ H Q ⟨v, b0, xs, o, ca, Cs, e10, e11, hv, e1, dg, hc, hl, k⟩
    refine ⟨_, e11, _, rfl, ?_⟩
    cases b0 with
    | false => exact iteF (k H (Same.refl H))
    | true =>
      obtain ⟨t, rfl, ht, l25, gi⟩ := hv rfl
      refine iteT ⟨_, e10, t, rfl, ⟨_, ht⟩, fun DL nD => ?_⟩
      refine lc_all walk_tup nD (fun i => V.bl (amongB (xs.getD i .non) Cs)) (by rw [sizeLine_eq]; omega) (fun G sG => same_tup sG ht) ?_ ?_
      · rintro i x G4 G5 Kt hi4 sG ⟨rfl, hx⟩ hK
        refine ⟨?_, x, o, ca, Cs, ?_, ?_, dg _ sG, sG _ _ hc, (gi x (List.mem_of_getElem? hx)).same sG, ?_⟩
        · exact wipe_set hl
        · exact slot_set hl
        · exact slot1_set hl e1
        · have := hK _ (Same.refl _)
          rw [List.getD_eq_getElem?_getD, hx] at this
          exact this
      · intro G sG hDL
        rw [bits xs fun x => amongB x Cs] at hDL
        refine ⟨DL, _, rfl, SqL.of hDL, ?_⟩
        have := k G sG
        rw [Bool.true_and] at this
        have e : (xs.map fun x => amongB x Cs).all id = xs.all fun x => amongB x Cs := by
          rw [List.all_map]
          rfl
        rw [e]
        exact this
  case mk1 =>
    exact ps_set (i := 12) scWalks.nd rfl (Or.inl rfl) (pe_lst (pa_cons (pe_lamv (params := lmP wLam1) (body := lmB wLam1) (scope := lmS (defScope sWalks) wLam1) TB rfl hmT huT (lamS_by (by show lamSB (defScope sWalks) _ = true; decide +kernel)) (by rfl)) pa_nil))
  case mk2 =>
    exact ps_expr (pe_bm PySem.F.plainAttrs_list PySem.F.slot_list_append PySem.F.type_list_append mt_append (pv 12) (pa_cons (pe_lamv (params := lmP wLam2) (body := lmB wLam2) (scope := lmS (defScope sWalks) wLam2) TB rfl hmT huT (lamS_by (by show lamSB (defScope sWalks) _ = true; decide +kernel)) (by rfl)) pa_nil))
  case lp =>
    refine' ps_for PassesOwn.never rfl (pi_list (pe_lcS (te := fun σ0 => tOp (rIxT K) (fun σ' H' Q => tVar 16 σ' H' fun v G => ∃ (j : Bool) (f' c' : Addr), v = .ref f' ∧ G f' = some ((famW K C CW j).o (cxW P w K mg base f c A0 outer s H) f' c') ∧ G c' = some (CodeO c' qWk) ∧ TTk K B (fun E G' R => (famW K C CW j).t E σ0 G' R) G Q) (tC (.int 0))) (own := [("_law_look", 16)]) (g := gName 16) (tt := tYes) rfl scWalks.nd (pi_list (pv 12)) (blkOk_by (own := [("_law_look", 16)]) (N := nWk) (sc := defScope sWalks) (by decide +kernel))
      (fun _ _ _ _ _ => pg_name (i := 16) scWalks.nd rfl (Or.inl rfl)) (fun _ _ _ _ _ => pts_nil)
      (fun pins σ s H C' cl fp I0 f0 => by exact pe_ix ix_tup (pe_toldv (famW K C CW) I0 f0 (k := 4) (Ng := nT) (TT := TTk K B) rfl mT kT_ lT cT bT scTold rfl (Or.inl rfl) (told_gives Z.box) TTk.held hr famL famB famO (pv 16)) pe_int (fun _ _ => rfl)))) (pg_name (i := 13) scWalks.nd rfl (Or.inl rfl)) (pss_cons (ps_if (pt_imp (t' := tF1 K CW) (PW.pt (pw_or (pt_cmpR op_ne (pv 11) (pe_cmp (pc_isN (pv 13)) rfl) (nomark _)) (pw_or1 (PW.pt (pw_and (pt_not (pt_val (pv 11))) (pw_and1 (pt_not (pt_val (pe_callB (call_isErrQ Z.dsc) rfl T.isinstance (by decide +kernel) (pa_cons (pv 13) (pa_cons (pe_glob (v := .ref CW) rfl Z.ew.ec.mg rfl) pa_nil))))))))))) ?w1) (pss_one (ps_ret pe_bl)) pss_nil)
      (pss_one (ps_if (pt_imp (t' := tF1 K CW) (PW.pt (pw_and (pt_not (pt_val (pv 11))) (pw_and1 (pt_cmpR op_ne (pe_callB (call_repr hG hr.units) rfl T.repr (by decide +kernel) (pa_cons (pe_errq (pv 13)) pa_nil)) (pe_callB (call_repr hG hr.units) rfl T.repr (by decide +kernel) (pa_cons (pv 10) pa_nil)) (nomark _))))) ?w2) (pss_one (ps_ret pe_bl)) pss_nil)))
    · rintro σ H Q ⟨b, cv, v, e11, e13, e10, h1, h2, gv, k⟩
      refine ⟨_, e11, _, e13, rfl, _, rfl, ?_⟩
      cases b with
      | true =>
        rw [h1 rfl]
        exact iteF ⟨_, e11, _, rfl, iteF k⟩
      | false =>
        obtain ⟨a, d, rfl, er⟩ := h2 rfl
        refine iteF ⟨_, e11, _, rfl, iteT ⟨_, e13, a, CW, d, _, _, _, true, rfl, .own CW, Z.ew.ec.er, er, kit_self, _, rfl, ?_⟩⟩
        exact k
    · rintro σ H Q ⟨b, cv, v, e11, e13, e10, h1, h2, gv, k⟩
      refine ⟨_, e11, _, rfl, ?_⟩
      cases b with
      | true => exact iteF k
      | false =>
        obtain ⟨a, d, rfl, er⟩ := h2 rfl
        obtain ⟨dv, hdv, sdv⟩ := gv.le (show 2 ≤ 3 by decide)
        refine iteT ⟨_, e13, a, CW, d, _, _, rfl, Z.ew.ec.er, Z.ew.ec.no, er, vf_get _, _, dv, 3, rfl, hdv, by decide, sdv, signs3, _, e10, _, dv, 3, rfl, hdv, by decide, sdv, signs3, rfl, _, rfl, ?_⟩
        rw [ne_self]
        exact k
  case main =>
    obtain ⟨ca, aa, sa, ra, kvs, h1, h2, h3, h4, h5, h6⟩ := hO.ex
    obtain ⟨npo, h1⟩ := mk_some h1
    obtain ⟨npc, h2⟩ := mk_some h2
    obtain ⟨npr, h5⟩ := mk_some h5
    have h6m := h6
    have h6 := h6.same (mk_self p H)
    have hDH := hD.same (mk_self p H)
    have dK := fun (x : Str) (G : Hp) (e : G o = some (.dK [(.inr ("calls" : Str), .ref ca), (.inr ("answers" : Str), .ref aa), (.inr ("states" : Str), .ref sa), (.inr ("rows" : Str), .ref ra)])) => DGet.k (k := Sum.inr x) e
    obtain ⟨cl0, cr, ec⟩ : ∃ y l, D.calls = y :: l := List.exists_cons_of_length_pos (by have := dr.c1; omega)
    have c3 := dr.c1
    refine ⟨_, rfl, p, 6, b, rfl, hp, by omega, by decide, by decide, fun k1 H1 k10 k11 but1 pot1 => ⟨_, _, rfl, rfl, _, rfl, p, 25, b + 1, rfl, pot1, by omega, by decide, by decide, fun k2 H2 k20 k21 but2 pot2 => ⟨(by show 4 ≤ sizeLine; decide), fun t nt => ⟨t, rfl, ⟨_, .inl (.inl upd_same)⟩, ?_⟩⟩⟩⟩
    have b3 : But p H (upd H2 t (.tup [.int 0, .int 24, .int (1 + k1), .int k2])) := (but1.trans but2).trans (But.of (same_new nt _))
    have p3 : PotAt (upd H2 t (.tup [.int 0, .int 24, .int (1 + k1), .int k2])) p (b + 2) := pot2.same (same_new nt _)
    have ht3 : (upd H2 t (.tup [.int 0, .int 24, .int (1 + k1), .int k2])) t = some (.tup [.int 0, .int 24, .int (1 + k1), .int k2]) := upd_same
    have ntp : t ≠ p := fun z => pot2.there (by rw [← z]; exact nt)
    show _
    generalize upd H2 t (.tup [.int 0, .int 24, .int (1 + k1), .int k2]) = H3 at b3 p3 ht3 ⊢
    clear but1 but2 pot1 pot2 nt
    refine for_it walk_tup (fun i σ G => ∃ v4 v5 v6 v7 B, σ = [some (.ref p), some (.ref o), some (.ref x), some (.str s0), v4, v5, v6, v7, none, none, none, none, none, none, none, none, none] ∧ But p H3 G ∧ PotAt G p B ∧ B ≤ b + 2 + 24 * i) ⟨_, _, _, _, _, rfl, fun _ _ h _ => h, p3, by omega⟩ (fun i σ G _ ⟨_, _, _, _, _, _, bG, _⟩ => .inl (.inl (bG _ _ ht3 ntp))) ?_ ?_
    · rintro i y σ G G' hi ⟨v4, v5, v6, v7, B4, rfl, bG, pG, hB4⟩ ⟨rfl, hy⟩
      obtain ⟨n, rfl, n0, n24⟩ : ∃ n : Int, y = .int n ∧ 0 ≤ n ∧ n ≤ 24 := by
        have hi : i < 4 := hi
        match i, hi, hy with
        | 0, _, hy => exact ⟨0, (Option.some.inj hy).symm, by decide, by decide⟩
        | 1, _, hy => exact ⟨24, (Option.some.inj hy).symm, by decide, by decide⟩
        | 2, _, hy => exact ⟨1 + k1, (Option.some.inj hy).symm, by omega, by omega⟩
        | 3, _, hy => exact ⟨k2, (Option.some.inj hy).symm, by omega, by omega⟩
      have hi4 : i < 4 := hi
      have bHG : But p H G' := b3.trans bG
      refine ⟨_, rfl, _, rfl, by omega, by omega, fun DL nDL => ?_⟩
      have ndp : DL ≠ p := fun z => pG.there (by rw [← z]; exact nDL)
      have nd3 : H3 DL = none := by
        cases e : H3 DL with
        | none => rfl
        | some u => rw [bG _ _ e ndp] at nDL; cases nDL
      refine lc_it (walk_range (lo := 0)) (D := DL) (g := gName 14) (tt := tYes) (te := tCall (spOf K) [] E0 (tCons (tVar 0) (tCons (tDGet (tVar 1) (tC (.str "calls"))) tNil))) (vs := [14]) (fun j F => ∃ ws : List Str, But p H3 F ∧ PotAt F p (B4 + j) ∧ F DL = some (.lst (ws.map V.str)) ∧ ws.length = j ∧ ∀ y ∈ ws, y ∈ D.calls)
        ⟨[], bG.trans (But.of (same_new nDL _)), pG.same (same_new nDL _), upd_same, rfl, fun _ h => nomatch h⟩ (fun _ _ _ _ => trivial) ?_ ?_
      · rintro j y F F' hj ⟨ws, bF, pF, dF, lF, mF'⟩ ⟨rfl, rfl⟩
        refine ⟨rfl, ?_⟩
        have bHF := b3.trans bF
        have hjn : j < n.toNat := hj
        refine ⟨_, rfl, _, rfl, o, _, rfl, dK "calls" F' (bHF _ _ h1 npo), p, ca, D.calls.map V.str, _, rfl, pF, by omega, SqL.of (bHF _ _ h2 npc), by rw [List.length_map]; omega, by rw [List.length_map]; omega, npc, fun z F6 hz b6 p6 => ?_⟩
        obtain ⟨c', hc', rfl⟩ := List.mem_map.mp hz
        have d6 := b6 _ _ dF ndp
        refine ⟨_, d6, by rw [List.length_map, sizeLine_eq]; omega, ws ++ [c'], ?_, ?_, ?_, ?_, ?_⟩
        · intro a u ha ne
          rw [upd_ne (ne_of_none ha nd3)]
          exact b6 _ _ (bF _ _ ha ne) ne
        · exact p6.upd ndp
        · rw [upd_same, List.map_append]
          rfl
        · rw [List.length_append, lF]
          rfl
        · intro y hy
          rcases List.mem_append.mp hy with h | h
          · exact mF' y h
          · rw [List.mem_singleton.mp h]
            exact hc'
      · rintro F ⟨ws, bF, pF, dF, lF, mF'⟩
        refine ⟨DL, _, rfl, .inl ⟨SqL.of dF, fun tw ntw => ?_⟩⟩
        have l24 : ws.length ≤ 24 := by omega
        have ntwp : tw ≠ p := fun z => pF.there (by rw [← z]; exact ntw)
        have b5 : But p H3 (upd F tw (.tup (ws.map V.str))) := bF.trans (But.of (same_new ntw _))
        have p5 : PotAt (upd F tw (.tup (ws.map V.str))) p (B4 + n.toNat) := pF.same (same_new ntw _)
        have h5w : (upd F tw (.tup (ws.map V.str))) tw = some (.tup (ws.map V.str)) := upd_same
        show _
        generalize upd F tw (.tup (ws.map V.str)) = F5 at b5 p5 h5w ⊢
        have bHF := b3.trans b5
        refine ⟨_, rfl, _, rfl, _, rfl, o, ra, tw, s0, ws, D, rfl, fun G6 s6 => dK "rows" G6 (s6 _ _ (bHF _ _ h1 npo)), ⟨kvs, .inl (bHF _ _ h5 npr), (h6m.same (mk_but bHF)).same (mk_self p F5)⟩, dr.full0, inS, mF', .inl (.inl h5w), by omega, fun q0 a0 G6 s6 hq0 ha0 => ?_⟩
        refine ⟨q0, _, rfl, .inl (.inl hq0), rfl, _, _, rfl, _, _, rfl, rfl, ?_⟩
        have hDev : DevAt K G6 x C txt DR := ((hD.same (mk_but bHF)).same (mk_self p F5)).same s6
        obtain ⟨dx, c0, a00, s00, g00, hx, _⟩ := id hDev
        have hw6 := s6 _ _ h5w
        have wk : ∀ {G7 : Hp}, Same G6 G7 → WalkIs K G7 DR.calls (.ref tw) true ws := fun {G7} s7 => .inl ⟨tw, ws.map V.str, rfl, .inl (.inl (s7 _ _ hw6)), by rw [List.length_map]; omega, fun z hz G8 s8 => by
          obtain ⟨y, _, rfl⟩ := List.mem_map.mp hz
          exact .inl ⟨y, rfl⟩, by
          rw [List.length_map, decide_eq_true (by omega), Bool.true_and]
          exact (List.all_eq_true.mpr fun z hz => by
            obtain ⟨y, hy, rfl⟩ := List.mem_map.mp hz
            exact List.contains_iff_mem.mpr (by rw [ecalls]; exact mF' y hy)).symm, fun _ => rfl⟩
        refine ⟨_, rfl, x, dx, _, rfl, hx, rfl, _, rfl, x, .ref tw, txt, DR, true, ws, rfl, hDev, FD, wk (Same.refl G6), (fun z => by cases z), fun _ aH G7 s7 haH => ?_⟩
        refine ⟨_, rfl, x, dx, _, rfl, s7 _ _ hx, rfl, _, rfl, x, .ref tw, txt, DR, true, ws, rfl, hDev.same s7, FD, wk s7, (fun z => by cases z), fun _ G8 s8 => ?_⟩
        rw [ehd, hrun ws mF'] at haH
        rw [ehd, hrun ws mF']
        have an := run_names dr inS mF'
        have sn := dr.full0.run inS mF'
        have rl := run_len D ws s0
        generalize runD D s0 ws = RD at hq0 ha0 haH an sn rl ⊢
        obtain ⟨as_, sE⟩ := RD
        dsimp only at hq0 ha0 haH an sn rl ⊢
        have small2 : small 3 (.tuple [.tuple (as_.map PyData.str), .str sE]) = true := by
          have e1 := smalls_names (n := 1) fun y hy => dr.aw y (an y hy)
          have e2 := name_small (dr.sw sE sn)
          simp only [small, smalls, Bool.and_eq_true, decide_eq_true_eq, List.length_map, List.length_cons, List.length_nil]
          refine ⟨by omega, ⟨by omega, e1⟩, ?_, trivial⟩
          simpa only [small, Bool.and_eq_true, decide_eq_true_eq] using e2
        refine ⟨(by show 2 ≤ sizeLine; decide), fun r1_ nr1 => ?_⟩
        have s9 := same_new nr1 (.tup [.ref aH, .str sE])
        have hr1 : (upd G8 r1_ (.tup [.ref aH, .str sE])) r1_ = some (.tup [.ref aH, .str sE]) := upd_same
        have haH9 := s9 _ _ (s8 _ _ haH)
        have s69 := (s7.trans s8).trans s9
        have ha09 := s69 _ _ ha0
        show _
        generalize upd G8 r1_ (.tup [.ref aH, .str sE]) = G9 at s9 hr1 haH9 s69 ha09 ⊢
        refine ⟨.ref r1_, _, 3, rfl, .flat (.tup (.inl (.inl hr1)) (.cons (.tup (.inl (.inl haH9)) (DpAll_strs as_)) (.cons (.str sE) .nil))), by decide, small2, signs3, _, rfl, _, rfl, (by show 2 ≤ sizeLine; decide), fun r2_ nr2 => ?_⟩
        have s10 := same_new nr2 (.tup [.ref a0, .str sE])
        have hr2 : (upd G9 r2_ (.tup [.ref a0, .str sE])) r2_ = some (.tup [.ref a0, .str sE]) := upd_same
        have ha10 := s10 _ _ ha09
        show _
        generalize upd G9 r2_ (.tup [.ref a0, .str sE]) = G10 at s10 hr2 ha10 ⊢
        refine ⟨.ref r2_, _, 3, rfl, .flat (.tup (.inl (.inl hr2)) (.cons (.tup (.inl (.inl ha10)) (DpAll_strs as_)) (.cons (.str sE) .nil))), by decide, small2, signs3, rfl, _, rfl, ?_⟩
        refine iteNS rfl ?_
        have sAll := (s6.trans s69).trans s10
        exact ⟨_, _, _, _, _, rfl, b5.trans (But.of sAll), p5.same sAll, by omega⟩
    · rintro σ G ⟨v4, v5, v6, v7, B4, rfl, bG, pG, hB4⟩
      have hB : B4 ≤ b + 98 := by
        have e : ([V.int 0, V.int 24, V.int (1 + k1), V.int k2] : List V).length = 4 := rfl
        rw [e] at hB4
        omega
      have bHG := b3.trans bG
      have oG := bHG _ _ h1 npo
      have cG := bHG _ _ h2 npc
      rw [ec] at cG
      have cS : small 0 (.str cl0) = true := name_small (dr.cw cl0 (by rw [ec]; exact List.mem_cons_self))
      refine ⟨_, rfl, o, _, rfl, dK "calls" G oG, ca, _, _, _, rfl, rfl, SqL.of cG, atI_nat (j := 0) rfl, ?_⟩
      clear bG hB4 ntp
      have gs : ∀ {F : Hp}, Gx K 2 F (.str cl0) := Gx.str cS
      have ds : ∀ {F : Hp} {n : Nat}, Gd K n F (.str cl0) := ⟨.str cl0, .str cl0, small_le (Nat.zero_le _) cS⟩
      -- the values
      refine ⟨_, rfl, (by show 1 ≤ sizeLine; decide), fun t1 nt1 => ⟨t1, 25, [.str cl0], rfl, rfl, .inl (.inl upd_same), (by simp), by decide, by decide, (by simp), fun t2 nt2 => ?_⟩⟩
      have s1 := (same_new nt1 (.tup [.str cl0])).trans (same_new nt2 (.tup (List.replicate (25 : Int).toNat [V.str cl0]).flatten))
      have ht2 : (upd (upd G t1 (.tup [.str cl0])) t2 (.tup (List.replicate (25 : Int).toNat [V.str cl0]).flatten)) t2 = some (.tup (List.replicate (25 : Int).toNat [V.str cl0]).flatten) := upd_same
      show _
      generalize upd (upd G t1 (.tup [.str cl0])) t2 (.tup (List.replicate (25 : Int).toNat [V.str cl0]).flatten) = G1 at s1 ht2 ⊢
      refine ⟨_, rfl, (by show 1 ≤ sizeLine; decide), fun l2 nl2 => ?_⟩
      have uu := same_new nl2 (.lst [.str cl0])
      have s2 := s1.trans uu
      have ht2 := uu _ _ ht2
      have hl2 : (upd G1 l2 (.lst [.str cl0])) l2 = some (.lst [.str cl0]) := upd_same
      clear uu
      show _
      generalize upd G1 l2 (.lst [.str cl0]) = G2 at s2 ht2 hl2 ⊢
      refine ⟨_, rfl, _, rfl, (by show 2 ≤ sizeLine; decide), fun t6 nt6 => ?_⟩
      have uu := same_new nt6 (.tup [.str cl0, .str "nosuch"])
      have s3 := s2.trans uu
      have ht2 := uu _ _ ht2
      have hl2 := uu _ _ hl2
      have ht6 : (upd G2 t6 (.tup [.str cl0, .str "nosuch"])) t6 = some (.tup [.str cl0, .str "nosuch"]) := upd_same
      clear uu
      show _
      generalize upd G2 t6 (.tup [.str cl0, .str "nosuch"]) = G3 at s3 ht2 hl2 ht6 ⊢
      refine ⟨_, rfl, (by show 2 ≤ sizeLine; decide), fun t7 nt7 => ?_⟩
      have uu := same_new nt7 (.tup [.str cl0, .non])
      have s4 := s3.trans uu
      have ht2 := uu _ _ ht2
      have hl2 := uu _ _ hl2
      have ht6 := uu _ _ ht6
      have ht7 : (upd G3 t7 (.tup [.str cl0, .non])) t7 = some (.tup [.str cl0, .non]) := upd_same
      clear uu
      show _
      generalize upd G3 t7 (.tup [.str cl0, .non]) = G4 at s4 ht2 hl2 ht6 ht7 ⊢
      refine ⟨(by show 1 ≤ sizeLine; decide), fun t8 nt8 => ?_⟩
      have uu := same_new nt8 (.tup [.int 0])
      have s5 := s4.trans uu
      have ht2 := uu _ _ ht2
      have hl2 := uu _ _ hl2
      have ht6 := uu _ _ ht6
      have ht7 := uu _ _ ht7
      have ht8 : (upd G4 t8 (.tup [.int 0])) t8 = some (.tup [.int 0]) := upd_same
      clear uu
      show _
      generalize upd G4 t8 (.tup [.int 0]) = G5 at s5 ht2 hl2 ht6 ht7 ht8 ⊢
      refine ⟨_, rfl, (by show 1 ≤ sizeLine; decide), fun t9 nt9 => ?_⟩
      have uu := same_new nt9 (.tup [.str cl0])
      have s6 := s5.trans uu
      have ht2 := uu _ _ ht2
      have hl2 := uu _ _ hl2
      have ht6 := uu _ _ ht6
      have ht7 := uu _ _ ht7
      have ht8 := uu _ _ ht8
      have ht9 : (upd G5 t9 (.tup [.str cl0])) t9 = some (.tup [.str cl0]) := upd_same
      clear uu
      show _
      generalize upd G5 t9 (.tup [.str cl0]) = G6 at s6 ht2 hl2 ht6 ht7 ht8 ht9 ⊢
      refine ⟨(by show 1 ≤ sizeLine; decide), fun ta nta => ?_⟩
      have uu := same_new nta (.tup [.ref t9])
      have s7 := s6.trans uu
      have ht2 := uu _ _ ht2
      have hl2 := uu _ _ hl2
      have ht6 := uu _ _ ht6
      have ht7 := uu _ _ ht7
      have ht8 := uu _ _ ht8
      have ht9 := uu _ _ ht9
      have hta : (upd G6 ta (.tup [.ref t9])) ta = some (.tup [.ref t9]) := upd_same
      clear uu
      show _
      generalize upd G6 ta (.tup [.ref t9]) = G7 at s7 ht2 hl2 ht6 ht7 ht8 ht9 hta ⊢
      refine ⟨(by show 9 ≤ sizeLine; decide), fun lv nlv => ?_⟩
      have npt : ∀ {a : Addr} {F : Hp}, Same G F → F a = none → a ≠ p := fun sF nF z => (Same.there sF pG.there) (by rw [← z]; exact nF)
      have ntp2 : t2 ≠ p := fun z => by
        obtain ⟨own, sm, k, e, _⟩ := pG.same s7
        rw [← z, ht2] at e
        cases e
      have vals : ∀ v ∈ ([.ref t2, .ref l2, .str cl0, .non, .int 0, .ref t6, .ref t7, .ref t8, .ref ta] : List V), Gd K 2 (mk p G7) v := by
        have d0 : Gd K 1 (mk p G7) (.str cl0) := ds
        have dn : Gd K 1 (mk p G7) .non := ⟨.none, .non, by simp only [small]⟩
        have di : Gd K 1 (mk p G7) (.int 0) := ⟨.int 0, .int 0, by simp only [small]; decide⟩
        have dx : Gd K 1 (mk p G7) (.str "nosuch") := ⟨.str _, .str _, by simp only [small]; decide +kernel⟩
        intro v hv
        simp only [List.mem_cons, List.not_mem_nil, or_false] at hv
        rcases hv with rfl | rfl | rfl | rfl | rfl | rfl | rfl | rfl | rfl
        · refine Gd.tup (Gds.of_mem fun y hy => ?_) ?_ (.inl (.inl (mk_of ntp2 ht2)))
          · obtain ⟨l, hl, hy⟩ := List.mem_flatten.mp hy
            rw [List.eq_of_mem_replicate hl] at hy
            rw [List.mem_singleton.mp hy]
            exact d0
          · show (List.replicate 25 [V.str cl0]).flatten.length ≤ 25
            simp
        · exact Gd.lst (.cons d0 .nil) (by simp) (SqL.of (mk_of (npt s1 nl2) hl2))
        · exact d0.le (by decide)
        · exact dn.le (by decide)
        · exact di.le (by decide)
        · exact Gd.tup (.cons d0 (.cons dx .nil)) (by simp) (.inl (.inl (mk_of (npt s2 nt6) ht6)))
        · exact Gd.tup (.cons d0 (.cons dn .nil)) (by simp) (.inl (.inl (mk_of (npt s3 nt7) ht7)))
        · exact Gd.tup (.cons di .nil) (by simp) (.inl (.inl (mk_of (npt s4 nt8) ht8)))
        · exact Gd.tup (.cons (Gd.tup (.cons ds .nil) (by simp) (.inl (.inl (mk_of (npt s5 nt9) ht9)))) .nil) (by simp) (.inl (.inl (mk_of (npt s6 nta) hta)))
      have s8 := s7.trans (same_new nlv (.lst [.ref t2, .ref l2, .str cl0, .non, .int 0, .ref t6, .ref t7, .ref t8, .ref ta]))
      have hlv : (upd G7 lv (.lst [.ref t2, .ref l2, .str cl0, .non, .int 0, .ref t6, .ref t7, .ref t8, .ref ta])) lv = some (.lst [.ref t2, .ref l2, .str cl0, .non, .int 0, .ref t6, .ref t7, .ref t8, .ref ta]) := upd_same
      have vals8 : ∀ v ∈ ([.ref t2, .ref l2, .str cl0, .non, .int 0, .ref t6, .ref t7, .ref t8, .ref ta] : List V), Gd K 2 (mk p (upd G7 lv (.lst [.ref t2, .ref l2, .str cl0, .non, .int 0, .ref t6, .ref t7, .ref t8, .ref ta]))) v := fun v hv => (vals v hv).same (mk_up (same_new nlv (.lst _)))
      have nlvp : lv ≠ p := npt s7 nlv
      show _
      generalize upd G7 lv (.lst [.ref t2, .ref l2, .str cl0, .non, .int 0, .ref t6, .ref t7, .ref t8, .ref ta]) = G8 at s8 hlv vals8 ⊢
      have len9 : ([.ref t2, .ref l2, .str cl0, .non, .int 0, .ref t6, .ref t7, .ref t8, .ref ta] : List V).length = 9 := rfl
      generalize ([.ref t2, .ref l2, .str cl0, .non, .int 0, .ref t6, .ref t7, .ref t8, .ref ta] : List V) = vs0 at vals8 hlv len9
      clear vals ht2 hl2 ht6 ht7 ht8 ht9 hta s1 s2 s3 s4 s5 s6 s7
      have bH8 : But p H G8 := bHG.trans (But.of s8)
      have p8 := pG.same s8
      refine ⟨_, rfl, _, rfl, p, B4, rfl, p8, by omega, fun x0 G9 b9 p9 g0 => ⟨_, rfl, p, B4 + 1, rfl, p9, by omega, fun x1 GA bA_ pA g1 => ⟨(by show 2 ≤ sizeLine; decide), fun lo nlo => ?_⟩⟩⟩
      have m0 : Gx K 2 (mk p GA) x0 := (g0.same (mn_mk p8.there)).same (mk_but bA_)
      have m1 : Gx K 2 (mk p GA) x1 := g1.same (mn_mk p9.there)
      have hlvA := (b9.trans bA_) _ _ hlv nlvp
      have valsA : ∀ v ∈ vs0, Gx K 2 (mk p GA) v := fun v hv => ((vals8 v hv).same (mk_but (b9.trans bA_))).x
      have uo := same_new nlo (.lst [x0, x1])
      have hlo : (upd GA lo (.lst [x0, x1])) lo = some (.lst [x0, x1]) := upd_same
      have nlop : lo ≠ p := new_ne pA.there nlo
      have bHA := (bH8.trans b9).trans bA_
      show _
      generalize upd GA lo (.lst [x0, x1]) = GB_ at uo hlo ⊢
      refine ⟨lv, lo, _, _, rfl, rfl, uo _ _ hlvA, hlo, by rw [len9, sizeLine_eq]; show 9 + 2 ≤ 16777216; decide, fun la nla => ?_⟩
      have ua := same_new nla (.lst (vs0 ++ [x0, x1]))
      have hla : (upd GB_ la (.lst (vs0 ++ [x0, x1]))) la = some (.lst (vs0 ++ [x0, x1])) := upd_same
      have sC := uo.trans ua
      show _
      generalize upd GB_ la (.lst (vs0 ++ [x0, x1])) = GC at ua hla sC ⊢
      have bHC : But p H GC := bHA.trans (But.of sC)
      have pC : PotAt GC p (B4 + 2) := pA.same sC
      have valsC : ∀ v ∈ vs0 ++ [x0, x1], Gx K 2 GC v := fun v hv => by
        have h : Gx K 2 (mk p GA) v := by
          rcases List.mem_append.mp hv with h | h
          · exact valsA v h
          · rcases List.mem_cons.mp h with rfl | h
            · exact m0
            · rw [List.mem_singleton.mp h]
              exact m1
        exact (h.same (mk_up sC)).same (mk_self p GC)
      have lenC : (vs0 ++ [x0, x1]).length = 11 := by rw [List.length_append, len9] <;> rfl
      have tC_ : Tabs (tTab P1 P2 P3) GC := Tabs.but bHC hp hT
      have oC := bHC _ _ h1 npo
      have cC := bHC _ _ h2 npc
      have dC : DevAt K GC x C txt DR := (hD.same (mk_but bHC)).same (mk_self p GC)
      generalize vs0 ++ [x0, x1] = vs1 at hla valsC lenC
      clear m0 m1 g0 g1 valsA vals8 hlo hlvA hlv uo ua sC
      refine ⟨la, rfl, ⟨_, SqL.of hla⟩, ?_⟩
      refine for_it walk_list (fun i σ F => ∃ x10 x11 x12 x13, σ = [some (.ref p), some (.ref o), some (.ref x), some (.str s0), v4, v5, v6, v7, some (.str cl0), some (.ref lv), x10, x11, x12, x13, none, none, none] ∧ ExtN GC F ∧ Tabs (tTab P1 P2 P3) F) ⟨_, _, _, _, rfl, ExtN.refl _, tC_⟩ (fun i σ F _ ⟨_, _, _, _, _, e, _⟩ => SqL.of (e _ _ hla (fun ps z => by cases z))) ?_ ?_
      · rintro i v σ F F' hi ⟨x10, x11, x12, x13, rfl, eF, tF⟩ ⟨rfl, hv⟩
        have gv : Gx K 2 F' v := (valsC v (List.mem_of_getElem? hv)).ext eF
        have oF := eF _ _ oC (fun ps z => by cases z)
        have cF := eF _ _ cC (fun ps z => by cases z)
        have dF : DevAt K F' x C txt DR := dC.ext eF
        obtain ⟨b0, xs, hA, hB, ws, hW⟩ : ∃ (b0 : Bool) (xs : List V), ((∃ (t : Addr) (xs' : List V), v = .ref t ∧ SqT K F' t xs' ∧ b0 = decide (xs'.length < 25)) ∨ ∃ ty, TyX K F' v ty ∧ PySem.W.kitOne K ty (.type "tuple") = some false ∧ b0 = false) ∧ (b0 = true → ∃ t : Addr, v = .ref t ∧ SqT K F' t xs ∧ xs.length ≤ 25 ∧ ∀ x ∈ xs, Gx K 2 F' x) ∧
            ∃ ws : List Str, ∀ G', ExtN F' G' → WalkIs K G' DR.calls v (b0 && xs.all fun x => amongB x D.calls) ws := by
          rcases gv.tup with ⟨t, xs, rfl, ht, hl, hg⟩ | no
          · obtain ⟨ws, hws⟩ : ∃ ws : List Str, (decide (xs.length < 25) && xs.all fun x => amongB x D.calls) = true → xs = ws.map V.str := by
              cases e : (decide (xs.length < 25) && xs.all fun x => amongB x D.calls) with
              | false => exact ⟨[], fun z => by cases z⟩
              | true =>
                rw [Bool.and_eq_true] at e
                obtain ⟨ws, ews, _⟩ := all_strs e.2
                exact ⟨ws, fun _ => ews⟩
            refine ⟨_, xs, .inl ⟨t, xs, rfl, ht, rfl⟩, fun _ => ⟨t, rfl, ht, hl, hg⟩, ws, fun G' e => .inl ⟨t, xs, rfl, same_tup (mt_self G') (same_tup (mt_ext e) (SqT.mt ht)), by omega, fun z hz G2 s2 => (((hg z hz).ext e).same s2).strOr, ?_, hws⟩⟩
            rw [ecalls]
            have e : decide (xs.length < 25) = decide ((xs.length : Int) ≤ 24) := by
              by_cases h : xs.length < 25
              · rw [decide_eq_true h, decide_eq_true (by omega)]
              · rw [decide_eq_false h, decide_eq_false (by omega)]
            rw [e]
          · obtain ⟨ty, hty, kk⟩ := no F' (ExtN.refl _)
            exact ⟨false, [], .inr ⟨ty, hty, kk, rfl⟩, (fun z => by cases z), [], fun G' e => let ⟨ty', hty', kk'⟩ := no G' e; .inr ⟨ty', hty', kk', rfl⟩⟩
        generalize hbW : (b0 && xs.all fun x => amongB x D.calls) = bW at hW
        refine ⟨v, b0, rfl, hA, v, b0, xs, o, ca, D.calls, rfl, rfl, hB, rfl, (fun G5 s5 => dK "calls" G5 (s5 _ _ oF)), cF, rfl, fun G1 s1 => ?_⟩
        rw [hbW]
        refine ⟨tF.ext s1, fun f1 c1 G2 e2 t2 nf1 hf1 hc1 => ⟨(by show 1 ≤ sizeLine; decide), fun lw nlw => ?_⟩⟩
        have e12 : ExtN F' G2 := (ExtN.of s1).trans e2
        have s3 := same_new nlw (.lst [V.ref f1])
        have t3 := t2.ext s3
        have hw3 : (upd G2 lw (.lst [V.ref f1])) lw = some (.lst [V.ref f1]) := upd_same
        have hf13 := s3 _ _ hf1
        have hc13 := s3 _ _ hc1
        have e3 := e12.trans (ExtN.of s3)
        show _
        generalize upd G2 lw (.lst [V.ref f1]) = G3 at s3 t3 hw3 hf13 hc13 e3 ⊢
        refine ⟨_, rfl, .inl ⟨rfl, _, SqL.of hw3⟩, t3, fun f2 c2 G4 e4 t4 nf2 hf2 hc2 => ⟨lw, _, _, rfl, rfl, e4 _ _ hw3 (fun ps z => by cases z), (by show 1 + 1 ≤ sizeLine; decide), ?_⟩⟩
        have hw4 := e4 _ _ hw3 (fun ps z => by cases z)
        have hf14 := e4 _ _ hf13 (Lam.o_tbl (famW K C CW true) (cxW P w K mg base f c A0 outer s H) f1 c1)
        have hc14 := e4 _ _ hc13 codeO_ne
        have e04 := e3.trans e4
        have nwF : ∀ o', F' lw = some o' → ∃ ps, o' = .tbl ps := fun o' h => by
          by_cases z : ∃ ps, o' = .tbl ps
          · exact z
          · have := e12 _ _ h (fun ps y => z ⟨ps, y⟩)
            rw [nlw] at this
            cases this
        have t5 : Tabs (tTab P1 P2 P3) (upd G4 lw (.lst ([V.ref f1] ++ [V.ref f2]))) := tabs_upd hw4 t4
        have e05 : ExtN F' (upd G4 lw (.lst ([V.ref f1] ++ [V.ref f2]))) := fun b' o' h nt => by
          by_cases z : b' = lw
          · rw [z] at h
            obtain ⟨ps, e⟩ := nwF o' h
            exact absurd e (nt ps)
          · rw [upd_ne z]
            exact e04 _ _ h nt
        have hw5 : (upd G4 lw (.lst ([V.ref f1] ++ [V.ref f2]))) lw = some (.lst [V.ref f1, V.ref f2]) := upd_same
        have st5 : ∀ {b' : Addr} {o' : HO}, G4 b' = some o' → (∀ xs, o' ≠ .lst xs) → (upd G4 lw (.lst ([V.ref f1] ++ [V.ref f2]))) b' = some o' := fun {b' o'} h n => by
          rw [upd_ne (fun z => by rw [z, hw4] at h; exact n _ (Option.some.inj h).symm)]
          exact h
        have hf15 := st5 hf14 (fun xs z => by
          have z' : HO.ext _ = HO.lst xs := z
          cases z')
        have hc15 := st5 hc14 (fun xs z => by
          have z' : HO.ext _ = HO.lst xs := z
          cases z')
        have hf25 := st5 hf2 (fun xs z => by
          have z' : HO.ext _ = HO.lst xs := z
          cases z')
        have hc25 := st5 hc2 (fun xs z => by
          have z' : HO.ext _ = HO.lst xs := z
          cases z')
        clear st5 hf13 hc13 hf14 hc14 hf1 hc1 hf2 hc2 hw3 hw4 e04 e12 nwF e3 e4 t4 t3 t2 s3
        show _
        generalize upd G4 lw (.lst ([V.ref f1] ++ [V.ref f2])) = G5 at t5 e05 hw5 hf15 hc15 hf25 hc25 ⊢
        refine ⟨_, rfl, lw, rfl, ⟨_, SqL.of hw5⟩, fun DL nDL => ?_⟩
        refine lc_it walk_list (D := DL) (g := gName 16) (tt := tYes) (te := _) (vs := [16]) (fun j Fz => ∃ cvs : List V, ExtN G5 Fz ∧ Tabs (tTab P1 P2 P3) Fz ∧ Fz DL = some (.lst cvs) ∧ cvs.length = j ∧ ∀ cv ∈ cvs, (bW = true → cv = .non) ∧ (bW = false → Caught Fz CW cv v))
          ⟨[], ExtN.of (same_new nDL _), t5.ext (same_new nDL _), upd_same, rfl, fun _ h => nomatch h⟩ (fun j Fz _ ⟨_, e6, _⟩ => SqL.of (e6 _ _ hw5 (fun ps z => by cases z))) ?_ ?_
        · rintro j y F6 F7 hj ⟨cvs, e6, t6, d6, l6, r6⟩ ⟨rfl, hy⟩
          refine ⟨rfl, ?_⟩
          have e06 := e05.trans e6
          have fin : ∀ (u : V) (pp : Addr) (Gz : Hp), (bW = true → u = .non) → (bW = false → Caught Gz CW u v) → ExtN F7 Gz → Tabs (tTab P1 P2 P3) Gz → ∃ acc, Gz DL = some (.lst acc) ∧ acc.length < sizeLine ∧ ∃ cvs : List V, ExtN G5 (upd Gz DL (.lst (acc ++ [u]))) ∧ Tabs (tTab P1 P2 P3) (upd Gz DL (.lst (acc ++ [u]))) ∧ (upd Gz DL (.lst (acc ++ [u]))) DL = some (.lst cvs) ∧ cvs.length = j + 1 ∧ ∀ cv ∈ cvs, (bW = true → cv = .non) ∧ (bW = false → Caught (upd Gz DL (.lst (acc ++ [u]))) CW cv v) := by
            intro u pp Gz hu1 hu2 eG tG
            have dG := eG _ _ d6 (fun ps z => by cases z)
            refine ⟨cvs, dG, by have h2 : j < 2 := hj; rw [l6, sizeLine_eq]; omega, cvs ++ [u], fun b' o' h nt => ?_, tabs_upd dG tG, upd_same, by rw [List.length_append, l6] <;> rfl, fun cv hcv => ?_⟩
            · rw [upd_ne (fun z => by rw [z, nDL] at h; cases h)]
              exact eG _ _ (e6 _ _ h nt) nt
            · rcases List.mem_append.mp hcv with h | h
              · exact ⟨(r6 cv h).1, fun hb => caught_upd dG (((r6 cv h).2 hb).ext eG)⟩
              · rw [List.mem_singleton.mp h]
                exact ⟨hu1, fun hb => caught_upd dG (hu2 hb)⟩
          have hj2 : j < 2 := hj
          match j, hj2, hy with
          | 0, _, hy =>
            obtain rfl := (Option.some.inj hy).symm
            refine ⟨_, rfl, true, f1, c1, rfl, e6 _ _ hf15 (Lam.o_tbl (famW K C CW true) (cxW P w K mg base f c A0 outer s H) f1 c1), e6 _ _ hc15 codeO_ne, ?_⟩
            refine (told_walk (b := bW) (v := v) Z.ew t6 (fun Gz E R eG er rt => ?_) (fun u pp Gz hb eG tG cG hp => ?_) (fun u pp Gz hb eG tG hp => ?_)).2 _ (ExtN.refl _) t6
            · have dz := dF.ext (e06.trans eG)
              obtain ⟨dx, c0, a00, s00, g00, hx, _⟩ := id dz
              exact ⟨_, rfl, x, dx, _, rfl, hx, rfl, _, rfl, x, v, txt, DR, bW, ws, rfl, dz, FD, hW _ (e06.trans eG), fun hb d G' sG nd => er hb d G' sG nd, fun hb aH G' sG _ => rt hb _ G' sG⟩
            · exact ⟨pp, _, 0, _, rfl, rfl, .inl (.inl hp), rfl, fin u pp Gz (fun z => by rw [hb] at z; cases z) (fun _ => cG) eG tG⟩
            · exact ⟨pp, _, 0, _, rfl, rfl, .inl (.inl hp), rfl, fin .non pp Gz (fun _ => rfl) (fun z => by rw [hb] at z; cases z) eG tG⟩
          | 1, _, hy =>
            obtain rfl := (Option.some.inj hy).symm
            refine ⟨_, rfl, false, f2, c2, rfl, e6 _ _ hf25 (Lam.o_tbl (famW K C CW false) (cxW P w K mg base f c A0 outer s H) f2 c2), e6 _ _ hc25 codeO_ne, ?_⟩
            refine (told_walk (b := bW) (v := v) Z.ew t6 (fun Gz E R eG er rt => ?_) (fun u pp Gz hb eG tG cG hp => ?_) (fun u pp Gz hb eG tG hp => ?_)).2 _ (ExtN.refl _) t6
            · have dz := dF.ext (e06.trans eG)
              obtain ⟨dx, c0, a00, s00, g00, hx, _⟩ := id dz
              exact ⟨_, rfl, x, dx, _, rfl, hx, rfl, _, rfl, x, v, txt, DR, bW, ws, rfl, dz, FD, hW _ (e06.trans eG), fun hb d G' sG nd => er hb d G' sG nd, fun hb G' sG => rt hb _ G' sG⟩
            · exact ⟨pp, _, 0, _, rfl, rfl, .inl (.inl hp), rfl, fin u pp Gz (fun z => by rw [hb] at z; cases z) (fun _ => cG) eG tG⟩
            · exact ⟨pp, _, 0, _, rfl, rfl, .inl (.inl hp), rfl, fin .non pp Gz (fun _ => rfl) (fun z => by rw [hb] at z; cases z) eG tG⟩
        · rintro Fz ⟨cvs, e6, t6, d6, l6, r6⟩
          have e0z := e05.trans e6
          refine ⟨DL, rfl, ⟨_, SqL.of d6⟩, ?_⟩
          refine for_it walk_list (fun j σ Fy => ∃ x13, σ = [some (.ref p), some (.ref o), some (.ref x), some (.str s0), v4, v5, v6, v7, some (.str cl0), some (.ref lv), some v, some (.bl bW), some (.ref lw), x13, none, none, none] ∧ Fy = Fz) ⟨_, rfl, rfl⟩ (fun j σ Fy _ ⟨_, _, e⟩ => by rw [e]; exact SqL.of d6) ?_ ?_
          · rintro j y σ Fy Fy' hj ⟨x13, rfl, rfl⟩ ⟨rfl, hy⟩
            obtain ⟨h1', h2'⟩ := r6 y (List.mem_of_getElem? hy)
            have gz := gv.ext e0z
            exact ⟨bW, y, v, rfl, rfl, rfl, h1', h2', gz, iteF ⟨bW, y, v, rfl, rfl, rfl, h1', h2', gz, iteF ⟨_, rfl, rfl⟩⟩⟩
          · rintro σ Fy ⟨x13, rfl, rfl⟩
            exact ⟨_, _, _, _, rfl, eF.trans e0z, t6⟩
      · rintro σ F ⟨x10, x11, x12, x13, rfl, eF, tF⟩
        exact q F tF ((BtR.of bHC).trans (BtR.ex eF)) ⟨_, pC.ext eF, by omega⟩
end
end K03
set_option Elab.async false
set_option linter.all false
set_option maxRecDepth 100000
set_option maxHeartbeats 4000000
/-! What law k03's question of turned devices wants besides. -/
namespace LG
open PySem L2 LamX
def rNotInTxt (K : PySem.W.Frag) : R2 := fun x y H Q => ∃ (z : Str) (p : Addr) (ns : List Str), x = .str z ∧ y = .ref p ∧ (SqL K H p (ns.map V.str) ∨ SqT K H p (ns.map V.str)) ∧ Q (.bl (!ns.contains z)) H
theorem op_notIn_txt {X : Cx} : OpR X (compareOp .NotIn) (rNotInTxt X.K) := by
  intro pins s σ H x y v u Q I rx ry h
  obtain ⟨z, p, ns, rfl, rfl, hq, q⟩ := h
  refine op_notIn_seq pins s σ H _ _ v u Q I rx ry ⟨p, _, rfl, hq, rfl, flat_txt ns, ?_⟩
  rw [inV_str]
  exact q
theorem GR.keys {K : PySem.W.Frag} {H : Hp} {kvs : List (List Key × V)} {g : Goals} (h : GR K H kvs g) : kvs.map (·.1) = g.map fun e => kT e.1 := by
  induction h with
  | nil => rfl
  | cons _ _ ih => rw [List.map_cons, List.map_cons, ih]
theorem GR.put {K : PySem.W.Frag} {H : Hp} {kvs : List (List Key × V)} {g : Goals} {k0 f0 : Str × Str} {t : Addr} (h : GR K H kvs g) (hk : k0 ∈ g.map (·.1)) (a : SqT K H t [.str f0.1, .str f0.2]) : GR K H (putK kvs (kT k0) (.ref t)) (g.map fun e => if e.1 = k0 then (k0, f0) else e) := by
  have any : (kvs.any fun kv => decide (kv.1 = kT k0)) = true := by
    rw [List.any_eq_true]
    obtain ⟨e, he, e1⟩ := List.mem_map.mp hk
    have : kT k0 ∈ kvs.map (·.1) := by
      rw [h.keys]
      exact List.mem_map.mpr ⟨e, he, by rw [e1]⟩
    obtain ⟨kv, hkv, e2⟩ := List.mem_map.mp this
    exact ⟨kv, hkv, decide_eq_true e2⟩
  unfold putK
  rw [if_pos any]
  clear any hk
  induction h with
  | nil => exact .nil
  | @cons k x t' kvs g b _ ih =>
    rw [List.map_cons, List.map_cons]
    by_cases e : k = k0
    · subst e
      rw [if_pos rfl, if_pos rfl]
      exact .cons a ih
    · rw [if_neg (fun z => e (kT_inj.mp z)), if_neg e]
      exact .cons b ih
theorem merge_new : ∀ (kvs acc : List (List Key × V)), ((acc ++ kvs).map (·.1)).Nodup → mergeT acc kvs = acc ++ kvs
  | [], acc, _ => by rw [List.append_nil]; rfl
  | p :: r, acc, nd => by
    have e : putK acc p.1 p.2 = acc ++ [p] := by
      unfold putK
      rw [if_neg]
      rw [List.any_eq_true]
      rintro ⟨kv, hkv, e⟩
      rw [List.map_append, List.map_cons] at nd
      exact (List.nodup_append.mp nd).2.2 kv.1 (List.mem_map.mpr ⟨kv, hkv, rfl⟩) p.1 List.mem_cons_self (of_decide_eq_true e)
    show mergeT (putK acc p.1 p.2) r = _
    rw [e, merge_new r (acc ++ [p]) (by rw [List.append_assoc]; exact nd), List.append_assoc]
    rfl
theorem GR.merge {K : PySem.W.Frag} {H : Hp} {kvs : List (List Key × V)} {g : Goals} {k0 f0 : Str × Str} {t : Addr} (h : GR K H kvs g) (nd : (g.map (·.1)).Nodup) (hk : k0 ∈ g.map (·.1)) (a : SqT K H t [.str f0.1, .str f0.2]) : GR K H (mergeT [] (kvs ++ [(kT k0, .ref t)])) (g.map fun e => if e.1 = k0 then (k0, f0) else e) := by
  have e0 : mergeT [] kvs = kvs := by
    have := merge_new kvs [] (by
      rw [List.nil_append, h.keys]
      unfold List.Nodup at nd ⊢
      rw [List.pairwise_map] at nd ⊢
      exact nd.imp fun ne z => ne (kT_inj.mp z))
    rw [this, List.nil_append]
  have e : mergeT [] (kvs ++ [(kT k0, .ref t)]) = putK kvs (kT k0) (.ref t) := by
    unfold mergeT
    rw [List.foldl_append]
    show putK (mergeT [] kvs) (kT k0) (.ref t) = _
    rw [e0]
  rw [e]
  exact h.put hk a
/-- the same rows, the same walks -/
theorem run_same {D E : Dev} (d : Drawn D) (h : ∀ k ∈ D.goals.map (·.1), rowX E k = rowX D k) : ∀ {ws : List Str} {s : Str}, s ∈ D.states → (∀ y ∈ ws, y ∈ D.calls) → runD E s ws = runD D s ws
  | [], _, _, _ => rfl
  | w :: r, s, hs, hw => by
    have km : (s, w) ∈ D.goals.map (·.1) := by
      rw [d.keys]
      exact prod_mem.mpr ⟨hs, hw w List.mem_cons_self⟩
    obtain ⟨_, _, _, _, mS⟩ := d.row km
    have ih := run_same d h (ws := r) mS fun y hy => hw y (List.mem_cons_of_mem _ hy)
    show ((rowX E (s, w)).1 :: (runD E (rowX E (s, w)).2 r).1, (runD E (rowX E (s, w)).2 r).2) = ((rowX D (s, w)).1 :: (runD D (rowX D (s, w)).2 r).1, (runD D (rowX D (s, w)).2 r).2)
    rw [h _ km, ih]
theorem row_read {D : Dev} (d : Drawn D) {ks : List (Str × Str)} (pm : ks.Perm (D.goals.map (·.1))) {k : Str × Str} (h : k ∈ D.goals.map (·.1)) : rowX (readOf D ks) k = rowX D k := by
  show ((readOf D ks).goals.lookup k).getD _ = _
  rw [readOf_look d pm h]
  rfl
theorem run_read {D : Dev} (d : Drawn D) {ks : List (Str × Str)} (pm : ks.Perm (D.goals.map (·.1))) {ws : List Str} {s : Str} (hs : s ∈ D.states) (hw : ∀ y ∈ ws, y ∈ D.calls) : runD (readOf D ks) s ws = runD D s ws := run_same d (fun _ h => row_read d pm h) hs hw
theorem lay_names : ∀ {ns : List Str}, (∀ x ∈ ns, isNameB x = true) → PyData.canLayAll0 (ns.map PyData.str) = true
  | [], _ => by simp only [List.map_nil, PyData.canLayAll0]
  | x :: r, h => by
    simp only [List.map_cons, PyData.canLayAll0, Bool.and_eq_true]
    exact ⟨name_lay (h x List.mem_cons_self), lay_names fun y hy => h y (List.mem_cons_of_mem _ hy)⟩
theorem depth_names : ∀ ns : List Str, PyData.depth (.tuple (ns.map PyData.str)) ≤ 2 := by
  intro ns
  have e : ∀ l : List Str, PyData.depthAll (l.map PyData.str) = 0 := by
    intro l
    induction l with
    | nil => rfl
    | cons x r ih =>
      rw [List.map_cons]
      simp only [PyData.depthAll, PyData.depth, ih]
      rfl
  simp only [PyData.depth, e]
  decide
theorem shaped_names {ns : List Str} (h : ∀ x ∈ ns, isNameB x = true) : SeqAt.shaped (.tuple (ns.map PyData.str)) = true := by
  have c : PyData.canLay0 (.tuple (ns.map PyData.str)) = true := by
    simp only [PyData.canLay0]
    exact lay_names h
  unfold SeqAt.shaped
  rw [c, decide_eq_true (Nat.le_trans (depth_names ns) (by decide))]
  rfl
theorem eqv_names : ∀ ns : List Str, PyData.eqv (.tuple (ns.map PyData.str)) (.tuple (ns.map PyData.str)) = true := by
  intro ns
  show PyData.eqvAll (ns.map PyData.str) (ns.map PyData.str) = true
  induction ns with
  | nil => rfl
  | cons x r ih =>
    rw [List.map_cons]
    simp only [PyData.eqvAll, PyData.eqv, ih, Bool.and_true]
    simp
theorem dev_mk {K : PySem.W.Frag} {H : Hp} {p b : _} {x C : Addr} {T : Str} {D : Dev} (hp : PotAt H p b) (h : DevAt K H x C T D) : DevAt K (mk p H) x C T D := by
  obtain ⟨own, sm, n, e0, _⟩ := id hp
  obtain ⟨dx, c, a, s, g, h1, h2, h3, h4, kvs, h5, h6⟩ := h
  have ne : ∀ {b : Addr} {o : HO}, H b = some o → (∀ xs, o ≠ .lst xs) → b ≠ p := fun {b o} hb n z => by
    rw [z, e0] at hb
    exact n _ (Option.some.inj hb).symm
  exact ⟨dx, c, a, s, g, mk_of (ne h1 fun xs z => by cases z) h1, tup_mk hp h2, tup_mk hp h3, tup_mk hp h4, kvs, h5.elim (fun q => .inl (mk_of (ne q fun xs z => by cases z) q)) (fun ⟨o, q⟩ => .inr ⟨o, mk_of (ne q fun xs z => by cases z) q⟩), h6.mk hp⟩
theorem btr_ext {p : Addr} {H G : Hp} (e : BtR p H G) : ExtN (mk p H) (mk p G) := fun b o h nt => by
  obtain ⟨ne, h⟩ := mk_some h
  exact mk_of ne (e b o h ne nt)
theorem range_filter4 (f : Nat → Bool) : (List.range 4).filter f = (if f 0 = true then [0] else []) ++ (if f 1 = true then [1] else []) ++ (if f 2 = true then [2] else []) ++ (if f 3 = true then [3] else []) := by
  show [0, 1, 2, 3].filter f = _
  cases h0 : f 0 <;> cases h1 : f 1 <;> cases h2 : f 2 <;> cases h3 : f 3 <;> simp [List.filter_cons, h0, h1, h2, h3]
end LG
set_option Elab.async false
set_option linter.all false
set_option maxRecDepth 100000
set_option maxHeartbeats 16000000
/-! Law k03's question of turned devices. -/
namespace K03
open PySem L2 LG LamX
section
variable {P : Program} {w : World} {K : PySem.W.Frag} {mg : Str → Option Value} {base : Heap}
abbrev nTq : List Str := ["_law_pot_here", "_law_own", "_law_here", "_law_lines_here", "_law_key", "_law_fresh", "_law_later", "_law_others", "_law_walk", "_law_values", "_law_kinds", "_law_lap", "_law_some_here", "_law_bad", "_law_caught", "_law_marks", "_law_one", "_law_at"]
theorem scTq : FnScope nTq ["_law_pot_here", "_law_own", "_law_here", "_law_lines_here"] (defScope sTurned) := ⟨rfl, rfl, rfl, by decide +kernel, rfl, by decide +kernel, by decide +kernel⟩
def spTurnQ (K : PySem.W.Frag) (C P1 P2 P3 : Addr) : Sp := fun vs H Q _ => ∃ (p o x l : Addr) (b : Nat) (D : Dev) (ks : List (Str × Str)), vs = [.ref p, .ref o, .ref x, .ref l] ∧ Tabs (tTab P1 P2 P3) H ∧ PotAt H p b ∧ b ≤ 50000 ∧ OwnAt K (mk p H) o D ∧ LG.Drawn D ∧ DevAt K (mk p H) x C (textOf D ks) (readOf D ks) ∧ ks.Perm (D.goals.map (·.1)) ∧
  SqL K (mk p H) l ((linesOf D ks).map V.str) ∧ ∀ H', Tabs (tTab P1 P2 P3) H' → BtR p H H' → (∃ B, PotAt H' p B ∧ B ≤ b + 100) → Q (.bl true) H'
structure KitQ (P : Program) (w : World) (K : PySem.W.Frag) (mg : Str → Option Value) (base : Heap) (fI C CS CC CA CW B P1 P2 P3 : Addr) : Prop where
  of_ : ∃ g gd, FnOk P w K mg base CX0 2 g gd ["_law_pot_here", "_law_some_here"] (spOf K) ∧ mg "_law_of" = some (.ref g) ∧ PySem.W.keepIn K (.ref g) = true ∧ L2.Binds K gd ["_law_pot_here", "_law_some_here"] []
  odd : ∃ g gd, FnOk P w K mg base CX0 3 g gd ["_law_pot_here"] (spOdd K) ∧ mg "_law_odd" = some (.ref g) ∧ PySem.W.keepIn K (.ref g) = true ∧ L2.Binds K gd ["_law_pot_here"] []
  run : ∃ g gd, FnOk P w K mg base CX0 1 g gd ["_law_device", "_law_state", "_law_walk"] (spRun K) ∧ mg "_law_run" = some (.ref g) ∧ PySem.W.keepIn K (.ref g) = true ∧ L2.Binds K gd ["_law_device", "_law_state", "_law_walk"] []
  awalk : ∃ g gd, FnOk P w K mg base CX0 3 g gd ["_law_pot_here", "_law_calls", "_law_most"] (spAWalk K) ∧ mg "_law_a_walk" = some (.ref g) ∧ PySem.W.keepIn K (.ref g) = true ∧ L2.Binds K gd ["_law_pot_here", "_law_calls", "_law_most"] []
  tl : ∃ g gd, FnOk P w K mg base CX0 1 g gd ["_law_lines_here", "_law_key", "_law_fresh"] (spTurnedL K) ∧ mg "_law_turned_lines" = some (.ref g) ∧ PySem.W.keepIn K (.ref g) = true ∧ L2.Binds K gd ["_law_lines_here", "_law_key", "_law_fresh"] []
  heard : ∃ g gd, FnOk P w K mg base (L2.CX P w) 4 g gd ["self", "walk"] (spHeard K C CW) ∧ Meth K C "heard" g ∧ L2.Binds K gd ["self", "walk"] []
  turned : ∃ g gd, FnOk P w K mg base (L2.CX P w) 6 g gd ["self", "state", "call", "answer", "goal"] (spTurned K C CS CC CA) ∧ Meth K C "turned" g ∧ L2.Binds K gd ["self", "state", "call", "answer", "goal"] []
  told : ∃ (g : Addr) (kV dc pm cd ct oc : Value) (an od : Option Addr) (sl : Array (Option Value)), mg "_law_told" = some (.ref g) ∧ PySem.W.keepIn K (.ref g) = true ∧ K.lookup g = some ⟨oc, od, .func (PySem.W.fnOf "_law_told" "_law_told" (defArgs sTold) (defBody sTold) (defScope sTold) .none kV dc pm an cd ct), sl⟩ ∧
    PySem.W.codeIn K cd "_law_told" = true ∧ L2.Binds K (PySem.W.fnOf "_law_told" "_law_told" (defArgs sTold) (defBody sTold) (defScope sTold) .none kV dc pm an cd ct) ["_law_look"] []
  box : mg "BoxError" = some (.ref B)
  es : EQl K mg fI B "NoState" CS
  ec : EQl K mg fI B "NoCall" CC
  ea : EQl K mg fI B "NoAnswer" CA
  sc : PySem.W.kitOne K (.ref CS) (.ref CC) = some false ∧ PySem.W.kitOne K (.ref CS) (.ref CA) = some false ∧ PySem.W.kitOne K (.ref CC) (.ref CS) = some false ∧ PySem.W.kitOne K (.ref CC) (.ref CA) = some false ∧ PySem.W.kitOne K (.ref CA) (.ref CS) = some false ∧ PySem.W.kitOne K (.ref CA) (.ref CC) = some false
  dev : DevCl K mg C
  dsc : ClsD K
  n12 : P1 ≠ P2
  n13 : P1 ≠ P3
  n23 : P2 ≠ P3
/-! ### what the questions ask -/
def mkB (k : Nat) : List Bool := [k == 0 || k == 3, k == 1, k == 2]
theorem mkB_ok {k : Nat} (hk : k < 4) : SeqAt.shaped (.list ((mkB k).map PyData.bool)) = true ∧ PyData.eqv (.list ((mkB k).map PyData.bool)) (.list ((mkB k).map PyData.bool)) = true := by
  match k, hk with
  | 0, _ => exact ⟨by decide +kernel, by decide +kernel⟩
  | 1, _ => exact ⟨by decide +kernel, by decide +kernel⟩
  | 2, _ => exact ⟨by decide +kernel, by decide +kernel⟩
  | 3, _ => exact ⟨by decide +kernel, by decide +kernel⟩
theorem in03 {k : Nat} (hk : k < 4) : inV (V.int (k : Nat)) [V.int 0, V.int 3] = (k == 0 || k == 3) := by
  match k, hk with
  | 0, _ => decide +kernel
  | 1, _ => decide +kernel
  | 2, _ => decide +kernel
  | 3, _ => decide +kernel
theorem is12 {k : Nat} (hk : k < 4) : decide (V.int (k : Nat) = V.int 1) = (k == 1) ∧ decide (V.int (k : Nat) = V.int 2) = (k == 2) := by
  match k, hk with
  | 0, _ => exact ⟨by decide +kernel, by decide +kernel⟩
  | 1, _ => exact ⟨by decide +kernel, by decide +kernel⟩
  | 2, _ => exact ⟨by decide +kernel, by decide +kernel⟩
  | 3, _ => exact ⟨by decide +kernel, by decide +kernel⟩
theorem bools_dp {H : Hp} : ∀ bs : List Bool, DpAll K H (bs.map V.bl) (bs.map PyData.bool)
  | [] => .nil
  | b :: r => .cons (.bl b) (bools_dp r)
theorem kits {CS CC CA : Addr} (h : PySem.W.kitOne K (.ref CS) (.ref CC) = some false ∧ PySem.W.kitOne K (.ref CS) (.ref CA) = some false ∧ PySem.W.kitOne K (.ref CC) (.ref CS) = some false ∧ PySem.W.kitOne K (.ref CC) (.ref CA) = some false ∧ PySem.W.kitOne K (.ref CA) (.ref CS) = some false ∧ PySem.W.kitOne K (.ref CA) (.ref CC) = some false) {k : Nat} (hk : k < 4) :
    PySem.W.kitOne K (.ref (clsAt CS CC CA k)) (.ref CS) = some (k == 0 || k == 3) ∧ PySem.W.kitOne K (.ref (clsAt CS CC CA k)) (.ref CC) = some (k == 1) ∧ PySem.W.kitOne K (.ref (clsAt CS CC CA k)) (.ref CA) = some (k == 2) := by
  obtain ⟨h1, h2, h3, h4, h5, h6⟩ := h
  match k, hk with
  | 0, _ => exact ⟨kit_self, h1, h2⟩
  | 1, _ => exact ⟨h3, kit_self, h4⟩
  | 2, _ => exact ⟨h5, h6, kit_self⟩
  | 3, _ => exact ⟨kit_self, h1, h2⟩
def nI (ns : List Nat) : List V := ns.map fun n => V.int (n : Nat)
def tSm (K : PySem.W.Frag) : TE := fun σ H Q => ∃ (p : Addr) (b : Nat) (z : Str), σ[0]? = some (some (.ref p)) ∧ σ[16]? = some (some (.str z)) ∧ PotAt H p b ∧ b ≤ 90000 ∧ isNameB z = true ∧ ∀ x G, But p H G → PotAt G p (b + 2) → Gx K 2 (mn H G) x → Q x G
def tBadT (K : PySem.W.Frag) : TT := fun σ H Q => ∃ (i : Nat) (ls lk a : Addr) (vs ks : List V) (v : V) (C : List Str), σ[17]? = some (some (.int (i : Nat))) ∧ σ[12]? = some (some (.ref ls)) ∧ σ[10]? = some (some (.ref lk)) ∧ H ls = some (.lst vs) ∧ H lk = some (.lst ks) ∧ vs[i]? = some v ∧ ks[i]? = some (.ref a) ∧ H a = some (.lst (C.map V.str)) ∧ Gx K 2 H v ∧ Q (!amongB v C) H
def tTdq (K : PySem.W.Frag) (C CS CC CA : Addr) (T : List (Addr × Str)) : TE := fun σ H Q => ∃ (x ls : Addr) (D : Dev) (ks : List (Str × Str)) (v0 v1 v2 v3 : V), σ[2]? = some (some (.ref x)) ∧ σ[12]? = some (some (.ref ls)) ∧ Tabs T H ∧ H ls = some (.lst [v0, v1, v2, v3]) ∧ DevAt K H x C (textOf D ks) (readOf D ks) ∧ LG.Drawn D ∧ ks.Perm (D.goals.map (·.1)) ∧
  Gx K 2 H v0 ∧ Gx K 2 H v1 ∧ Gx K 2 H v2 ∧ Gx K 2 H v3 ∧ ∀ cv G, ExtN H G → Tabs T G → (badsOf D v0 v1 v2 v3 = [] → cv = .non) → (∀ k r, badsOf D v0 v1 v2 v3 = k :: r → Caught G (clsAt CS CC CA k) cv (valAt v0 v1 v2 v3 k)) → Q cv G
def tEm : TT := fun σ H Q => ∃ (lb : Addr) (ns : List Nat), σ[13]? = some (some (.ref lb)) ∧ H lb = some (.lst (nI ns)) ∧ ns.length ≤ 4 ∧ ∀ G, Same H G → Q (decide (ns = [])) G
def tMk (K : PySem.W.Frag) (CS CC CA : Addr) : TE := fun σ H Q => ∃ (k : Nat) (cv y : V), σ[14]? = some (some cv) ∧ k < 4 ∧ Caught H (clsAt CS CC CA k) cv y ∧ ∀ lm G, Same H G → G lm = some (.lst ((mkB k).map V.bl)) → Q (.ref lm) G
def tFin (K : PySem.W.Frag) (CS CC CA : Addr) : TT := fun σ H Q => ∃ (k : Nat) (r : List Nat) (cv y : V) (vs : List V) (lm lb ls : Addr), σ[15]? = some (some (.ref lm)) ∧ σ[13]? = some (some (.ref lb)) ∧ σ[14]? = some (some cv) ∧ σ[12]? = some (some (.ref ls)) ∧ H lm = some (.lst ((mkB k).map V.bl)) ∧ H lb = some (.lst (nI (k :: r))) ∧ k < 4 ∧
  H ls = some (.lst vs) ∧ vs[k]? = some y ∧ Caught H (clsAt CS CC CA k) cv y ∧ Gx K 2 H y ∧ ∀ G, Same H G → Q false G
theorem nI_eqv : ∀ (ns : List Nat), PyData.eqv (.list (ns.map fun n => PyData.int (n : Nat))) (.list []) = decide (ns = []) := by
  intro ns
  cases ns with
  | nil => rfl
  | cons n r => rfl
theorem nI_dp {H : Hp} : ∀ (ns : List Nat), DpAll K H (nI ns) (ns.map fun n => PyData.int (n : Nat))
  | [] => .nil
  | n :: r => .cons (.int _) (nI_dp r)
theorem nI_shaped : ∀ (ns : List Nat), SeqAt.shaped (.list (ns.map fun n => PyData.int (n : Nat))) = true := by
  intro ns
  have c : ∀ l : List Nat, PyData.canLayAll0 (l.map fun n => PyData.int (n : Nat)) = true := by
    intro l
    induction l with
    | nil => simp only [List.map_nil, PyData.canLayAll0]
    | cons x r ih => simp only [List.map_cons, PyData.canLayAll0, PyData.canLay0, ih, Bool.and_self]
  have e : ∀ l : List Nat, PyData.depthAll (l.map fun n => PyData.int (n : Nat)) = 0 := by
    intro l
    induction l with
    | nil => rfl
    | cons x r ih =>
      rw [List.map_cons]
      simp only [PyData.depthAll, PyData.depth, ih]
      rfl
  unfold SeqAt.shaped
  simp only [PyData.canLay0, PyData.depth, c, e]
  decide
def okAt (D : Dev) (w0 w1 w2 w3 : V) : Nat → Bool
  | 0 => amongB w0 D.states
  | 1 => amongB w1 D.calls
  | 2 => amongB w2 D.answers
  | _ => amongB w3 D.states
theorem bads_eq (D : Dev) (w0 w1 w2 w3 : V) : (List.range 4).filter (fun k => !okAt D w0 w1 w2 w3 k) = badsOf D w0 w1 w2 w3 := by
  rw [range_filter4]
  unfold badsOf badL okAt
  cases amongB w0 D.states <;> cases amongB w1 D.calls <;> cases amongB w2 D.answers <;> cases amongB w3 D.states <;> rfl
theorem ok_turnq {f c P1 P2 P3 fI C CS CC CA CW B : Addr} {oc kV doc pm ct : Value} {od an : Option Addr} {osl : Array (Option Value)} (T : Bltn mg) (mDict : mg "dict" = none) (Z : KitQ P w K mg base fI C CS CC CA CW B P1 P2 P3)
    (lk : K.lookup f = some ⟨oc, od, .func (PySem.W.fnOf "_law_is_turned_right" "_law_is_turned_right" (defArgs sTurned) (defBody sTurned) (defScope sTurned) .none kV doc pm an (.ref c) ct), osl⟩) (hcd : PySem.W.codeIn K (.ref c) "_law_is_turned_right" = true) (TB : TabB base mg c P2) :
    GnOk P w K mg base 9 f (PySem.W.fnOf "_law_is_turned_right" "_law_is_turned_right" (defArgs sTurned) (defBody sTurned) (defScope sTurned) .none kV doc pm an (.ref c) ct) ["_law_pot_here", "_law_own", "_law_here", "_law_lines_here"] (spTurnQ K C P1 P2 P3) := by
  obtain ⟨gf, gfd, GF, mF, kF, bF⟩ := Z.of_
  obtain ⟨go, god, GO, mO, kO, bO⟩ := Z.odd
  obtain ⟨gr, grd, GR_, mR, kR, bR⟩ := Z.run
  obtain ⟨gw, gwd, GW, mW, kW, bW⟩ := Z.awalk
  obtain ⟨gl, gld, GL, mL, kL, bL⟩ := Z.tl
  obtain ⟨gh, ghd, GH, mH, bH⟩ := Z.heard
  obtain ⟨gu, gud, GU, mU, bU⟩ := Z.turned
  obtain ⟨gt, kVt, dct, pmt, cdt, ctt, oct, ant, odt, slt, mT, kT_, lT, cT, bT⟩ := Z.told
  refine gn_ofL lk hcd scTq (fun vs H Q E h => ?_) (fun A0 outer s H vs Q hG hr h => ?_)
  · obtain ⟨p, o, x, l, b, D, ks, rfl, _⟩ := h
    rfl
  obtain ⟨p, o, x, l, b, D, ks, rfl, hT, hp, hb, hO, dr, hD, pm_, hl, q⟩ := h
  have r6 : Room 6 _ := hr.mono (by decide)
  have r4 : Room 4 _ := hr.mono (by decide)
  have r3 : Room 3 _ := hr.mono (by decide)
  have r2 : Room 2 _ := hr.mono (by decide)
  have r1 : Room 1 _ := hr.mono (by decide)
  have hu := hu_of hr
  refine' ⟨_, pss_cons ?key (pss_cons ?later (pss_cons ?txt (pss_cons ?others (pss_cons ?walk (pss_cons ?hrd (pss_cons ?vals (pss_cons ?kinds (pss_cons (ps_for PassesOwn.never rfl (pi_range1 rfl T.range (pa_cons pe_int pa_nil)) (pg_name (i := 11) scTq.nd rfl (Or.inl rfl)) (pss_cons ?some_ (pss_cons ?bad (pss_cons ?told_ (pss_one ?tests))))) (pss_one (ps_ret pe_bl)))))))))), ?main⟩
  case key =>
    exact ps_par (i := 4) (j := 5) rfl scTq.nd rfl rfl (by decide) rfl rfl (pa_cons (pe_call GF r2 rfl mF kF bF .nil pass0 (pa_cons (pv 0) (pa_cons (pe_callTy (call_list_dT rfl) rfl T.list (by decide +kernel) (pa_cons (pe_dget hu (pv 1) pe_str (fun _ _ => rfl)) pa_nil)) pa_nil)))
      (pa_cons (pe_tup (pa_cons (pe_call GF r2 rfl mF kF bF .nil pass0 (pa_cons (pv 0) (pa_cons (pe_dget hu (pv 1) pe_str (fun _ _ => rfl)) pa_nil))) (pa_cons (pe_call GF r2 rfl mF kF bF .nil pass0 (pa_cons (pv 0) (pa_cons (pe_dget hu (pv 1) pe_str (fun _ _ => rfl)) pa_nil))) pa_nil))) pa_nil)) (by rfl)
  case later =>
    exact ps_set (i := 6) scTq.nd rfl (Or.inl rfl) (pe_meth (pv 2) Z.dev.cl mU GU r6 bU .nil passF (pa_cons (pe_ix ix_tup (pv 4) pe_int (fun _ _ => rfl)) (pa_cons (pe_ix ix_tup (pv 4) pe_int (fun _ _ => rfl)) (pa_cons (pe_ix ix_tup (pv 5) pe_int (fun _ _ => rfl)) (pa_cons (pe_ix ix_tup (pv 5) pe_int (fun _ _ => rfl)) pa_nil)))))
  case txt =>
    exact ps_if (PW.pt (pw_or (pt_cmpR op_ne (pe_fld (pv 6) rfl) (pe_join pe_str (pe_op op_cat (pe_slice sl_list (pv 3) po_none (po_some pe_int)) (pe_call GL r1 rfl mL kL bL .nil pass0 (pa_cons (pe_slice sl_list (pv 3) (po_some pe_int) po_none) (pa_cons (pv 4) (pa_cons (pv 5) pa_nil)))))) (nomark _))
      (pw_or1 (pt_cmpR op_ne (pe_fld (pv 2) rfl) (pe_join pe_str (pv 3)) (nomark _))))) (pss_one (ps_ret pe_bl)) pss_nil
  case others =>
    exact ps_set (i := 7) scTq.nd rfl (Or.inl rfl) (pe_callTy (call_dictT rfl hr.units) rfl mDict (by decide +kernel) (pa_cons (pe_op op_cat (pe_listItemsT rfl (pe_dget hu (pv 1) pe_str (fun _ _ => rfl)) rfl T.list (by decide +kernel)) (pe_lst (pa_cons (pe_tup (pa_cons (pv 4) (pa_cons (pv 5) pa_nil))) pa_nil))) pa_nil))
  case walk =>
    exact ps_set (i := 8) scTq.nd rfl (Or.inl rfl) (pe_call GW r3 rfl mW kW bW .nil pass0 (pa_cons (pv 0) (pa_cons (pe_dget hu (pv 1) pe_str (fun _ _ => rfl)) (pa_cons pe_int pa_nil))))
  case hrd =>
    exact ps_if (pt_cmpR (op_neD hr.units) (pe_meth (pv 6) Z.dev.cl mH GH r4 bH .nil passF (pa_cons (pv 8) pa_nil)) (pe_ix ix_tup (pe_call GR_ r1 rfl mR kR bR .nil pass0 (pa_cons (pe_disp (pps_cons pe_str (pv 7) pps_nil) (by rfl) (by rfl) (fun z => by cases z) (by show 1 ≤ 15; decide)) (pa_cons (pe_ix ix_list (pe_dget hu (pv 1) pe_str (fun _ _ => rfl)) pe_int (fun _ _ => rfl)) (pa_cons (pv 8) pa_nil)))) pe_int (fun _ _ => rfl)) (nomark _))
      (pss_one (ps_ret pe_bl)) pss_nil
  case vals =>
    exact ps_set (i := 9) scTq.nd rfl (Or.inl rfl) (pe_lst (pa_cons (pe_ix ix_tup (pv 4) pe_int (fun _ _ => rfl)) (pa_cons (pe_ix ix_tup (pv 4) pe_int (fun _ _ => rfl)) (pa_cons (pe_ix ix_tup (pv 5) pe_int (fun _ _ => rfl)) (pa_cons (pe_ix ix_tup (pv 5) pe_int (fun _ _ => rfl)) pa_nil)))))
  case kinds =>
    exact ps_set (i := 10) scTq.nd rfl (Or.inr rfl) (pe_lst (pa_cons (pe_dget hu (pv 1) pe_str (fun _ _ => rfl)) (pa_cons (pe_dget hu (pv 1) pe_str (fun _ _ => rfl)) (pa_cons (pe_dget hu (pv 1) pe_str (fun _ _ => rfl)) (pa_cons (pe_dget hu (pv 1) pe_str (fun _ _ => rfl)) pa_nil)))))
  case some_ =>
    refine ps_set (i := 12) scTq.nd rfl (Or.inr rfl) (pe_lc (te := tSm K) (own := [("_law_one", 16)]) (g := gName 16) (tt := tYes) rfl scTq.nd (pi_list (pv 9)) (blkOk_by (own := [("_law_one", 16)]) (N := nTq) (sc := defScope sTurned) (by decide +kernel))
      (fun _ _ _ _ _ => pg_name (i := 16) scTq.nd rfl (Or.inl rfl)) (fun _ _ _ _ _ => pts_nil) (fun _ _ _ _ _ => ?_))
    refine' pe_imp (t' := tSm K) (pe_call GF r2 rfl mF kF bF .nil pass0 (pa_cons (pv 0) (pa_cons (pe_lst (pa_cons (pv 16) (pa_cons (pv 16) (pa_cons (pe_op op_add_str (pv 16) pe_str) (pa_cons pe_non (pa_cons pe_int (pa_cons (pe_tup (pa_cons (pv 16) pa_nil)) (pa_cons (pe_call GO r3 rfl mO kO bO .nil pass0 (pa_cons (pv 0) pa_nil)) pa_nil)))))))) pa_nil))) ?_
    rintro σ H Q ⟨p, b, z, e0, e16, hp, hb, hz, k⟩
    have zl := name_len hz
    refine ⟨_, e0, _, e16, _, e16, _, e16, _, _, rfl, rfl, ?_, _, e16, (by show 1 ≤ sizeLine; decide), fun t nt => ?_⟩
    · have e : ("x" : Str).length = 1 := by decide +kernel
      rw [e, sizeLine_eq]
      omega
    have u1 := same_new nt (.tup [.str z])
    have ht : (upd H t (.tup [.str z])) t = some (.tup [.str z]) := upd_same
    have p1 := hp.same u1
    have ntp : t ≠ p := new_ne hp.there nt
    show _
    generalize upd H t (.tup [.str z]) = H1 at u1 ht p1 ⊢
    refine ⟨_, e0, p, b, rfl, p1, by omega, fun x H2 b2 p2 g2 => ⟨(by show 7 ≤ sizeLine; decide), fun l nl => ?_⟩⟩
    have m2 : Gx K 2 (mn H H2) x := g2.same (mn_down u1)
    have bH2 := (But.of u1).trans b2
    have ht2 := b2 _ _ ht ntp
    have u3 := same_new nl (.lst [.str z, .str z, .str (z ++ "x"), .non, .int 0, .ref t, x])
    have hl : (upd H2 l (.lst [.str z, .str z, .str (z ++ "x"), .non, .int 0, .ref t, x])) l = some (.lst [.str z, .str z, .str (z ++ "x"), .non, .int 0, .ref t, x]) := upd_same
    have nlp : l ≠ p := new_ne p2.there nl
    have p3 := p2.same u3
    have m3 := m2.same (mn_up u3)
    have ht3 := u3 _ _ ht2
    show _
    generalize upd H2 l (.lst [.str z, .str z, .str (z ++ "x"), .non, .int 0, .ref t, x]) = H3 at u3 hl p3 m3 ht3 ⊢
    refine ⟨p, l, _, b + 1, rfl, p3, by omega, SqL.of hl, (by show 0 < 7; decide), (by show 7 ≤ 1000; decide), nlp, fun v G hv b4 p4 => ?_⟩
    refine k v G (bH2.trans ((But.of u3).trans b4)) p4 ?_
    have s4 := mn_but (H := H) b4 hp.there
    simp only [List.mem_cons, List.not_mem_nil, or_false] at hv
    rcases hv with rfl | rfl | rfl | rfl | rfl | rfl | rfl
    · exact Gx.str (name_small hz)
    · exact Gx.str (name_small hz)
    · exact Gx.str (name_x_small hz)
    · exact ⟨.none, .flat .non, by simp only [small]⟩
    · exact ⟨.int 0, .flat (.int 0), by simp only [small]; decide⟩
    · exact (Gd.tup (n := 1) (.cons ⟨.str z, .str z, small_le (Nat.zero_le _) (name_small hz)⟩ .nil) (by simp) (.inl (.inl (s4 _ _ (mn_of nt ht3))))).x
    · exact m3.same s4
  case bad =>
    refine ps_setLc (i := 13) (te := tVar 17) (tt := tBadT K) (own := [("_law_at", 17)]) (g := gName 17) rfl scTq.nd rfl rfl (sw_true rfl rfl rfl (by decide +kernel)) (pi_range1 rfl T.range (pa_cons pe_int pa_nil)) (blkOk_by (own := [("_law_at", 17)]) (N := nTq) (sc := defScope sTurned) (by decide +kernel))
      (fun _ _ _ _ _ => pg_name (i := 17) scTq.nd rfl (Or.inl rfl)) (fun _ _ _ _ _ => pts_one ?_) (fun _ _ _ _ _ => pv 17)
    refine' pt_imp (t' := tBadT K) (PW.pt (pw_or (pt_not (pt_val (pe_callB call_isi rfl T.isinstance (by decide +kernel) (pa_cons (pe_ix ix_list (pv 12) (pv 17) (fun _ _ => rfl)) (pa_cons (pe_bltn (v := .ty "str") (u := .type "str") rfl T.str (by decide +kernel) rfl) pa_nil))))) (pw_or1 (pt_cmpR op_notIn_txt (pe_ix ix_list (pv 12) (pv 17) (fun _ _ => rfl)) (pe_ix ix_list (pv 10) (pv 17) (fun _ _ => rfl)) (by rfl))))) ?_
    rintro σ H Q ⟨i, ls, lk, a, vs, ks, v, Cs, e17, e12, e10, hls, hlk, hv, hk, ha, gv, k⟩
    obtain ⟨t, b, ty, kk, hb⟩ := isi_str gv
    refine ⟨_, e12, _, e17, ls, vs, _, v, rfl, rfl, SqL.of hls, atI_nat hv, v, _, t, _, b, rfl, .ty _, ty, kk, _, rfl, ?_⟩
    rcases hb with ⟨rfl, z, rfl⟩ | ⟨rfl, no⟩
    · refine iteF ⟨_, e12, _, e17, ls, vs, _, _, rfl, rfl, SqL.of hls, atI_nat hv, _, e10, _, e17, lk, ks, _, _, rfl, rfl, SqL.of hlk, atI_nat hk, z, a, _, rfl, rfl, .inl (SqL.of ha), ?_⟩
      exact ⟨_, rfl, k⟩
    · rw [among_not no] at k
      exact iteT k
  case told_ =>
    refine' ps_set (i := 14) scTq.nd rfl (Or.inl rfl) (pe_imp (t' := tTdq K C CS CC CA (tTab P1 P2 P3)) (pe_ix ix_tup (pe_lam2 (T := tTab P1 P2 P3) (TT := TTk K B) (t := fun E => tMeth C "turned" (spTurned K C CS CC CA) [] E (tVar 2) (tCons (tOp (rIxL K) (tVar 12) (tC (.int 0))) (tCons (tOp (rIxL K) (tVar 12) (tC (.int 1))) (tCons (tOp (rIxL K) (tVar 12) (tC (.int 2))) (tCons (tOp (rIxL K) (tVar 12) (tC (.int 3))) tNil))))) (k := 6) (Ng := nT) (P := P2) rfl mT kT_ lT cT bT scTold rfl (Or.inl rfl) (told_gives Z.box) TB rfl (List.mem_cons_of_mem _ List.mem_cons_self)
      (fun q hq e => ?_) hr (lamS_by (by show lamSB (defScope sTurned) _ = true; decide +kernel)) (by rfl) (fun _ _ _ _ _ => rfl)
      (fun A outer s H E f c' hr4 => pe_meth (pv 2) Z.dev.cl mU GU hr4 bU .nil (passes_call (takes_of (E := E) rfl rfl rfl rfl) (fun _ _ _ _ h => h)) (pa_cons (pe_ix ix_list (pv 12) pe_int (fun _ _ => rfl)) (pa_cons (pe_ix ix_list (pv 12) pe_int (fun _ _ => rfl)) (pa_cons (pe_ix ix_list (pv 12) pe_int (fun _ _ => rfl)) (pa_cons (pe_ix ix_list (pv 12) pe_int (fun _ _ => rfl)) pa_nil)))))) pe_int (fun _ _ => rfl)) ?_)
    · rcases List.mem_cons.mp hq with rfl | hq
      · exact absurd e Z.n12
      rcases List.mem_cons.mp hq with rfl | hq
      · rfl
      · rw [List.mem_singleton.mp hq] at e
        exact absurd e.symm Z.n23
    rintro σ H Q ⟨x, ls, D, ks, v0, v1, v2, v3, e2, e12, hT, hls, hD, dr, pm_, g0, g1, g2, g3, k⟩
    refine told_turned (D := D) (s := v0) (c := v1) (a := v2) (g := v3) Z.es Z.ec Z.ea hT (fun G E R eG nt qR => ?_) (fun kx r u p G hb eG tG cG hp => ?_) (fun u p G good eG tG hp => ?_)
    · have hDG := hD.ext eG
      have hlG := eG _ _ hls (fun ps z => by cases z)
      obtain ⟨dx, c0, a0, s0, gg, hx, _⟩ := id hDG
      refine ⟨_, e2, x, dx, _, rfl, hx, rfl, _, e12, ls, _, _, v0, rfl, rfl, SqL.of hlG, atI_nat (j := 0) rfl, _, e12, ls, _, _, v1, rfl, rfl, SqL.of hlG, atI_nat (j := 1) rfl, _, e12, ls, _, _, v2, rfl, rfl, SqL.of hlG, atI_nat (j := 2) rfl, _, e12, ls, _, _, v3, rfl, rfl, SqL.of hlG, atI_nat (j := 3) rfl,
        x, v0, v1, v2, v3, D, ks, rfl, hDG, dr, pm_, (g0.ext eG).strOr, (g1.ext eG).strOr, (g2.ext eG).strOr, (g3.ext eG).strOr, nt, ?_⟩
      rintro S Cn An Gn rfl rfl rfl rfl h1 h2 h3 h4 y G2 s2 _
      exact qR (good_of (List.contains_iff_mem.mpr h1) (List.contains_iff_mem.mpr h2) (List.contains_iff_mem.mpr h3) (List.contains_iff_mem.mpr h4)) _ _ s2
    · refine ⟨p, _, 0, _, rfl, rfl, .inl (.inl hp), rfl, k u G eG tG (fun z => ?_) (fun k' r' hb' => ?_)⟩
      · rw [hb] at z
        cases z
      · rw [hb] at hb'
        cases hb'
        exact cG
    · refine ⟨p, _, 0, _, rfl, rfl, .inl (.inl hp), rfl, k .non G eG tG (fun _ => rfl) (fun k' r' hb' => ?_)⟩
      have good : badsOf D v0 v1 v2 v3 = [] := good
      rw [good] at hb'
      cases hb'
  case tests =>
    refine' ps_if (pt_imp (t' := tEm) (pt_cmpR (op_eqD hr.units) (pv 13) (pe_lst pa_nil) (nomark _)) ?em) (pss_one (ps_if (pt_cmp (pc_notN (pv 14))) (pss_one (ps_ret pe_bl)) pss_nil))
      (pss_cons (ps_set (i := 15) scTq.nd rfl (Or.inl rfl) (pe_imp (t' := tMk K CS CC CA) (pe_lst (pa_cons (pe_callB (call_isErrQ Z.dsc) rfl T.isinstance (by decide +kernel) (pa_cons (pv 14) (pa_cons (pe_glob (v := .ref CS) rfl Z.es.ec.mg rfl) pa_nil))) (pa_cons (pe_callB (call_isErrQ Z.dsc) rfl T.isinstance (by decide +kernel) (pa_cons (pv 14) (pa_cons (pe_glob (v := .ref CC) rfl Z.ec.ec.mg rfl) pa_nil)))
          (pa_cons (pe_callB (call_isErrQ Z.dsc) rfl T.isinstance (by decide +kernel) (pa_cons (pv 14) (pa_cons (pe_glob (v := .ref CA) rfl Z.ea.ec.mg rfl) pa_nil))) pa_nil)))) ?mk))
      (pss_one (ps_if (pt_imp (t' := tFin K CS CC CA) (PW.pt (pw_or (pt_cmpR (op_neD hr.units) (pv 15) (pe_lst (pa_cons (pe_cmpR op_in_seq (pe_ix ix_list (pv 13) pe_int (fun _ _ => rfl)) (pe_tup (pa_cons pe_int (pa_cons pe_int pa_nil))) (by rfl)) (pa_cons (pe_cmpR op_eq (pe_ix ix_list (pv 13) pe_int (fun _ _ => rfl)) pe_int (nomark _)) (pa_cons (pe_cmpR op_eq (pe_ix ix_list (pv 13) pe_int (fun _ _ => rfl)) pe_int (nomark _)) pa_nil)))) (nomark _))
          (pw_or1 (pt_cmpR op_ne (pe_callB (call_repr hG hr.units) rfl T.repr (by decide +kernel) (pa_cons (pe_errq (pv 14)) pa_nil)) (pe_callB (call_repr hG hr.units) rfl T.repr (by decide +kernel) (pa_cons (pe_ix ix_list (pv 12) (pe_ix ix_list (pv 13) pe_int (fun _ _ => rfl)) (fun _ _ => rfl)) pa_nil)) (nomark _))))) ?fin) (pss_one (ps_ret pe_bl)) pss_nil)))
    case em =>
      rintro σ H Q ⟨lb, ns, e13, hlb, hn, k⟩
      refine ⟨_, e13, (by show 0 ≤ sizeLine; decide), fun l nl => ?_⟩
      have u1 := same_new nl (.lst [])
      have hl0 : (upd H l (.lst [])) l = some (.lst []) := upd_same
      have k1 := k _ u1
      have hlb1 := u1 _ _ hlb
      show _
      generalize upd H l (.lst []) = H1 at hl0 k1 hlb1 ⊢
      refine ⟨.list (ns.map fun n => PyData.int (n : Nat)), .list [], .lst (SqL.of hlb1) (nI_dp ns), .lst (SqL.of hl0) .nil, nI_shaped ns, by decide, _, rfl, ?_⟩
      rw [nI_eqv]
      exact k1
    case mk =>
      rintro σ H Q ⟨k, cv, y, e14, hk, hc, kq⟩
      obtain ⟨a, d, rfl, er⟩ := hc
      obtain ⟨k1, k2, k3⟩ := kits Z.sc hk
      have ecl : ErrC K (clsAt CS CC CA k) := by
        match k, hk with
        | 0, _ => exact Z.es.ec.er
        | 1, _ => exact Z.ec.ec.er
        | 2, _ => exact Z.ea.ec.er
        | 3, _ => exact Z.es.ec.er
      refine ⟨_, e14, a, _, d, _, _, _, _, rfl, .own CS, ecl, er, k1, _, e14, a, _, d, _, _, _, _, rfl, .own CC, ecl, er, k2, _, e14, a, _, d, _, _, _, _, rfl, .own CA, ecl, er, k3, (by show 3 ≤ sizeLine; decide), fun lm nm => ?_⟩
      exact kq lm _ (same_new nm _) upd_same
    case fin =>
      rintro σ H Q ⟨k, r, cv, y, vs, lm, lb, ls, e15, e13, e14, e12, hlm, hlb, hk, hls, hy, hc, gy, kq⟩
      obtain ⟨a, d, rfl, er⟩ := hc
      have ecl : ErrC K (clsAt CS CC CA k) ∧ NoAttr K (clsAt CS CC CA k) "value" := by
        match k, hk with
        | 0, _ => exact ⟨Z.es.ec.er, Z.es.ec.no⟩
        | 1, _ => exact ⟨Z.ec.ec.er, Z.ec.ec.no⟩
        | 2, _ => exact ⟨Z.ea.ec.er, Z.ea.ec.no⟩
        | 3, _ => exact ⟨Z.es.ec.er, Z.es.ec.no⟩
      have e1 := in03 hk
      obtain ⟨e2, e3⟩ := is12 hk
      have i0 : atI (nI (k :: r)) 0 = some (.int (k : Nat)) := atI_nat (j := 0) rfl
      refine ⟨_, e15, _, e13, lb, _, _, _, rfl, rfl, SqL.of hlb, i0, (by show 2 ≤ sizeLine; decide), fun tt ntt => ?_⟩
      have u1 := same_new ntt (.tup [V.int 0, V.int 3])
      have htt : (upd H tt (.tup [V.int 0, V.int 3])) tt = some (.tup [V.int 0, V.int 3]) := upd_same
      have hlb1 := u1 _ _ hlb
      show _
      generalize upd H tt (.tup [V.int 0, V.int 3]) = H1 at u1 htt hlb1 ⊢
      refine ⟨tt, _, rfl, .inr (.inl (.inl htt)), rfl, rfl, _, e13, lb, _, _, _, rfl, rfl, SqL.of hlb1, i0, rfl, _, e13, lb, _, _, _, rfl, rfl, SqL.of hlb1, i0, rfl, (by show 3 ≤ sizeLine; decide), fun ll nll => ?_⟩
      have u2 := same_new nll (.lst [V.bl (if false = true then !inV (V.int (k : Nat)) [V.int 0, V.int 3] else inV (V.int (k : Nat)) [V.int 0, V.int 3]), V.bl (decide (V.int (k : Nat) = V.int 1)), V.bl (decide (V.int (k : Nat) = V.int 2))])
      have hll : (upd H1 ll (.lst [V.bl (if false = true then !inV (V.int (k : Nat)) [V.int 0, V.int 3] else inV (V.int (k : Nat)) [V.int 0, V.int 3]), V.bl (decide (V.int (k : Nat) = V.int 1)), V.bl (decide (V.int (k : Nat) = V.int 2))])) ll = some (.lst ((mkB k).map V.bl)) := by
        rw [upd_same, if_neg (by decide), e1, e2, e3]
        rfl
      have u12 := u1.trans u2
      show _
      generalize upd H1 ll (.lst [V.bl (if false = true then !inV (V.int (k : Nat)) [V.int 0, V.int 3] else inV (V.int (k : Nat)) [V.int 0, V.int 3]), V.bl (decide (V.int (k : Nat) = V.int 1)), V.bl (decide (V.int (k : Nat) = V.int 2))]) = H2 at hll u12 ⊢
      clear u2
      have sh := mkB_ok hk
      obtain ⟨dv, hdv, sdv⟩ := (gy.same u12).le (show 2 ≤ 3 by decide)
      refine ⟨_, _, .lst (SqL.of (u12 _ _ hlm)) (bools_dp _), .lst (SqL.of hll) (bools_dp _), sh.1, sh.1, _, rfl, ?_⟩
      rw [sh.2]
      refine iteF ⟨_, e14, a, clsAt CS CC CA k, d, _, _, rfl, ecl.1, ecl.2, er.same u12, vf_get _, _, dv, 3, rfl, hdv, by decide, sdv, signs3, _, e12, _, e13, lb, _, _, _, rfl, rfl, SqL.of (u12 _ _ hlb), i0, ls, _, _, _, rfl, rfl, SqL.of (u12 _ _ hls), atI_nat hy, _, dv, 3, rfl, hdv, by decide, sdv, signs3, rfl, _, rfl, ?_⟩
      rw [ne_self]
      exact kq _ u12
  case main =>
    obtain ⟨ca, aa, sa, ra, kvs, h1, h2, h3, h4, h5, h6⟩ := hO.ex
    obtain ⟨npo, h1⟩ := mk_some h1
    obtain ⟨npc, h2⟩ := mk_some h2
    obtain ⟨npa, h3⟩ := mk_some h3
    obtain ⟨nps, h4⟩ := mk_some h4
    obtain ⟨npr, h5⟩ := mk_some h5
    have h6m := h6
    have h6 := h6.same (mk_self p H)
    have dK := fun (x : Str) (G : Hp) (e : G o = some (.dK [(.inr ("calls" : Str), .ref ca), (.inr ("answers" : Str), .ref aa), (.inr ("states" : Str), .ref sa), (.inr ("rows" : Str), .ref ra)])) => DGet.k (k := Sum.inr x) e
    obtain ⟨gl_, g12⟩ := Drawn.goals_len dr
    have hkl := h6.len
    have c1 := dr.c1
    have a1 := dr.a1
    have s1_ := dr.s1
    have gpos : 0 < D.goals.length := by
      rw [gl_]
      exact Nat.mul_pos (by omega) (by omega)
    have mem : ∀ k ∈ ks, k ∈ D.goals.map (·.1) := fun k hk => pm_.mem_iff.mp hk
    have kl : ks.length ≤ 12 := by
      rw [pm_.length_eq, List.length_map]
      exact g12
    refine ⟨_, rfl, _, rfl, o, _, rfl, dK "rows" H h1, ra, kvs, rfl, .inl h5, fun lk0 bs nlk hk => ?_⟩
    have kr := refs_of h6 hk
    have lb := kr.len
    rw [List.length_map, List.length_map] at lb
    have u1 := same_new nlk (.lst (bs.map V.ref))
    have hlk : (upd H lk0 (.lst (bs.map V.ref))) lk0 = some (.lst (bs.map V.ref)) := upd_same
    have nlkp : lk0 ≠ p := new_ne hp.there nlk
    have kr := kr.same u1
    show _
    generalize upd H lk0 (.lst (bs.map V.ref)) = H1 at u1 hlk kr ⊢
    refine ⟨p, lk0, bs.map V.ref, b, rfl, hp.same u1, by omega, SqL.of hlk, by rw [List.length_map]; omega, by rw [List.length_map]; omega, nlkp, fun kx H2 hkx b2 p2 => ?_⟩
    obtain ⟨tk, k0, rfl, km, htk⟩ : ∃ (tk : Addr) (k0 : Str × Str), kx = .ref tk ∧ k0 ∈ D.goals.map (·.1) ∧ H1 tk = some (.tup [.str k0.1, .str k0.2]) := by
      obtain ⟨i, hi⟩ := List.getElem?_of_mem hkx
      obtain ⟨t, k, e1, e2, e3⟩ := kr.get hi
      exact ⟨t, k, e1, List.mem_of_getElem? e2, e3⟩
    have ntkp : tk ≠ p := fun z => by
      obtain ⟨own, sm, n, e, _⟩ := hp.same u1
      rw [← z, htk] at e
      cases e
    have htk2 := b2 _ _ htk ntkp
    have bH2 : But p H H2 := (But.of u1).trans b2
    clear kr hlk hk u1 b2 htk
    refine ⟨_, rfl, _, rfl, o, _, rfl, dK "answers" H2 (bH2 _ _ h1 npo), p, aa, D.answers.map V.str, b + 1, rfl, p2, by omega, SqL.of (bH2 _ _ h3 npa), by rw [List.length_map]; omega, by rw [List.length_map]; omega, npa, fun ax H3 hax b3 p3 => ?_⟩
    obtain ⟨f1, hf1, rfl⟩ := List.mem_map.mp hax
    have bH3 := bH2.trans b3
    refine ⟨_, rfl, _, rfl, o, _, rfl, dK "states" H3 (bH3 _ _ h1 npo), p, sa, D.states.map V.str, b + 1 + 1, rfl, p3, by omega, SqL.of (bH3 _ _ h4 nps), by rw [List.length_map]; omega, by rw [List.length_map]; omega, nps, fun gx H4 hgx b4 p4 => ⟨(by show 2 ≤ sizeLine; decide), fun tf ntf => ?_⟩⟩
    obtain ⟨f2, hf2, rfl⟩ := List.mem_map.mp hgx
    have bH4 := bH3.trans b4
    have htk4 := (b3.trans b4) _ _ htk2 ntkp
    have u5 := same_new ntf (.tup [.str f1, .str f2])
    have htf : (upd H4 tf (.tup [.str f1, .str f2])) tf = some (.tup [.str f1, .str f2]) := upd_same
    have ntfp : tf ≠ p := new_ne p4.there ntf
    have htk5 := u5 _ _ htk4
    have p5 := p4.same u5
    have bH5 := bH4.trans (But.of u5)
    show _
    generalize upd H4 tf (.tup [.str f1, .str f2]) = H5 at htf htk5 p5 bH5 ⊢
    clear u5 htk4 bH4 htk2 bH2 bH3 b3 b4 p2 p3 p4 hax hgx hkx
    -- the device turned
    obtain ⟨_, mS, mC, mA, mS2⟩ := dr.row km
    have hD5 : DevAt K H5 x C (textOf D ks) (readOf D ks) := (hD.same (mk_but bH5)).same (mk_self p H5)
    obtain ⟨dx, c0_, a0_, s0_, g0_, hx5, _⟩ := id hD5
    have i0 : ∀ {u v : V}, atI [u, v] 0 = some u := fun {u v} => atI_nat (j := 0) rfl
    have i1 : ∀ {u v : V}, atI [u, v] 1 = some v := fun {u v} => atI_nat (j := 1) rfl
    have good : badsOf D (.str k0.1) (.str k0.2) (.str f1) (.str f2) = [] := good_of (List.contains_iff_mem.mpr mS) (List.contains_iff_mem.mpr mC) (List.contains_iff_mem.mpr hf1) (List.contains_iff_mem.mpr hf2)
    refine ⟨_, _, rfl, _, rfl, x, dx, _, rfl, hx5, rfl, _, rfl, tk, _, _, _, rfl, rfl, .inl (.inl htk5), i0, _, rfl, tk, _, _, _, rfl, rfl, .inl (.inl htk5), i1, _, rfl, tf, _, _, _, rfl, rfl, .inl (.inl htf), i0, _, rfl, tf, _, _, _, rfl, rfl, .inl (.inl htf), i1,
      x, .str k0.1, .str k0.2, .str f1, .str f2, D, ks, rfl, hD5, dr, pm_, .inl ⟨_, rfl⟩, .inl ⟨_, rfl⟩, .inl ⟨_, rfl⟩, .inl ⟨_, rfl⟩, noTurn_of (fun C' y d bad nd => ?_), fun S Cn An Gn e1 e2 e3 e4 _ _ _ _ y H6 s6 hy => ?_⟩
    · obtain ⟨k', r', e, _⟩ := bad
      rw [good] at e
      cases e
    cases e1
    cases e2
    cases e3
    cases e4
    have dr2 : LG.Drawn (turD D k0 (f1, f2)) := dr.turned (k0 := k0) (f := (f1, f2)) hf1 hf2
    have hy : DevAt K H6 y C (textOf (turD D k0 (f1, f2)) ks) (readOf (turD D k0 (f1, f2)) ks) := hy
    have kd : (turD D k0 (f1, f2)).goals.map (·.1) = D.goals.map (·.1) := tur_keys D k0 (f1, f2)
    have bH6 := bH5.trans (But.of s6)
    have p6 := p5.same s6
    have htk6 := s6 _ _ htk5
    have htf6 := s6 _ _ htf
    have hx6 := s6 _ _ hx5
    have hD6 := hD5.same s6
    clear htk5 htf hx5 hD5 s6 bH5 p5
    -- the texts
    have hl6 : SqL K H6 l ((linesOf D ks).map V.str) := (mk_self p H6).seq ((mk_but bH6).seq hl)
    obtain ⟨dy, c2_, a2_, s2_, g2_, hy6, _⟩ := id hy
    have eL : (linesOf D ks).map V.str = (headsOf D).map V.str ++ (ks.map (rowOf D)).map V.str := by
      unfold LG.linesOf
      rw [List.map_append]
    have hh3 : ((headsOf D).map V.str).length = 3 := rfl
    refine ⟨_, rfl, y, C, dy, _, _, rfl, hy6, Z.dev.cl, Z.dev.nt, rfl, ⟨_, rfl⟩, _, rfl, 3, rfl, l, _, rfl, hl6, fun p1 np1 => ?_⟩
    rw [show (3 : Int) = ((3 : Nat) : Int) from rfl, cut_upto, eL, List.take_append_of_le_length (by rw [hh3]; exact Nat.le_refl 3), List.take_of_length_le (by rw [hh3]; exact Nat.le_refl 3)]
    have u7 := same_new np1 (.lst ((headsOf D).map V.str))
    have hp1 : (upd H6 p1 (.lst ((headsOf D).map V.str))) p1 = some (.lst ((headsOf D).map V.str)) := upd_same
    show _
    generalize upd H6 p1 (.lst ((headsOf D).map V.str)) = H7 at u7 hp1 ⊢
    refine ⟨_, rfl, 3, rfl, l, _, rfl, u7.seq hl6, fun p2 np2 => ?_⟩
    rw [show (3 : Int) = ((3 : Nat) : Int) from rfl, cut_from, eL, List.drop_append_of_le_length (by rw [hh3]; exact Nat.le_refl 3), List.drop_of_length_le (by rw [hh3]; exact Nat.le_refl 3), List.nil_append]
    have u8 := same_new np2 (.lst ((ks.map (rowOf D)).map V.str))
    have hp2 : (upd H7 p2 (.lst ((ks.map (rowOf D)).map V.str))) p2 = some (.lst ((ks.map (rowOf D)).map V.str)) := upd_same
    have hp18 := u8 _ _ hp1
    have u68 := u7.trans u8
    show _
    generalize upd H7 p2 (.lst ((ks.map (rowOf D)).map V.str)) = H8 at hp2 hp18 u68 ⊢
    have fl1 := name_len (dr.aw f1 hf1)
    have fl2 := name_len (dr.sw f2 hf2)
    refine ⟨_, rfl, _, rfl, p2, tk, tf, D, ks, k0, (f1, f2), rfl, SqL.of hp2, dr, mem, kl, km, .inl (.inl (u68 _ _ htk6)), .inl (.inl (u68 _ _ htf6)), fl1, fl2, fun r G sG nr hr_ => ?_⟩
    refine ⟨p1, r, _, _, rfl, rfl, sG _ _ hp18, hr_, by rw [hh3, List.length_map, List.length_map, sizeLine_eq]; omega, fun p3 np3 => ?_⟩
    have eL2 : (headsOf D).map V.str ++ (ks.map (rowOf (turD D k0 (f1, f2)))).map V.str = (linesOf (turD D k0 (f1, f2)) ks).map V.str := by
      unfold LG.linesOf
      rw [List.map_append]
      rfl
    rw [eL2]
    have u9 := same_new np3 (.lst ((linesOf (turD D k0 (f1, f2)) ks).map V.str))
    have hp3 : (upd G p3 (.lst ((linesOf (turD D k0 (f1, f2)) ks).map V.str))) p3 = some (.lst ((linesOf (turD D k0 (f1, f2)) ks).map V.str)) := upd_same
    have u69 := (u68.trans sG).trans u9
    show _
    generalize upd G p3 (.lst ((linesOf (turD D k0 (f1, f2)) ks).map V.str)) = H9 at hp3 u69 ⊢
    have joinOk : ∀ {E : Dev}, LG.Drawn E → (∀ k ∈ ks, k ∈ E.goals.map (·.1)) → ((linesOf E ks).map (·.length)).sum + (linesOf E ks).length * nl1.length ≤ 16777216 := fun {E} dE mE => by
      have h1 := sum_le (Drawn.lines_len dE mE)
      have h2 : (linesOf E ks).length = 3 + ks.length := by
        unfold LG.linesOf
        rw [List.length_append, List.length_map]
        rfl
      have h3 : nl1.length = 1 := by decide +kernel
      rw [h2] at h1 ⊢
      rw [h3]
      omega
    refine ⟨nl1, p3, _, rfl, rfl, .inl (SqL.of hp3), joinOk dr2 (fun k hk => by rw [kd]; exact mem k hk), rfl, _, rfl, ?_⟩
    refine iteNS rfl ?_
    refine ⟨_, rfl, x, C, dx, _, _, rfl, u69 _ _ hx6, Z.dev.cl, Z.dev.nt, rfl, ⟨_, rfl⟩, _, rfl, nl1, l, _, rfl, rfl, .inl (u69.seq hl6), joinOk dr mem, rfl, _, rfl, ?_⟩
    refine iteNS rfl ?_
    have bH9 := bH6.trans (But.of u69)
    have p9 := p6.same u69
    have htk9 := u69 _ _ htk6
    have htf9 := u69 _ _ htf6
    have hD9 := hD6.same u69
    have hy9 := hy.same u69
    clear u69 u68 u7 hp1 hp2 hp18 hp3 hy6 hl6 hD6 hy htk6 htf6 p6 bH6 u9 u8 hx6
    -- the dict with the row turned
    refine ⟨_, rfl, o, _, rfl, dK "rows" H9 (bH9 _ _ h1 npo), ra, kvs, rfl, bH9 _ _ h5 npr, fun HA pl ts sA npl _ _ hpl prs => ?_⟩
    have sA : Same H9 HA := sA
    refine ⟨_, rfl, _, rfl, (by show 2 ≤ sizeLine; decide), fun tp ntp => ?_⟩
    have v1 := same_new ntp (.tup [.ref tk, .ref tf])
    have htp : (upd HA tp (.tup [.ref tk, .ref tf])) tp = some (.tup [.ref tk, .ref tf]) := upd_same
    have hpl1 := v1 _ _ hpl
    show _
    generalize upd HA tp (.tup [.ref tk, .ref tf]) = HB at v1 htp hpl1 ⊢
    refine ⟨(by show 1 ≤ sizeLine; decide), fun l2 nl2 => ?_⟩
    have v2 := same_new nl2 (.lst [.ref tp])
    have hl2 : (upd HB l2 (.lst [.ref tp])) l2 = some (.lst [.ref tp]) := upd_same
    have hpl2 := v2 _ _ hpl1
    have v12 := v1.trans v2
    have htp2 := v2 _ _ htp
    show _
    generalize upd HB l2 (.lst [.ref tp]) = HC at v2 hl2 hpl2 v12 htp2 ⊢
    have tsl : ts.length = kvs.length := by
      have gen : ∀ {F : Addr → List Key × V → Prop} {as : List Addr} {bs : List (List Key × V)}, Paired F as bs → as.length = bs.length := fun {F as bs} h => by
        induction h with
        | nil => rfl
        | cons _ _ ih => rw [List.length_cons, List.length_cons, ih]
      exact gen prs
    refine ⟨pl, l2, _, _, rfl, rfl, hpl2, hl2, by rw [List.length_map, tsl, hkl, sizeLine_eq]; show _ + 1 ≤ _; omega, fun p3 np3 => ?_⟩
    have eT : ts.map V.ref ++ [V.ref tp] = (ts ++ [tp]).map V.ref := by rw [List.map_append] <;> rfl
    rw [eT]
    have v3 := same_new np3 (.lst ((ts ++ [tp]).map V.ref))
    have hp3 : (upd HC p3 (.lst ((ts ++ [tp]).map V.ref))) p3 = some (.lst ((ts ++ [tp]).map V.ref)) := upd_same
    have v13 := v12.trans v3
    have htp3 := v3 _ _ htp2
    show _
    generalize upd HC p3 (.lst ((ts ++ [tp]).map V.ref)) = HD at hp3 v13 htp3 ⊢
    have v9D := sA.trans v13
    have prs2 : Paired (fun (t : Addr) (kv : List Key × V) => ∃ b, SqT K HD t [.ref b, kv.2] ∧ HD b = some (.tup (kv.1.map L2.kV))) (ts ++ [tp]) (kvs ++ [(kT k0, .ref tf)]) := by
      have gen : ∀ {as : List Addr} {bs : List (List Key × V)}, Paired (fun (t : Addr) (q : List Key × V) => ∃ b, HA t = some (.tup [.ref b, q.2]) ∧ HA b = some (.tup (q.1.map L2.kV))) as bs → Paired (fun (t : Addr) (kv : List Key × V) => ∃ b, SqT K HD t [.ref b, kv.2] ∧ HD b = some (.tup (kv.1.map L2.kV))) as bs := fun {as bs} h => by
        induction h with
        | nil => exact .nil
        | cons a _ ih =>
          obtain ⟨b, e1, e2⟩ := a
          exact .cons ⟨b, .inl (.inl (v13 _ _ e1)), v13 _ _ e2⟩ ih
      exact (gen prs).snoc ⟨tk, .inl (.inl htp3), v9D _ _ htk9⟩
    refine ⟨p3, ts ++ [tp], kvs ++ [(kT k0, V.ref tf)], rfl, SqL.of hp3, prs2, fun pd npd => ?_⟩
    have v4 := same_new npd (.dT (mergeT [] (kvs ++ [(kT k0, V.ref tf)])))
    have hpd : (upd HD pd (.dT (mergeT [] (kvs ++ [(kT k0, V.ref tf)])))) pd = some (.dT (mergeT [] (kvs ++ [(kT k0, V.ref tf)]))) := upd_same
    have v9E := v9D.trans v4
    have npdp : pd ≠ p := fun z => (Same.there v9D p9.there) (by rw [← z]; exact npd)
    show _
    generalize upd HD pd (.dT (mergeT [] (kvs ++ [(kT k0, V.ref tf)]))) = HE at hpd v9E ⊢
    have bHE := bH9.trans (But.of v9E)
    have pE := p9.same v9E
    have htkE := v9E _ _ htk9
    have htfE := v9E _ _ htf9
    have hyE := hy9.same v9E
    have hDE := hD9.same v9E
    have kNd : (D.goals.map (·.1)).Nodup := by
      rw [dr.keys]
      exact prod_nodup dr.sn dr.cn
    have gE : GR K (mk p HE) (mergeT [] (kvs ++ [(kT k0, V.ref tf)])) (turD D k0 (f1, f2)).goals := GR.merge (h6m.same (mk_but bHE)) kNd km (.inl (.inl (mk_of ntfp htfE)))
    have hyM : DevAt K (mk p HE) y C (textOf (turD D k0 (f1, f2)) ks) (readOf (turD D k0 (f1, f2)) ks) := dev_mk pE hyE
    clear prs2 htp3 hp3 v13 v12 v1 v2 v3 hl2 hpl2 hpl1 hpl prs sA v4 v9D hy9 htk9 htf9 p9 hD9 bH9 htp htp2 v9E
    -- the walk
    refine ⟨_, rfl, _, rfl, o, _, rfl, dK "calls" HE (bHE _ _ h1 npo), p, ca, 12, b + 1 + 1 + 1, D.calls, rfl, pE, by omega, by decide, SqL.of (bHE _ _ h2 npc), npc, by omega, by omega, fun tw ws B5 HF bF pF hB5 ntw ntwp htw wl wm => ?_⟩
    have bHF := bHE.trans bF
    have htkF := bF _ _ htkE ntkp
    have htfF := bF _ _ htfE ntfp
    have hpdF := bF _ _ hpd npdp
    have gF := gE.same (mk_but bF)
    have hyF : DevAt K HF y C (textOf (turD D k0 (f1, f2)) ks) (readOf (turD D k0 (f1, f2)) ks) := (hyM.same (mk_but bF)).same (mk_self p HF)
    obtain ⟨dy, c2_, a2_, s2_, g2_, hyF0, _⟩ := id hyF
    have FD2 : Full (readOf (turD D k0 (f1, f2)) ks) := dr2.full (by rw [kd]; exact pm_)
    obtain ⟨st0, sr, es⟩ : ∃ y l, D.states = y :: l := List.exists_cons_of_length_pos (by omega)
    have inS : st0 ∈ D.states := by rw [es]; exact List.mem_cons_self
    refine ⟨_, rfl, y, dy, _, rfl, hyF0, rfl, _, rfl, y, .ref tw, textOf (turD D k0 (f1, f2)) ks, readOf (turD D k0 (f1, f2)) ks, true, ws, rfl, hyF, FD2, .inl ⟨tw, ws.map V.str, rfl, .inl (.inl htw), by rw [List.length_map]; omega, fun z hz G8 s8 => ?_, ?_, fun _ => rfl⟩, (fun z => by cases z), fun _ aH G sG haH => ?_⟩
    · obtain ⟨yy, _, rfl⟩ := List.mem_map.mp hz
      exact .inl ⟨yy, rfl⟩
    · rw [List.length_map, decide_eq_true (by omega), Bool.true_and]
      exact (List.all_eq_true.mpr fun z hz => by
        obtain ⟨yy, hyy, rfl⟩ := List.mem_map.mp hz
        exact List.contains_iff_mem.mpr (wm yy hyy)).symm
    have haH : G aH = some (.tup ((runD (turD D k0 (f1, f2)) st0 ws).1.map V.str)) := by
      rw [haH]
      have e1 : (readOf (turD D k0 (f1, f2)) ks).states.headD Str.empty = st0 := by
        show D.states.headD Str.empty = st0
        rw [es]
        rfl
      rw [e1, run_read dr2 (by rw [kd]; exact pm_) inS wm]
    have an := run_names dr2 (ws := ws) (s := st0) inS wm
    have anB : ∀ a ∈ (runD (turD D k0 (f1, f2)) st0 ws).1, isNameB a = true := fun a ha => dr.aw a (an a ha)
    refine fun po npo_ => ⟨_, rfl, upd_same, [(.inr ("rows" : Str), .ref pd)], rfl, (by show 1 ≤ 15; decide), ?_⟩
    rw [show upd (upd G po (.dK [])) po (.dK (mergeK [] [((.inr ("rows" : Str) : L2.Key), V.ref pd)])) = upd G po (.dK [((.inr ("rows" : Str) : L2.Key), V.ref pd)]) from upd_upd]
    have w1 := same_new npo_ (.dK [((.inr ("rows" : Str) : L2.Key), V.ref pd)])
    have hpo : (upd G po (.dK [((.inr ("rows" : Str) : L2.Key), V.ref pd)])) po = some (.dK [((.inr ("rows" : Str) : L2.Key), V.ref pd)]) := upd_same
    have wF := sG.trans w1
    have haH1 := w1 _ _ haH
    show _
    generalize upd G po (.dK [((.inr ("rows" : Str) : L2.Key), V.ref pd)]) = HG at hpo wF haH1 ⊢
    have hsG := wF _ _ (bHF _ _ h4 nps)
    rw [es] at hsG
    refine ⟨_, rfl, o, _, rfl, dK "states" HG (wF _ _ (bHF _ _ h1 npo)), sa, _, _, _, rfl, rfl, SqL.of hsG, atI_nat (j := 0) rfl, _, rfl, po, pd, tw, st0, ws, turD D k0 (f1, f2), rfl, fun G2 s2 => DGet.k (k := Sum.inr ("rows" : Str)) (s2 _ _ hpo), ⟨_, .inl (wF _ _ hpdF), (gF.same (mk_self p HF)).same wF⟩, dr2.full0, inS, wm, .inl (.inl (wF _ _ htw)), by omega, fun q0 a0 G2 s2 hq0 ha0 => ?_⟩
    refine ⟨q0, _, 0, _, rfl, rfl, .inl (.inl hq0), i0, ?_⟩
    generalize (runD (turD D k0 (f1, f2)) st0 ws).1 = ansL at haH1 ha0 anB
    refine ⟨.tuple (ansL.map PyData.str), .tuple (ansL.map PyData.str), .tup (.inl (.inl (s2 _ _ haH1))) (DpAll_strs ansL), .tup (.inl (.inl ha0)) (DpAll_strs ansL), shaped_names anB, shaped_names anB, _, rfl, ?_⟩
    rw [eqv_names]
    refine iteF ?_
    have wF2 := wF.trans s2
    have bH2 := bHF.trans (But.of wF2)
    have p2 := pF.same wF2
    have htk2 := wF2 _ _ htkF
    have htf2 := wF2 _ _ htfF
    clear hyF hyF0 hpo haH haH1 ha0 hq0 hsG w1 wF s2 sG hpd hpdF gF gE hyM hyE htw an anB htkF htfF pF bF FD2
    -- the values and their kinds
    refine ⟨_, rfl, tk, _, _, _, rfl, rfl, .inl (.inl htk2), i0, _, rfl, tk, _, _, _, rfl, rfl, .inl (.inl htk2), i1, _, rfl, tf, _, _, _, rfl, rfl, .inl (.inl htf2), i0, _, rfl, tf, _, _, _, rfl, rfl, .inl (.inl htf2), i1, (by show 4 ≤ sizeLine; decide), fun lv nlv => ?_⟩
    have x1 := same_new nlv (.lst [.str k0.1, .str k0.2, .str f1, .str f2])
    have hlv : (upd G2 lv (.lst [.str k0.1, .str k0.2, .str f1, .str f2])) lv = some (.lst [.str k0.1, .str k0.2, .str f1, .str f2]) := upd_same
    have nlvp : lv ≠ p := new_ne p2.there nlv
    have bH3 := bH2.trans (But.of x1)
    have p3 := p2.same x1
    show _
    generalize upd G2 lv (.lst [.str k0.1, .str k0.2, .str f1, .str f2]) = G3 at hlv bH3 p3 ⊢
    refine ⟨_, rfl, o, _, rfl, dK "states" G3 (bH3 _ _ h1 npo), _, rfl, o, _, rfl, dK "calls" G3 (bH3 _ _ h1 npo), _, rfl, o, _, rfl, dK "answers" G3 (bH3 _ _ h1 npo), _, rfl, o, _, rfl, dK "states" G3 (bH3 _ _ h1 npo), (by show 4 ≤ sizeLine; decide), fun lq nlq => ?_⟩
    have x2 := same_new nlq (.lst [V.ref sa, .ref ca, .ref aa, .ref sa])
    have hlq : (upd G3 lq (.lst [V.ref sa, .ref ca, .ref aa, .ref sa])) lq = some (.lst [V.ref sa, .ref ca, .ref aa, .ref sa]) := upd_same
    have nlqp : lq ≠ p := new_ne p3.there nlq
    have bH4 := bH3.trans (But.of x2)
    have p4 := p3.same x2
    have hlv4 := x2 _ _ hlv
    show _
    generalize upd G3 lq (.lst [V.ref sa, .ref ca, .ref aa, .ref sa]) = G4 at hlq bH4 p4 hlv4 ⊢
    clear x1 x2 bH2 bH3 p2 p3 hlv
    have dev4 : DevAt K (mk p G4) x C (textOf D ks) (readOf D ks) := hD.same (mk_but bH4)
    have t4 : Tabs (tTab P1 P2 P3) G4 := Tabs.but bH4 hp hT
    refine ⟨4, rfl, by decide, by decide, ?_⟩
    refine for_it (walk_range (lo := 0)) (fun i σ G => ∃ (v11 v12 v13 v14 v15 : Option V) (B : Nat), σ = [some (.ref p), some (.ref o), some (.ref x), some (.ref l), some (.ref tk), some (.ref tf), some (.ref y), some (.ref pd), some (.ref tw), some (.ref lv), some (.ref lq), v11, v12, v13, v14, v15, none, none] ∧ BtR p G4 G ∧ Tabs (tTab P1 P2 P3) G ∧ PotAt G p B ∧ B ≤ B5 + 8 * i)
      ⟨_, _, _, _, _, _, rfl, fun _ _ h _ _ => h, t4, p4, by omega⟩ (fun _ _ _ _ _ => trivial) ?_ ?_
    · rintro i yv σ G G' hi ⟨v11, v12, v13, v14, v15, B, rfl, bG, tG, pG, hB⟩ ⟨rfl, rfl⟩
      have hi4 : i < 4 := hi
      have hlvG := bG _ _ hlv4 nlvp (fun ps z => by cases z)
      refine ⟨_, rfl, lv, rfl, ⟨_, SqL.of hlvG⟩, fun DL nDL => ?_⟩
      have ndp : DL ≠ p := new_ne pG.there nDL
      refine lc_it walk_list (D := DL) (g := gName 16) (tt := tYes) (te := tSm K) (vs := [16]) (fun j F => ∃ us : List V, But p G' F ∧ PotAt F p (B + 2 * j) ∧ F DL = some (.lst us) ∧ us.length = j ∧ ∀ u ∈ us, Gx K 2 (mk DL (mk p F)) u)
        ⟨[], But.of (same_new nDL _), pG.same (same_new nDL _), upd_same, rfl, fun _ h => nomatch h⟩ (fun j F _ ⟨us, bF, _⟩ => SqL.of (bF _ _ hlvG nlvp)) ?_ ?_
      · rintro j yj F F' hj ⟨us, bF, pF, dF, lF, gF⟩ ⟨rfl, hyj⟩
        have hj4 : j < 4 := hj
        obtain ⟨z, rfl, hz⟩ : ∃ z : Str, yj = .str z ∧ isNameB z = true := by
          match j, hj4, hyj with
          | 0, _, hyj => exact ⟨k0.1, (Option.some.inj hyj).symm, dr.sw _ mS⟩
          | 1, _, hyj => exact ⟨k0.2, (Option.some.inj hyj).symm, dr.cw _ mC⟩
          | 2, _, hyj => exact ⟨f1, (Option.some.inj hyj).symm, dr.aw _ hf1⟩
          | 3, _, hyj => exact ⟨f2, (Option.some.inj hyj).symm, dr.sw _ hf2⟩
        refine ⟨rfl, p, B + 2 * j, z, rfl, rfl, pF, by omega, hz, fun u F2 b2 p2 g2 => ?_⟩
        have d2 := b2 _ _ dF ndp
        refine ⟨us, d2, by rw [lF, sizeLine_eq]; omega, us ++ [u], fun a ob ha ne => ?_, p2.upd ndp, upd_same, by rw [List.length_append, lF] <;> rfl, fun w hw => ?_⟩
        · rw [upd_ne (ne_of_none ha nDL)]
          exact b2 _ _ (bF _ _ ha ne) ne
        · rcases List.mem_append.mp hw with hw | hw
          · refine (gF w hw).same fun a ob ha => ?_
            obtain ⟨e1, ha⟩ := mk_some ha
            obtain ⟨e2, ha⟩ := mk_some ha
            exact mk_of e1 (mk_of e2 (by rw [upd_ne e1]; exact b2 _ _ ha e2))
          · rw [List.mem_singleton.mp hw]
            refine g2.same fun a ob ha => ?_
            obtain ⟨e0, ha⟩ := mn_some ha
            have e1 : a ≠ DL := fun z => by rw [z, dF] at e0; cases e0
            have e2 : a ≠ p := fun z => pF.there (by rw [← z]; exact e0)
            exact mk_of e1 (mk_of e2 (by rw [upd_ne e1]; exact ha))
      · rintro F ⟨us, bF, pF, dF, lF, gF⟩
        have gF : ∀ u ∈ us, Gx K 2 F u := fun u hu => ((gF u hu).same (mk_self DL _)).same (mk_self p F)
        have lF4 : us.length = 4 := lF
        obtain ⟨w0, w1, w2, w3, rfl⟩ : ∃ w0 w1 w2 w3, us = [w0, w1, w2, w3] := by
          match us, lF4 with
          | [a, b, c, d], _ => exact ⟨a, b, c, d, rfl⟩
        have q0 := gF w0 (by simp)
        have q1 := gF w1 (by simp)
        have q2 := gF w2 (by simp)
        have q3 := gF w3 (by simp)
        have bGF : BtR p G4 F := bG.trans (BtR.of bF)
        have tF : Tabs (tTab P1 P2 P3) F := Tabs.but bF pG tG
        have fac : ∀ {a : Addr} {ob : HO}, G4 a = some ob → a ≠ p → (∀ ps, ob ≠ .tbl ps) → F a = some ob := fun ha ne nt => bGF _ _ ha ne nt
        have hlqF := fac hlq nlqp (fun ps z => by cases z)
        have hsF := fac (bH4 _ _ h4 nps) nps (fun ps z => by cases z)
        have hcF := fac (bH4 _ _ h2 npc) npc (fun ps z => by cases z)
        have haF := fac (bH4 _ _ h3 npa) npa (fun ps z => by cases z)
        have dvF : DevAt K F x C (textOf D ks) (readOf D ks) := (dev4.ext (btr_ext bGF)).same (mk_self p F)
        refine ⟨4, rfl, by decide, by decide, fun DB nDB => ?_⟩
        refine lc_it (walk_range (lo := 0)) (D := DB) (g := gName 17) (tt := tBadT K) (te := tVar 17) (vs := [17]) (fun j F' => Same F F' ∧ F' DB = some (.lst (nI ((List.range j).filter fun k => !okAt D w0 w1 w2 w3 k))))
          ⟨same_new nDB _, upd_same⟩ (fun _ _ _ _ => trivial) ?_ ?_
        · rintro j yj F1 F2 hj ⟨sF, dB⟩ ⟨rfl, rfl⟩
          have hj4 : j < 4 := hj
          obtain ⟨a, Cn, wv, e1, e2, e3, e4, e5⟩ : ∃ (a : Addr) (Cn : List Str) (wv : V), ([w0, w1, w2, w3] : List V)[j]? = some wv ∧ ([V.ref sa, .ref ca, .ref aa, .ref sa] : List V)[j]? = some (.ref a) ∧ F a = some (.lst (Cn.map V.str)) ∧ Gx K 2 F wv ∧ amongB wv Cn = okAt D w0 w1 w2 w3 j := by
            match j, hj4 with
            | 0, _ => exact ⟨sa, D.states, w0, rfl, rfl, hsF, q0, rfl⟩
            | 1, _ => exact ⟨ca, D.calls, w1, rfl, rfl, hcF, q1, rfl⟩
            | 2, _ => exact ⟨aa, D.answers, w2, rfl, rfl, haF, q2, rfl⟩
            | 3, _ => exact ⟨sa, D.states, w3, rfl, rfl, hsF, q3, rfl⟩
          have e17 : ∀ n : Nat, V.int (0 + (n : Int)) = V.int (n : Nat) := fun n => by rw [Int.zero_add]
          refine ⟨rfl, j, DL, lq, a, _, _, wv, Cn, (by show some (some (V.int (0 + (j : Int)))) = _; rw [e17]), rfl, rfl, sF _ _ dF, sF _ _ hlqF, e1, e2, sF _ _ e3, e4.same sF, ?_⟩
          rw [e5]
          have er : (List.range (j + 1)).filter (fun k => !okAt D w0 w1 w2 w3 k) = (List.range j).filter (fun k => !okAt D w0 w1 w2 w3 k) ++ if okAt D w0 w1 w2 w3 j = true then [] else [j] := by
            rw [List.range_succ, List.filter_append]
            cases h : okAt D w0 w1 w2 w3 j <;> simp [h]
          rw [er]
          cases h : okAt D w0 w1 w2 w3 j with
          | true =>
            rw [if_pos rfl, List.append_nil]
            exact iteF ⟨sF, dB⟩
          | false =>
            rw [if_neg (by decide)]
            refine iteT ⟨_, rfl, _, dB, ?_, fun b' o' hb' => ?_, ?_⟩
            · have l1 : ((List.range j).filter fun k => !okAt D w0 w1 w2 w3 k).length ≤ j := Nat.le_trans (List.length_filter_le _ _) (by rw [List.length_range]; exact Nat.le_refl _)
              unfold nI
              rw [List.length_map, sizeLine_eq]
              omega
            · rw [upd_ne (ne_of_none hb' nDB)]
              exact sF _ _ hb'
            · rw [upd_same]
              show some (HO.lst (_ ++ [V.int (0 + (j : Int))])) = _
              rw [e17]
              unfold nI
              rw [List.map_append]
              rfl
        · rintro F1 ⟨sF, dB⟩
          have dB : F1 DB = some (.lst (nI ((List.range 4).filter fun k => !okAt D w0 w1 w2 w3 k))) := dB
          rw [bads_eq] at dB
          have tF1 : Tabs (tTab P1 P2 P3) F1 := tF.ext sF
          refine ⟨x, DL, D, ks, w0, w1, w2, w3, rfl, rfl, tF1, sF _ _ dF, dvF.same sF, dr, pm_, q0.same sF, q1.same sF, q2.same sF, q3.same sF, fun cv G6 eG tG6 hgood hbad => ?_⟩
          have dB6 := eG _ _ dB (fun ps z => by cases z)
          have dL6 := eG _ _ (sF _ _ dF) (fun ps z => by cases z)
          have b6 : BtR p G4 G6 := (bGF.trans (BtR.of (But.of sF))).trans (BtR.ex eG)
          have p6 : PotAt G6 p (B + 8) := (pF.same sF).ext eG
          have l4 : (badsOf D w0 w1 w2 w3).length ≤ 4 := by
            rw [← bads_eq]
            exact Nat.le_trans (List.length_filter_le _ _) (by rw [List.length_range]; exact Nat.le_refl _)
          have fin : ∀ {G7 : Hp}, Same G6 G7 → BtR p G4 G7 ∧ Tabs (tTab P1 P2 P3) G7 ∧ PotAt G7 p (B + 8) := fun {G7} s7 => ⟨b6.trans (BtR.of (But.of s7)), tG6.ext s7, p6.same s7⟩
          refine ⟨DB, badsOf D w0 w1 w2 w3, rfl, dB6, l4, fun G7 s7 => ?_⟩
          cases hbs : badsOf D w0 w1 w2 w3 with
          | nil =>
            rw [hgood hbs]
            refine iteT ⟨_, rfl, _, rfl, ?_⟩
            refine iteNS rfl ?_
            obtain ⟨f1_, f2_, f3_⟩ := fin s7
            exact ⟨_, _, _, _, _, _, rfl, f1_, f2_, f3_, by omega⟩
          | cons k r =>
            have hk : k < 4 := bads_lt (show badL _ _ _ _ = k :: r from hbs)
            have cau := hbad k r hbs
            have vk : ([w0, w1, w2, w3] : List V)[k]? = some (valAt w0 w1 w2 w3 k) := by
              match k, hk with
              | 0, _ => rfl
              | 1, _ => rfl
              | 2, _ => rfl
              | 3, _ => rfl
            have gk : Gx K 2 F (valAt w0 w1 w2 w3 k) := by
              match k, hk with
              | 0, _ => exact q0
              | 1, _ => exact q1
              | 2, _ => exact q2
              | 3, _ => exact q3
            rw [hbs] at dB6
            refine iteF ⟨k, cv, valAt w0 w1 w2 w3 k, rfl, hk, cau.ext (ExtN.of s7), fun lm G8 s8 hlm => ?_⟩
            have s78 := s7.trans s8
            refine ⟨k, r, cv, valAt w0 w1 w2 w3 k, _, lm, DB, DL, rfl, rfl, rfl, rfl, hlm, s78 _ _ dB6, hk, s78 _ _ dL6, vk, cau.ext (ExtN.of s78), ((gk.same sF).ext eG).same s78, fun G9 s9 => iteF ?_⟩
            obtain ⟨f1_, f2_, f3_⟩ := fin (s78.trans s9)
            exact ⟨_, _, _, _, _, _, rfl, f1_, f2_, f3_, by omega⟩
    · rintro σ G ⟨v11, v12, v13, v14, v15, B, rfl, bG, tG, pG, hB⟩
      exact q G tG ((BtR.of bH4).trans bG) ⟨B, pG, by omega⟩
end
end K03
set_option Elab.async false
set_option linter.all false
set_option maxRecDepth 100000
set_option maxHeartbeats 16000000
/-! Law k03's question of one device. -/
namespace K03
open PySem L2 LG LamX
section
variable {P : Program} {w : World} {K : PySem.W.Frag} {mg : Str → Option Value} {base : Heap}
abbrev nRt : List Str := ["_law_pot_here", "_law_own", "_law_lines_here", "_law_here", "_law_state", "_law_order", "_law_later", "_law_value", "_law_caught", "_law_one"]
theorem scRt : FnScope nRt ["_law_pot_here"] (defScope sRight) := ⟨rfl, rfl, rfl, by decide +kernel, rfl, by decide +kernel, by decide +kernel⟩
structure KitR (P : Program) (w : World) (K : PySem.W.Frag) (mg : Str → Option Value) (base : Heap) (fI C CS CB B P1 P2 P3 : Addr) : Prop where
  any : ∃ g gd, FnOk P w K mg base CX0 3 g gd ["_law_pot_here", "_law_many", "_law_sizes_here"] (spAny K) ∧ mg "_law_any_device" = some (.ref g) ∧ PySem.W.keepIn K (.ref g) = true ∧ L2.Binds K gd ["_law_pot_here", "_law_many", "_law_sizes_here"] []
  take : ∃ g gd, FnOk P w K mg base CX0 1 g gd ["_law_pot_here", "_law_upto"] spTake ∧ mg "_law_take" = some (.ref g) ∧ PySem.W.keepIn K (.ref g) = true ∧ L2.Binds K gd ["_law_pot_here", "_law_upto"] []
  sizes : ∃ g gd, FnOk P w K mg base CX0 3 g gd ["_law_pot_here"] (spSizes K) ∧ mg "_law_sizes" = some (.ref g) ∧ PySem.W.keepIn K (.ref g) = true ∧ L2.Binds K gd ["_law_pot_here"] []
  lines : ∃ g gd, FnOk P w K mg base CX0 3 g gd ["_law_pot_here", "_law_device"] (spLines K) ∧ mg "_law_lines" = some (.ref g) ∧ PySem.W.keepIn K (.ref g) = true ∧ L2.Binds K gd ["_law_pot_here", "_law_device"] []
  text : ∃ g gd, FnOk P w K mg base CX0 1 g gd ["_law_device", "_law_lines_here"] (spText K) ∧ mg "_law_text_by" = some (.ref g) ∧ PySem.W.keepIn K (.ref g) = true ∧ L2.Binds K gd ["_law_device", "_law_lines_here"] []
  odd : ∃ g gd, FnOk P w K mg base CX0 3 g gd ["_law_pot_here"] (spOdd K) ∧ mg "_law_odd" = some (.ref g) ∧ PySem.W.keepIn K (.ref g) = true ∧ L2.Binds K gd ["_law_pot_here"] []
  init : ∃ g gd, FnOk P w K mg base (L2.CX P w) 4 g gd ["self", "text"] (spDInit K C CB) ∧ Mk K C g ∧ L2.Binds K gd ["self", "text"] []
  begun : ∃ g gd, FnOk P w K mg base (L2.CX P w) 6 g gd ["self", "state"] (spBegun K C CS) ∧ Meth K C "begun" g ∧ L2.Binds K gd ["self", "state"] []
  walks : ∃ g gd, GnOk P w K mg base 7 g gd ["_law_pot_here", "_law_own", "_law_here", "_law_first"] (spWalks K C P1 P2 P3) ∧ mg "_law_are_walks_right" = some (.ref g) ∧ PySem.W.keepIn K (.ref g) = true ∧ L2.Binds K gd ["_law_pot_here", "_law_own", "_law_here", "_law_first"] []
  turnq : ∃ g gd, GnOk P w K mg base 9 g gd ["_law_pot_here", "_law_own", "_law_here", "_law_lines_here"] (spTurnQ K C P1 P2 P3) ∧ mg "_law_is_turned_right" = some (.ref g) ∧ PySem.W.keepIn K (.ref g) = true ∧ L2.Binds K gd ["_law_pot_here", "_law_own", "_law_here", "_law_lines_here"] []
  told : ∃ (g : Addr) (kV dc pm cd ct oc : Value) (an od : Option Addr) (sl : Array (Option Value)), mg "_law_told" = some (.ref g) ∧ PySem.W.keepIn K (.ref g) = true ∧ K.lookup g = some ⟨oc, od, .func (PySem.W.fnOf "_law_told" "_law_told" (defArgs sTold) (defBody sTold) (defScope sTold) .none kV dc pm an cd ct), sl⟩ ∧
    PySem.W.codeIn K cd "_law_told" = true ∧ L2.Binds K (PySem.W.fnOf "_law_told" "_law_told" (defArgs sTold) (defBody sTold) (defScope sTold) .none kV dc pm an cd ct) ["_law_look"] []
  box : mg "BoxError" = some (.ref B)
  es : EQl K mg fI B "NoState" CS
  dev : DevCl K mg C
  dsc : ClsD K
  n13 : P1 ≠ P3
  n23 : P2 ≠ P3
def tCb (K : PySem.W.Frag) (C CS : Addr) (T : List (Addr × Str)) : TE := fun σ H Q => ∃ (x : Addr) (v : V) (D : Dev) (ks : List (Str × Str)), σ[3]? = some (some (.ref x)) ∧ σ[7]? = some (some v) ∧ Tabs T H ∧ DevAt K H x C (textOf D ks) (readOf D ks) ∧ LG.Drawn D ∧ ks.Perm (D.goals.map (·.1)) ∧ Gx K 2 H v ∧
  ∀ cv G, ExtN H G → Tabs T G → (amongB v D.states = false → Caught G CS cv v) → Q cv G
def tNotS (K : PySem.W.Frag) : TT := fun σ H Q => ∃ (v : V) (o sa : Addr) (S : List Str), σ[7]? = some (some v) ∧ σ[1]? = some (some (.ref o)) ∧ DGet H o (.str "states") (some (.ref sa)) ∧ H sa = some (.lst (S.map V.str)) ∧ Gx K 2 H v ∧ Q (!amongB v S) H
def tCau (K : PySem.W.Frag) (CS : Addr) : TT := fun σ H Q => ∃ (cv v : V), σ[8]? = some (some cv) ∧ σ[7]? = some (some v) ∧ Caught H CS cv v ∧ Gx K 2 H v ∧ Q false H
theorem ok_right {f c P1 P2 P3 fI C CS CB B : Addr} {oc kV doc pm ct : Value} {od an : Option Addr} {osl : Array (Option Value)} (T : Bltn mg) (Z : KitR P w K mg base fI C CS CB B P1 P2 P3)
    (lk : K.lookup f = some ⟨oc, od, .func (PySem.W.fnOf "_law_right" "_law_right" (defArgs sRight) (defBody sRight) (defScope sRight) .none kV doc pm an (.ref c) ct), osl⟩) (hcd : PySem.W.codeIn K (.ref c) "_law_right" = true) (TB : TabB base mg c P3) :
    GnOk P w K mg base 10 f (PySem.W.fnOf "_law_right" "_law_right" (defArgs sRight) (defBody sRight) (defScope sRight) .none kV doc pm an (.ref c) ct) ["_law_pot_here"] (spRight P1 P2 P3) := by
  obtain ⟨ga, gad, GA, mA, kA, bA⟩ := Z.any
  obtain ⟨gt_, gtd_, GT, mT_, kTk, bT_⟩ := Z.take
  obtain ⟨gz, gzd, GZ, mZ, kZ, bZ⟩ := Z.sizes
  obtain ⟨gl, gld, GL, mL, kL, bL⟩ := Z.lines
  obtain ⟨gx, gxd, GX, mX, kX, bX⟩ := Z.text
  obtain ⟨go, god, GO, mO, kO, bO⟩ := Z.odd
  obtain ⟨gi, gid, GI, MI, bI⟩ := Z.init
  obtain ⟨gb, gbd, GB, mB, bB⟩ := Z.begun
  obtain ⟨gw, gwd, GW, mW, kW, bW⟩ := Z.walks
  obtain ⟨gq, gqd, GQ, mQ, kQ, bQ⟩ := Z.turnq
  obtain ⟨gt, kVt, dct, pmt, cdt, ctt, oct, ant, odt, slt, mT, kT_, lT, cT, bT⟩ := Z.told
  refine gn_ofL lk hcd scRt (fun vs H Q E h => ?_) (fun A0 outer s H vs Q hG hr h => ?_)
  · obtain ⟨p, b, rfl, _⟩ := h
    rfl
  obtain ⟨p, b, rfl, hT, hp, hb, q⟩ := h
  have r7 : Room 7 _ := hr.mono (by decide)
  have r6 : Room 6 _ := hr.mono (by decide)
  have r5 : Room 5 _ := hr.mono (by decide)
  have r3 : Room 3 _ := hr.mono (by decide)
  have r1 : Room 1 _ := hr.mono (by decide)
  have r8 : Room 8 _ := hr.mono (by decide)
  have hu := hu_of hr
  refine' ⟨_, pss_cons (ps_set (i := 1) scRt.nd rfl (Or.inl rfl) (pe_call GA r3 rfl mA kA bA .nil pass0 (pa_cons (pv 0) (pa_cons (pe_op op_add pe_int (pe_call GT r1 rfl mT_ kTk bT_ .nil pass0 (pa_cons (pv 0) (pa_cons pe_int pa_nil)))) (pa_cons (pe_call GZ r3 rfl mZ kZ bZ .nil pass0 (pa_cons (pv 0) pa_nil)) pa_nil)))))
    (pss_cons (ps_set (i := 2) scRt.nd rfl (Or.inl rfl) (pe_split (pe_call GX r1 rfl mX kX bX .nil pass0 (pa_cons (pv 1) (pa_cons (pe_call GL r3 rfl mL kL bL .nil pass0 (pa_cons (pv 0) (pa_cons (pv 1) pa_nil))) pa_nil))) pe_str))
    (pss_cons (ps_set (i := 3) scRt.nd rfl (Or.inr rfl) (pe_make MI GI r5 rfl Z.dev.mg bI .nil passF (pa_cons (pe_join pe_str (pv 2)) pa_nil)))
    (pss_cons ?if1 (pss_cons (ps_for PassesOwn.never rfl (pi_list (pe_dget hu (pv 1) pe_str (fun _ _ => rfl))) (pg_name (i := 4) scRt.nd rfl (Or.inr rfl)) (pss_cons ?order (pss_cons (ps_set (i := 6) scRt.nd rfl (Or.inl rfl) (pe_meth (pv 3) Z.dev.cl mB GB r6 bB .nil passF (pa_cons (pv 4) pa_nil))) (pss_cons ?if2 (pss_one ?if3)))))
    (pss_cons (ps_for PassesOwn.never rfl (pi_tup ?tup) (pg_name (i := 7) scRt.nd rfl (Or.inr rfl)) (pss_cons (ps_set (i := 8) scRt.nd rfl (Or.inl rfl) ?cau) (pss_one (ps_if ?bad (pss_one (ps_if ?cat (pss_one (ps_ret pe_bl)) pss_nil)) pss_nil)))) (pss_one (ps_ret pe_bl))))))), ?main⟩
  case if1 =>
    exact ps_if (PW.pt (pw_or (pt_not (pt_val (pe_gcall GW hG r7 rfl mW kW bW (pa_cons (pv 0) (pa_cons (pv 1) (pa_cons (pv 3) (pa_cons (pe_ix ix_list (pe_dget hu (pv 1) pe_str (fun _ _ => rfl)) pe_int (fun _ _ => rfl)) pa_nil))))))) (pw_or1 (pt_not (pt_val (pe_gcall GQ hG hr rfl mQ kQ bQ (pa_cons (pv 0) (pa_cons (pv 1) (pa_cons (pv 3) (pa_cons (pv 2) pa_nil)))))))))) (pss_one (ps_ret pe_bl)) pss_nil
  case order =>
    exact ps_set (i := 5) scRt.nd rfl (Or.inl rfl) (pe_op op_cat (pe_lst (pa_cons (pv 4) pa_nil)) (pe_lc (te := tVar 9) (tt := tTest (tOp rNe (tVar 9) (tVar 4))) (own := [("_law_one", 9)]) (g := gName 9) rfl scRt.nd (pi_list (pe_dget hu (pv 1) pe_str (fun _ _ => rfl))) (blkOk_by (own := [("_law_one", 9)]) (N := nRt) (sc := defScope sRight) (by decide +kernel))
      (fun _ _ _ _ _ => pg_name (i := 9) scRt.nd rfl (Or.inl rfl)) (fun _ _ _ _ _ => pts_one (pt_cmpR op_ne (pv 9) (pv 4) (nomark _))) (fun _ _ _ _ _ => pv 9)))
  case if2 =>
    exact ps_if (pt_cmpR op_ne (pe_fld (pv 6) rfl) (pe_join pe_str (pe_op op_cat (pe_op op_cat (pe_slice sl_list (pv 2) po_none (po_some pe_int)) (pe_lst (pa_cons (pe_join pe_str (pe_op op_cat (pe_lst (pa_cons pe_str pa_nil)) (pv 5))) pa_nil))) (pe_slice sl_list (pv 2) (po_some pe_int) po_none))) (nomark _)) (pss_one (ps_ret pe_bl)) pss_nil
  case if3 =>
    exact ps_if (pt_not (pt_val (pe_gcall GW hG r7 rfl mW kW bW (pa_cons (pv 0) (pa_cons (pv 1) (pa_cons (pv 6) (pa_cons (pv 4) pa_nil))))))) (pss_one (ps_ret pe_bl)) pss_nil
  case tup =>
    exact pe_tup (pa_cons pe_non (pa_cons pe_int (pa_cons (pe_op op_add_str (pe_ix ix_list (pe_dget hu (pv 1) pe_str (fun _ _ => rfl)) pe_int (fun _ _ => rfl)) pe_str) (pa_cons (pe_tup (pa_cons (pe_ix ix_list (pe_dget hu (pv 1) pe_str (fun _ _ => rfl)) pe_int (fun _ _ => rfl)) pa_nil)) (pa_cons (pe_call GO r3 rfl mO kO bO .nil pass0 (pa_cons (pv 0) pa_nil)) pa_nil)))))
  case cau =>
    refine' pe_imp (t' := tCb K C CS (tTab P1 P2 P3)) (pe_ix ix_tup (pe_lam2 (T := tTab P1 P2 P3) (TT := TTk K B) (t := fun E => tMeth C "begun" (spBegun K C CS) [] E (tVar 3) (tCons (tVar 7) tNil)) (k := 6) (Ng := nT) (P := P3) rfl mT kT_ lT cT bT scTold rfl (Or.inl rfl) (told_gives Z.box) TB rfl (List.mem_cons_of_mem _ (List.mem_cons_of_mem _ List.mem_cons_self))
      (fun q hq e => ?_) r8 (lamS_by (by show lamSB (defScope sRight) _ = true; decide +kernel)) (by rfl) (fun _ _ _ _ _ => rfl)
      (fun A outer s H E f c' hr4 => pe_meth (pv 3) Z.dev.cl mB GB hr4 bB .nil (passes_call (takes_of (E := E) rfl rfl rfl rfl) (fun _ _ _ _ h => h)) (pa_cons (pv 7) pa_nil))) pe_int (fun _ _ => rfl)) ?_
    · rcases List.mem_cons.mp hq with rfl | hq
      · exact absurd e Z.n13
      rcases List.mem_cons.mp hq with rfl | hq
      · exact absurd e Z.n23
      · rw [List.mem_singleton.mp hq]
        rfl
    rintro σ H Q ⟨x, v, D, ks, e3, e7, hT, hD, dr, pm_, gv, k⟩
    refine told_gen (fun C' y => amongB v D.states = false ∧ C' = CS ∧ y = v) (amongB v D.states = true) (fun C' y h => by rw [h.2.1]; exact Z.es.box) hT (fun G E R eG er rt => ?_) (fun C' y u p G ⟨hb, hC, hy⟩ eG tG cG hp => ?_) (fun u p G hb eG tG hp => ?_)
    · have hDG := hD.ext eG
      obtain ⟨dx, c0, a0, s0, gg, hx, _⟩ := id hDG
      refine ⟨_, e3, x, dx, _, rfl, hx, rfl, _, e7, x, v, D, ks, rfl, hDG, dr, pm_, (gv.ext eG).strOr, fun hb d nd => er CS v d G ⟨hb, rfl, rfl⟩ (Same.refl G) nd, ?_⟩
      rintro s rfl hs y G2 s2 _
      exact rt (List.contains_iff_mem.mpr hs) _ _ s2
    · subst hC
      subst hy
      exact ⟨p, _, 0, _, rfl, rfl, .inl (.inl hp), rfl, k u G eG tG (fun _ => cG)⟩
    · exact ⟨p, _, 0, _, rfl, rfl, .inl (.inl hp), rfl, k .non G eG tG (fun z => by rw [hb] at z; cases z)⟩
  case bad =>
    refine' pt_imp (t' := tNotS K) (PW.pt (pw_or (pt_not (pt_val (pe_callB call_isi rfl T.isinstance (by decide +kernel) (pa_cons (pv 7) (pa_cons (pe_bltn (v := .ty "str") (u := .type "str") rfl T.str (by decide +kernel) rfl) pa_nil))))) (pw_or1 (pt_cmpR op_notIn_txt (pv 7) (pe_dget hu (pv 1) pe_str (fun _ _ => rfl)) (by rfl))))) ?_
    rintro σ H Q ⟨v, o, sa, S, e7, e1, dg, hs, gv, k⟩
    obtain ⟨t, b, ty, kk, hb⟩ := isi_str gv
    refine ⟨_, e7, v, _, t, _, b, rfl, .ty _, ty, kk, _, rfl, ?_⟩
    rcases hb with ⟨rfl, z, rfl⟩ | ⟨rfl, no⟩
    · exact iteF ⟨_, e7, _, e1, o, _, rfl, dg, z, sa, _, rfl, rfl, .inl (SqL.of hs), _, rfl, k⟩
    · rw [among_not no] at k
      exact iteT k
  case cat =>
    refine' pt_imp (t' := tCau K CS) (PW.pt (pw_or (pt_not (pt_val (pe_callB (call_isErrQ Z.dsc) rfl T.isinstance (by decide +kernel) (pa_cons (pv 8) (pa_cons (pe_glob (v := .ref CS) rfl Z.es.ec.mg rfl) pa_nil)))))
          (pw_or1 (pt_cmpR op_ne (pe_callB (call_repr hG hr.units) rfl T.repr (by decide +kernel) (pa_cons (pe_errq (pv 8)) pa_nil)) (pe_callB (call_repr hG hr.units) rfl T.repr (by decide +kernel) (pa_cons (pv 7) pa_nil)) (nomark _))))) ?_
    rintro σ H Q ⟨cv, v, e8, e7, hc, gv, k⟩
    obtain ⟨a, d, rfl, er⟩ := hc
    obtain ⟨dv, hdv, sdv⟩ := gv.le (show 2 ≤ 3 by decide)
    refine ⟨_, e8, a, CS, d, _, _, _, true, rfl, .own CS, Z.es.ec.er, er, kit_self, _, rfl, iteF ⟨_, e8, a, CS, d, _, _, rfl, Z.es.ec.er, Z.es.ec.no, er, vf_get _, _, dv, 3, rfl, hdv, by decide, sdv, signs3, _, e7, _, dv, 3, rfl, hdv, by decide, sdv, signs3, rfl, _, rfl, ?_⟩⟩
    rw [ne_self]
    exact k
  case main =>
    refine ⟨_, rfl, _, rfl, p, 4, b, rfl, hp, by omega, by decide, by decide, fun k H1 k0 k4 but1 pot1 => ?_⟩
    obtain ⟨k', rfl⟩ := Int.eq_ofNat_of_zero_le k0
    refine ⟨_, _, rfl, rfl, _, rfl, p, b + 1, rfl, pot1, by omega, fun z n1 n2 H2 but2 pot2 hz a1 a3 c2 c3 => ?_⟩
    refine ⟨p, z, 1 + k', n1, n2, b + 1 + 1, rfl, pot2, by omega, by omega, by omega, hz, a1, a3, c2, c3, fun o D H3 but3 pot3 dr hO => ?_⟩
    refine ⟨_, rfl, _, rfl, _, rfl, p, o, _, D, rfl, pot3, by omega, hO, dr, fun l xs ks H4 but4 pot4 hl kr pm_ => ?_⟩
    have hO4 := hO.same (mk_but but4)
    have self4 := mk_self p H4
    have mem : ∀ k ∈ ks, k ∈ D.goals.map (·.1) := fun k hk => pm_.mem_iff.mp hk
    have glen := Drawn.goals_len dr
    have len12 : ks.length ≤ 12 := by
      have := pm_.length_eq
      rw [List.length_map] at this
      omega
    refine ⟨o, l, D, xs, ks, rfl, hO4.same self4, dr, SqL.of (self4 _ _ hl), kr.same self4, mem, len12, fun H5 s5 => ?_⟩
    have tl := dr.text_len mem len12
    have tsp := dr.split_lines mem
    have b5 : But p H H5 := (((but1.trans but2).trans but3).trans but4).trans (But.of s5)
    have hT5 : Tabs (tTab P1 P2 P3) H5 := Tabs.ext (Tabs.but but4 pot3 (Tabs.but but3 pot2 (Tabs.but but2 pot1 (Tabs.but but1 hp hT)))) s5
    have pot5 := pot4.same s5
    have hO5 : OwnAt K (mk p H5) o D := hO4.same (mk_up s5)
    clear hl kr hO4 self4 hO hz but1 but2 but3 but4 pot1 pot2 pot3 pot4 s5
    refine ⟨⟨_, rfl⟩, _, nl1, rfl, rfl, rfl, by rw [sizeLine_eq]; omega, fun l0 nl0 => ?_⟩
    rw [tsp]
    have u1 := same_new nl0 (.lst ((LG.linesOf D ks).map V.str))
    have hl0 : (upd H5 l0 (.lst ((LG.linesOf D ks).map V.str))) l0 = some (.lst ((LG.linesOf D ks).map V.str)) := upd_same
    have nlp : l0 ≠ p := fun z => pot5.there (by rw [← z]; exact nl0)
    have b6 := b5.trans (But.of u1)
    have hT6 := hT5.ext u1
    have pot6 := pot5.same u1
    have hO6 := hO5.same (mk_up u1)
    clear hT5 pot5 hO5
    show _
    generalize upd H5 l0 (.lst ((LG.linesOf D ks).map V.str)) = H6 at hl0 b6 hT6 pot6 hO6 ⊢
    have joinOk : ∀ {E : Dev}, LG.Drawn E → (∀ k ∈ ks, k ∈ E.goals.map (·.1)) → ((LG.linesOf E ks).map (·.length)).sum + (LG.linesOf E ks).length * nl1.length ≤ 16777216 := fun {E} dE mE => by
      have h1 := sum_le (Drawn.lines_len dE mE)
      have h2 : (LG.linesOf E ks).length = 3 + ks.length := by
        unfold LG.linesOf
        rw [List.length_append, List.length_map]
        rfl
      have h3 : nl1.length = 1 := by decide +kernel
      rw [h2] at h1 ⊢
      rw [h3]
      omega
    refine ⟨⟨_, rfl⟩, _, rfl, nl1, l0, _, rfl, rfl, .inl (SqL.of hl0), joinOk dr mem, fun x dx nx ndx nex => ⟨x, dx, .str (textOf D ks), rfl, upd_same, .inl ⟨_, rfl⟩, (fun T' e => ?_), (fun T' D' e hpa G but dev => ⟨rfl, ?_⟩), fun n hn => ?_⟩⟩
    · cases e
      exact tl
    rotate_left
    · exfalso
      have e : parse (textOf D ks) = .inl n := hn
      rw [dr.read pm_] at e
      cases e
    cases e
    rw [dr.read pm_] at hpa
    cases hpa
    have sG := made nx ndx but
    have b7 := b6.trans (But.of sG)
    have hT7 := hT6.ext sG
    have pot7 := pot6.same sG
    have hO7 := hO6.same (mk_up sG)
    have hl7 := sG _ _ hl0
    have dev7 : DevAt K (mk p G) x C (textOf D ks) (readOf D ks) := dev_mk pot7 dev
    clear hl0 b6 hT6 pot6 hO6 but dev sG u1 b5
    obtain ⟨ca, aa, sa, ra, kvs, h1, h2, h3, h4, h5, h6⟩ := hO7.ex
    obtain ⟨npo, h1⟩ := mk_some h1
    obtain ⟨nps, h4⟩ := mk_some h4
    have dK := fun (x : Str) (G : Hp) (e : G o = some (.dK [(.inr ("calls" : Str), .ref ca), (.inr ("answers" : Str), .ref aa), (.inr ("states" : Str), .ref sa), (.inr ("rows" : Str), .ref ra)])) => DGet.k (k := Sum.inr x) e
    have s1_ := dr.s1
    obtain ⟨st0, sr, es⟩ : ∃ y l, D.states = y :: l := List.exists_cons_of_length_pos (by omega)
    have inS : st0 ∈ D.states := by rw [es]; exact List.mem_cons_self
    have h40 : G sa = some (.lst ((st0 :: sr).map V.str)) := by rw [← es]; exact h4
    refine ⟨_, rfl, _, rfl, _, rfl, _, rfl, o, _, rfl, dK "states" G h1, sa, _, _, _, rfl, rfl, SqL.of h40, atI_nat (j := 0) rfl, p, o, x, _, st0, D, readOf D ks, textOf D ks, rfl, hT7, pot7, by omega, hO7, dr, dev7, dr.full pm_, rfl, ?_, inS, fun ws hw => run_read dr pm_ inS hw, fun G1 t1 bt1 ⟨B1, p1, hB1⟩ => ?_⟩
    · show D.states.headD Str.empty = st0
      rw [es]
      rfl
    have x71 := btr_ext bt1
    have hO1 : OwnAt K (mk p G1) o D := hO7.ext x71
    have dev1 : DevAt K (mk p G1) x C (textOf D ks) (readOf D ks) := dev7.ext x71
    have hl1 : mk p G1 l0 = some (.lst ((LG.linesOf D ks).map V.str)) := x71 _ _ (mk_of nlp hl7) (fun ps z => by cases z)
    refine ⟨_, rfl, iteF ⟨_, rfl, _, rfl, _, rfl, _, rfl, p, o, x, l0, B1, D, ks, rfl, t1, p1, by omega, hO1, dr, dev1, pm_, SqL.of hl1, fun G2 t2 bt2 ⟨B2, p2, hB2⟩ => ?_⟩⟩
    refine ⟨_, rfl, iteF ?_⟩
    have bt : BtR p G G2 := bt1.trans bt2
    have b02 : BtR p H G2 := (BtR.of b7).trans bt
    have oG : ∀ {F : Hp}, BtR p G2 F → F o = some (.dK [(.inr ("calls" : Str), .ref ca), (.inr ("answers" : Str), .ref aa), (.inr ("states" : Str), .ref sa), (.inr ("rows" : Str), .ref ra)]) := fun e => (bt.trans e) _ _ h1 npo (fun ps z => by cases z)
    have sG : ∀ {F : Hp}, BtR p G2 F → F sa = some (.lst (D.states.map V.str)) := fun e => (bt.trans e) _ _ h4 nps (fun ps z => by cases z)
    have lG : ∀ {F : Hp}, BtR p G2 F → F l0 = some (.lst ((LG.linesOf D ks).map V.str)) := fun e => (bt.trans e) _ _ hl7 nlp (fun ps z => by cases z)
    have hO2 : OwnAt K (mk p G2) o D := hO7.ext (btr_ext bt)
    have dev2 : DevAt K (mk p G2) x C (textOf D ks) (readOf D ks) := dev7.ext (btr_ext bt)
    have rf2 : BtR p G2 G2 := fun _ _ h _ _ => h
    clear t1 p1 hO1 dev1 hl1 x71 bt1 bt2 hO7 dev7 hl7 h5 h6
    refine ⟨_, rfl, o, _, rfl, dK "states" G2 (oG rf2), sa, rfl, ⟨_, SqL.of (sG rf2)⟩, ?_⟩
    refine for_it walk_list (fun i σ F => ∃ (v4 v5 v6 v7 v8 : Option V) (B : Nat), σ = [some (.ref p), some (.ref o), some (.ref l0), some (.ref x), v4, v5, v6, v7, v8, none] ∧ BtR p G2 F ∧ Tabs (tTab P1 P2 P3) F ∧ PotAt F p B ∧ B ≤ B2 + 100 * i)
      ⟨_, _, _, _, _, _, rfl, rf2, t2, p2, by omega⟩ (fun i σ F _ ⟨_, _, _, _, _, _, _, e, _⟩ => SqL.of (sG e)) ?_ ?_
    · rintro i yv σ F F' hi ⟨v4, v5, v6, v7, v8, B3, rfl, bF, tF, pF, hB3⟩ ⟨rfl, hyv⟩
      have hi4 : i < 4 := by
        have h := hi
        rw [List.length_map] at h
        omega
      obtain ⟨s, hs, rfl⟩ : ∃ s : Str, s ∈ D.states ∧ yv = .str s := by
        obtain ⟨s, hs, e⟩ := List.mem_map.mp (List.mem_of_getElem? hyv)
        exact ⟨s, hs, e.symm⟩
      refine ⟨_, rfl, (by show 1 ≤ sizeLine; decide), fun q1 nq1 => ?_⟩
      have u1 := same_new nq1 (.lst [V.str s])
      have hq1 : (upd F' q1 (.lst [V.str s])) q1 = some (.lst [V.str s]) := upd_same
      have bF1 := bF.trans (BtR.of (But.of u1))
      show _
      generalize upd F' q1 (.lst [V.str s]) = F1 at u1 hq1 bF1 ⊢
      refine ⟨_, rfl, o, _, rfl, dK "states" F1 (oG bF1), sa, rfl, ⟨_, SqL.of (sG bF1)⟩, fun DO nDO => ?_⟩
      refine lc_it walk_list (D := DO) (g := gName 9) (tt := tTest (tOp rNe (tVar 9) (tVar 4))) (te := tVar 9) (vs := [9]) (fun j E => Same F1 E ∧ E DO = some (.lst ((othS (D.states.take j) s).map V.str))) ⟨same_new nDO _, upd_same⟩ (fun j E _ h => SqL.of (h.1 _ _ (sG bF1))) ?_ ?_
      · rintro j yj E4 E5 hj ⟨s4, d4⟩ ⟨rfl, hy⟩
        have hj : j < D.states.length := by
          rw [List.length_map] at hj
          exact hj
        rw [List.getElem?_map, List.getElem?_eq_getElem hj] at hy
        have ey : yj = .str D.states[j] := (Option.some.inj hy).symm
        subst ey
        have et : D.states.take (j + 1) = D.states.take j ++ [D.states[j]] := by rw [List.take_add_one, List.getElem?_eq_getElem hj]; rfl
        refine ⟨rfl, _, rfl, _, rfl, rfl, _, rfl, ?_⟩
        have lo : (othS (D.states.take j) s).length ≤ j := by
          have := List.length_filter_le (fun y => !decide (y = s)) (D.states.take j)
          rw [List.length_take] at this
          unfold othS
          omega
        have eo : othS (D.states.take (j + 1)) s = othS (D.states.take j) s ++ if D.states[j] = s then [] else [D.states[j]] := by
          unfold othS
          rw [et, List.filter_append]
          by_cases e : D.states[j] = s
          · simp [e]
          · simp [e]
        rw [eo]
        by_cases e : D.states[j] = s
        · rw [if_pos e, List.append_nil]
          exact iteN (by rw [e]; simp) ⟨s4, d4⟩
        · rw [if_neg e]
          refine iteC (by simp [e]) ⟨_, rfl, _, d4, by rw [List.length_map, sizeLine_eq]; omega, fun b o h => ?_, ?_⟩
          · rw [upd_ne (ne_of_none h nDO)]
            exact s4 _ _ h
          · rw [upd_same, List.map_append]
            rfl
      rintro F2 ⟨s12, d2⟩
      have el : (D.states.map V.str).length = D.states.length := List.length_map _
      rw [el, List.take_length] at d2
      have ol := (oth_perm dr.sn hs).length_eq
      rw [List.length_cons] at ol
      refine ⟨q1, DO, _, _, rfl, rfl, s12 _ _ hq1, d2, by rw [List.length_map, sizeLine_eq]; show 1 + _ ≤ _; omega, fun q2 nq2 => ?_⟩
      have u3 := same_new nq2 (.lst ([V.str s] ++ (othS D.states s).map V.str))
      have hq2 : (upd F2 q2 (.lst ([V.str s] ++ (othS D.states s).map V.str))) q2 = some (.lst ((s :: othS D.states s).map V.str)) := upd_same
      have bF3 := bF1.trans (BtR.of (But.of (s12.trans u3)))
      have sF3 := (u1.trans s12).trans u3
      show _
      generalize upd F2 q2 (.lst ([V.str s] ++ (othS D.states s).map V.str)) = F3 at hq2 bF3 sF3 ⊢
      clear u1 s12 u3 bF1 hq1 d2
      have dev3 : DevAt K F3 x C (textOf D ks) (readOf D ks) := (dev2.ext (btr_ext bF3)).same (mk_self p F3)
      obtain ⟨dx3, c0, a0, s0, g0, hx3, _⟩ := id dev3
      refine ⟨_, rfl, x, dx3, _, rfl, hx3, rfl, _, rfl, x, .str s, D, ks, rfl, dev3, dr, pm_, .inl ⟨_, rfl⟩, (fun z => absurd (z.symm.trans (show amongB (.str s) D.states = true from List.contains_iff_mem.mpr hs)) (by decide)), fun s' e _ y F4 s34 dy => ?_⟩
      cases e
      have bF4 := bF3.trans (BtR.of (But.of s34))
      have sF4 := sF3.trans s34
      have hq4 := s34 _ _ hq2
      obtain ⟨dxy, c1, a1, s1', g1, hy4, _⟩ := id dy
      have hlF : SqL K F4 l0 ((LG.linesOf D ks).map V.str) := SqL.of (lG bF4)
      refine ⟨_, rfl, y, C, dxy, _, _, rfl, hy4, Z.dev.cl, Z.dev.nt, rfl, ⟨_, rfl⟩, _, rfl, 2, rfl, l0, _, rfl, hlF, fun p1 np1 => ?_⟩
      have w1 := same_new np1 (.lst (cutV ((LG.linesOf D ks).map V.str) none (some 2)))
      have hp1 : (upd F4 p1 (.lst (cutV ((LG.linesOf D ks).map V.str) none (some 2)))) p1 = some (.lst (((LG.linesOf D ks).take 2).map V.str)) := by
        rw [upd_same, show (2 : Int) = ((2 : Nat) : Int) from rfl, cut_upto, List.map_take]
      show _
      generalize upd F4 p1 (.lst (cutV ((LG.linesOf D ks).map V.str) none (some 2))) = E1 at w1 hp1 ⊢
      refine ⟨⟨_, rfl⟩, (by show 1 ≤ sizeLine; decide), fun p2 np2 => ?_⟩
      have w2 := same_new np2 (.lst [V.str "states"])
      have hp2 : (upd E1 p2 (.lst [V.str "states"])) p2 = some (.lst [V.str "states"]) := upd_same
      have hp12 := w2 _ _ hp1
      have w12 := w1.trans w2
      show _
      generalize upd E1 p2 (.lst [V.str "states"]) = E2 at hp2 hp12 w12 ⊢
      refine ⟨_, rfl, p2, q2, _, _, rfl, rfl, hp2, w12 _ _ hq4, by rw [List.length_map, sizeLine_eq]; show 1 + ((othS D.states s).length + 1) ≤ _; omega, fun p3 np3 => ?_⟩
      have w3 := same_new np3 (.lst ([V.str "states"] ++ (s :: othS D.states s).map V.str))
      have hp3 : (upd E2 p3 (.lst ([V.str "states"] ++ (s :: othS D.states s).map V.str))) p3 = some (.lst ((("states" : Str) :: s :: othS D.states s).map V.str)) := upd_same
      have hp13 := w3 _ _ hp12
      have w13 := w12.trans w3
      show _
      generalize upd E2 p3 (.lst ([V.str "states"] ++ (s :: othS D.states s).map V.str)) = E3 at hp3 hp13 w13 ⊢
      have jl : ((("states" : Str) :: s :: othS D.states s).map (·.length)).sum + (("states" : Str) :: s :: othS D.states s).length * sp1.length ≤ 16777216 := by
        have h1 : ∀ t ∈ (("states" : Str) :: s :: othS D.states s), t.length ≤ 8 := by
          intro t ht
          rcases List.mem_cons.mp ht with rfl | ht
          · decide +kernel
          · exact name_len (dr.sw t ((oth_perm dr.sn hs).mem_iff.mp ht))
        have h2 := sum_le h1
        have h3 : sp1.length = 1 := by decide +kernel
        rw [List.length_cons, List.length_cons] at h2 ⊢
        rw [h3]
        omega
      refine ⟨sp1, p3, _, rfl, rfl, .inl (SqL.of hp3), jl, (by show 1 ≤ sizeLine; decide), fun p4 np4 => ?_⟩
      have w4 := same_new np4 (.lst [V.str (Txt.join sp1 (("states" : Str) :: s :: othS D.states s))])
      have hp4 : (upd E3 p4 (.lst [V.str (Txt.join sp1 (("states" : Str) :: s :: othS D.states s))])) p4 = some (.lst [V.str (Txt.join sp1 (("states" : Str) :: s :: othS D.states s))]) := upd_same
      have hp14 := w4 _ _ hp13
      have w14 := w13.trans w4
      show _
      generalize upd E3 p4 (.lst [V.str (Txt.join sp1 (("states" : Str) :: s :: othS D.states s))]) = E4 at hp4 hp14 w14 ⊢
      refine ⟨p1, p4, _, _, rfl, rfl, hp14, hp4, by rw [List.length_map, List.length_take, sizeLine_eq]; show _ + 1 ≤ _; omega, fun p5 np5 => ?_⟩
      have w5 := same_new np5 (.lst (((LG.linesOf D ks).take 2).map V.str ++ [V.str (Txt.join sp1 (("states" : Str) :: s :: othS D.states s))]))
      have hp5 : (upd E4 p5 (.lst (((LG.linesOf D ks).take 2).map V.str ++ [V.str (Txt.join sp1 (("states" : Str) :: s :: othS D.states s))]))) p5 = some (.lst (((LG.linesOf D ks).take 2).map V.str ++ [V.str (Txt.join sp1 (("states" : Str) :: s :: othS D.states s))])) := upd_same
      have w15 := w14.trans w5
      show _
      generalize upd E4 p5 (.lst (((LG.linesOf D ks).take 2).map V.str ++ [V.str (Txt.join sp1 (("states" : Str) :: s :: othS D.states s))])) = E5 at hp5 w15 ⊢
      refine ⟨_, rfl, 3, rfl, l0, _, rfl, w15.seq hlF, fun p6 np6 => ?_⟩
      have w6 := same_new np6 (.lst (cutV ((LG.linesOf D ks).map V.str) (some 3) none))
      have hp6 : (upd E5 p6 (.lst (cutV ((LG.linesOf D ks).map V.str) (some 3) none))) p6 = some (.lst (((LG.linesOf D ks).drop 3).map V.str)) := by
        rw [upd_same, show (3 : Int) = ((3 : Nat) : Int) from rfl, cut_from, List.map_drop]
      have hp56 := w6 _ _ hp5
      have w16 := w15.trans w6
      show _
      generalize upd E5 p6 (.lst (cutV ((LG.linesOf D ks).map V.str) (some 3) none)) = E6 at hp6 hp56 w16 ⊢
      have lnl : (LG.linesOf D ks).length = 3 + ks.length := by
        unfold LG.linesOf
        rw [List.length_append, List.length_map]
        rfl
      refine ⟨p5, p6, _, _, rfl, rfl, hp56, hp6, by rw [List.length_append, List.length_map, List.length_map, List.length_take, List.length_drop, List.length_singleton, lnl, sizeLine_eq]; omega, fun p7 np7 => ?_⟩
      have eL : ((LG.linesOf D ks).take 2).map V.str ++ [V.str (Txt.join sp1 (("states" : Str) :: s :: othS D.states s))] ++ ((LG.linesOf D ks).drop 3).map V.str = (LG.linesOf (begD D s) ks).map V.str := by
        rw [dr.begun_lines hs mem]
        unfold LG.linesOf headsOf
        rfl
      have w7 := same_new np7 (.lst (((LG.linesOf D ks).take 2).map V.str ++ [V.str (Txt.join sp1 (("states" : Str) :: s :: othS D.states s))] ++ ((LG.linesOf D ks).drop 3).map V.str))
      have hp7 : (upd E6 p7 (.lst (((LG.linesOf D ks).take 2).map V.str ++ [V.str (Txt.join sp1 (("states" : Str) :: s :: othS D.states s))] ++ ((LG.linesOf D ks).drop 3).map V.str))) p7 = some (.lst ((LG.linesOf (begD D s) ks).map V.str)) := by
        rw [upd_same, eL]
      have w17 := w16.trans w7
      show _
      generalize upd E6 p7 (.lst (((LG.linesOf D ks).take 2).map V.str ++ [V.str (Txt.join sp1 (("states" : Str) :: s :: othS D.states s))] ++ ((LG.linesOf D ks).drop 3).map V.str)) = E7 at hp7 w17 ⊢
      have drb := dr.begun hs
      have pmb := dr.begun_perm hs pm_
      refine ⟨nl1, p7, _, rfl, rfl, .inl (SqL.of hp7), joinOk drb (fun k hk => pmb.mem_iff.mp hk), rfl, _, rfl, ?_⟩
      refine iteNS rfl ?_
      have bF7 := bF4.trans (BtR.of (But.of w17))
      have tF7 := (tF.ext sF4).ext w17
      have pF7 := (pF.same sF4).same w17
      have dyM : DevAt K (mk p E7) y C (textOf (begD D s) ks) (readOf (begD D s) ks) := dev_mk pF7 (dy.same w17)
      refine ⟨_, rfl, _, rfl, _, rfl, _, rfl, p, o, y, B3, s, D, readOf (begD D s) ks, textOf (begD D s) ks, rfl, tF7, pF7, by omega, hO2.ext (btr_ext bF7), dr, dyM, drb.full pmb, rfl, rfl, hs, fun ws hw => ?_, fun G8 t8 bt8 ⟨B8, p8, hB8⟩ => ⟨_, rfl, iteF ⟨_, _, _, _, _, B8, rfl, bF7.trans bt8, t8, p8, by omega⟩⟩⟩
      rw [run_read drb pmb (show s ∈ s :: othS D.states s from List.mem_cons_self) hw]
      exact run_same dr (fun k hk => dr.begun_row hs hk) hs hw
    · rintro σ F ⟨v4, v5, v6, v7, v8, B3, rfl, bF, tF, pF, hB3⟩
      have hB : B3 ≤ B2 + 400 := by
        rw [List.length_map] at hB3
        omega
      have sF := sG bF
      rw [es] at sF
      have stn : isNameB st0 = true := dr.sw st0 inS
      have sl := name_len stn
      refine ⟨_, rfl, o, _, rfl, dK "states" F (oG bF), sa, _, _, _, rfl, rfl, SqL.of sF, atI_nat (j := 0) rfl, _, _, rfl, rfl, ?_, _, rfl, o, _, rfl, dK "states" F (oG bF), sa, _, _, _, rfl, rfl, SqL.of sF, atI_nat (j := 0) rfl, (by show 1 ≤ sizeLine; decide), fun t1 nt1 => ?_⟩
      · have e : ("x" : Str).length = 1 := by decide +kernel
        rw [e, sizeLine_eq]
        omega
      have u1 := same_new nt1 (.tup [V.str st0])
      have ht1 : (upd F t1 (.tup [V.str st0])) t1 = some (.tup [V.str st0]) := upd_same
      have nt1p : t1 ≠ p := new_ne pF.there nt1
      have p1 := pF.same u1
      have bF1 := bF.trans (BtR.of (But.of u1))
      have tF1 := tF.ext u1
      show _
      generalize upd F t1 (.tup [V.str st0]) = F1 at ht1 p1 bF1 tF1 ⊢
      refine ⟨_, rfl, p, B3, rfl, p1, by omega, fun x0 F2 b2 p2 g2 => ⟨(by show 5 ≤ sizeLine; decide), fun t2 nt2 => ?_⟩⟩
      have m2 : Gx K 2 (mk p F2) x0 := g2.same (mn_mk p1.there)
      have ht12 := b2 _ _ ht1 nt1p
      have bF2 := bF1.trans (BtR.of b2)
      have tF2 := Tabs.but b2 p1 tF1
      have u3 := same_new nt2 (.tup [V.non, .int 0, .str (st0 ++ "x"), .ref t1, x0])
      have ht2 : (upd F2 t2 (.tup [V.non, .int 0, .str (st0 ++ "x"), .ref t1, x0])) t2 = some (.tup [V.non, .int 0, .str (st0 ++ "x"), .ref t1, x0]) := upd_same
      have vals : ∀ v ∈ ([V.non, .int 0, .str (st0 ++ "x"), .ref t1, x0] : List V), Gx K 2 (upd F2 t2 (.tup [V.non, .int 0, .str (st0 ++ "x"), .ref t1, x0])) v := by
        intro v hv
        simp only [List.mem_cons, List.not_mem_nil, or_false] at hv
        rcases hv with rfl | rfl | rfl | rfl | rfl
        · exact ⟨.none, .flat .non, by simp only [small]⟩
        · exact ⟨.int 0, .flat (.int 0), by simp only [small]; decide⟩
        · exact Gx.str (name_x_small stn)
        · exact (Gd.tup (n := 1) (.cons ⟨.str st0, .str st0, small_le (Nat.zero_le _) (name_small stn)⟩ .nil) (by simp) (.inl (.inl (u3 _ _ ht12)))).x
        · exact (m2.same (mk_self p F2)).same u3
      have bF3 := bF2.trans (BtR.of (But.of u3))
      have tF3 := tF2.ext u3
      have p3 := p2.same u3
      show _
      generalize upd F2 t2 (.tup [V.non, .int 0, .str (st0 ++ "x"), .ref t1, x0]) = F3 at ht2 vals bF3 tF3 p3 ⊢
      generalize ([V.non, .int 0, .str (st0 ++ "x"), .ref t1, x0] : List V) = vs0 at ht2 vals
      clear u1 u3 m2 ht12 ht1 tF1 tF2 p1 p2 bF1 bF2 b2 g2
      have dev3 : DevAt K F3 x C (textOf D ks) (readOf D ks) := (dev2.ext (btr_ext bF3)).same (mk_self p F3)
      have oF3 := oG bF3
      have sF3 := sG bF3
      refine ⟨t2, rfl, ⟨_, .inl (.inl ht2)⟩, ?_⟩
      refine for_it walk_tup (fun i σ E => ∃ (v7 v8 : Option V), σ = [some (.ref p), some (.ref o), some (.ref l0), some (.ref x), v4, v5, v6, v7, v8, none] ∧ ExtN F3 E ∧ Tabs (tTab P1 P2 P3) E) ⟨_, _, rfl, ExtN.refl _, tF3⟩ (fun i σ E _ ⟨_, _, _, e, _⟩ => .inl (.inl (e _ _ ht2 (fun ps z => by cases z)))) ?_ ?_
      · rintro i v σ E E' hi ⟨v7, v8, rfl, eE, tE⟩ ⟨rfl, hv⟩
        have gv : Gx K 2 E' v := (vals v (List.mem_of_getElem? hv)).ext eE
        refine ⟨x, v, D, ks, rfl, rfl, tE, dev3.ext eE, dr, pm_, gv, fun cv E2 e2 t2' hc => ?_⟩
        have e32 := eE.trans e2
        have gv2 := gv.ext e2
        refine ⟨v, o, sa, D.states, rfl, rfl, dK "states" E2 (e32 _ _ oF3 (fun ps z => by cases z)), e32 _ _ sF3 (fun ps z => by cases z), gv2, ?_⟩
        cases h : amongB v D.states with
        | true => exact iteF ⟨_, _, rfl, e32, t2'⟩
        | false => exact iteT ⟨cv, v, rfl, rfl, hc h, gv2, iteF ⟨_, _, rfl, e32, t2'⟩⟩
      · rintro σ E ⟨v7, v8, rfl, eE, tE⟩
        exact q E tE ((b02.trans bF3).trans (BtR.ex eE)) ⟨_, p3.ext eE, by omega⟩
end
end K03
set_option Elab.async false
set_option linter.all false
set_option maxRecDepth 100000
set_option maxHeartbeats 4000000
namespace LG
open PySem PySem.Spec PyProof.Rows L2 LamX
theorem g_walkU {l : PySem.W.OpenLaw} {k : Nat} {q : Program} {loose : List Str} {XP : (Str → Option Value) → Heap → Prop} {YP : World → Heap → Prop} {d : DefRec} {K : Params → PySem.W.Frag} {x : Str}
    (most : l.most = some 63) (nodef : d.params.defaults = []) (hr : Room k callerA) (inK : ∀ (w : World) (h : Heap), YP w h → (K w.params).In h)
    (F : ∀ (w : World) (mg mb : Str → Option Value) (fa : Addr) (h : Heap) (mean : ExcName → Option Value), YP w h → PyProof.Rows.Top q (PySem.W.looseW q loose) mean mg mb h → (K w.params).In h → h.Ns mainGlobals mg → mg d.name = some (.ref fa) → GLawAt l w (K w.params) k x mg fa h) :
    PySem.W.WalkO q loose XP YP l.row.toRowW d [] (fun f vs => PySem.call f vs) := by
  refine Att.attach_call most nodef fun w s₀ s₁ mg mb fa o pm cd doc a vs ns G Y ho hd hcd hmg hobj hints hlen hg => ?_
  have KX := inK w _ Y
  obtain ⟨fd, cs, sp, hT, nT, C, hb, hsp, hF⟩ := F w mg mb fa _ _ Y G.T KX G.T.g hmg
  exact g_lawT KX G.T.g G.T.b G.T.builtins G.T.nolimit hg hT nT C G.T.bmain hobj hints (Nat.le_trans hlen (by decide)) hr hF hb fun H hH hS => hsp H a ns hlen hH hS
def errsB (K : PySem.W.Frag) (fI B : Addr) (Cs : List Addr) : Bool :=
  (Cs.all fun C => errB K C (.ref B :: PySem.HandSPX.veTail)) && ((Cs.all fun C => decide (PySem.W.findIn K (.ref C) "__init__" = some (some (.ref fI))) && (decide (PySem.W.findIn K (.ref C) "value" = some none) && decide (PySem.W.exmOne K (.ref C) (.ref B) = some true))) &&
  (decide (PySem.W.specialIn K (.builtin "object.__class__") "__get__" = some (some (.builtin "getset_descriptor.__get__"))) && (decide (PySem.W.takesIn K (.builtin "object.__class__") = some true) && decide (PySem.W.typeIn K (.ref fI) = some (.type "function")))))
structure ErrsF (K : PySem.W.Frag) (fI B : Addr) (Cs : List Addr) : Prop where
  each : ∀ C ∈ Cs, errB K C (.ref B :: PySem.HandSPX.veTail) = true
  ini : ∀ C ∈ Cs, PySem.W.findIn K (.ref C) "__init__" = some (some (.ref fI))
  val : ∀ C ∈ Cs, PySem.W.findIn K (.ref C) "value" = some none
  box : ∀ C ∈ Cs, PySem.W.exmOne K (.ref C) (.ref B) = some true
  dsc : ClsD K
  fn : PySem.W.typeIn K (.ref fI) = some (.type "function")
theorem errsB_ok {K : PySem.W.Frag} {fI B : Addr} {Cs : List Addr} (h : errsB K fI B Cs = true) : ErrsF K fI B Cs := by
  unfold errsB at h
  simp only [Bool.and_eq_true] at h
  obtain ⟨h2, h3, h7, h8, h9⟩ := h
  have h3' := List.all_eq_true.mp h3
  refine ⟨fun C hC => List.all_eq_true.mp h2 C hC, fun C hC => ?_, fun C hC => ?_, fun C hC => ?_, ⟨of_decide_eq_true h7, of_decide_eq_true h8⟩, of_decide_eq_true h9⟩
  · have := h3' C hC
    simp only [Bool.and_eq_true] at this
    exact of_decide_eq_true this.1
  · have := h3' C hC
    simp only [Bool.and_eq_true] at this
    exact of_decide_eq_true this.2.1
  · have := h3' C hC
    simp only [Bool.and_eq_true] at this
    exact of_decide_eq_true this.2.2
end LG
namespace K03
open PySem L2 LG LamX
def devB (K : PySem.W.Frag) (C : Addr) : Bool :=
  PySem.W.plainGet K C Str.empty && (PySem.W.hasDictIn K C && (PySem.W.plainOver K C && (decide (PySem.W.findIn K (.ref C) "__setattr__" = some (some (.builtin "object.__setattr__"))) &&
  (decide (PySem.W.findIn K (.ref C) "text" = some none) && (decide (PySem.W.findIn K (.ref C) "calls" = some none) && (decide (PySem.W.findIn K (.ref C) "answers" = some none) && (decide (PySem.W.findIn K (.ref C) "states" = some none) && (decide (PySem.W.findIn K (.ref C) "_goals" = some none) &&
  (decide (PySem.W.findIn K (.ref C) "__class__" = some (some (.builtin "object.__class__"))) && (decide (PySem.W.specialIn K (.builtin "object.__class__") "__get__" = some (some (.builtin "getset_descriptor.__get__"))) && (decide (PySem.W.takesIn K (.builtin "object.__class__") = some true) && (decide (PySem.W.mroIn K C (.type "object") = some true) &&
  (PySem.W.makesIn K C && (PySem.W.keepIn K (.ref C) && (decide (PySem.W.findIn K (.ref C) "__ne__" = some (some (.builtin "object.__ne__"))) && (tyNames.all fun T => decide (PySem.W.kitOne K (.type T) (.ref C) = some false) && PySem.W.notFirst K C (.type T)))))))))))))))))
theorem devB_ok {K : PySem.W.Frag} {C : Addr} (h : devB K C = true) : (∀ mg : Str → Option Value, mg "Device" = some (.ref C) → DevCl K mg C) ∧ DevIs K C ∧ PySem.W.makesIn K C = true ∧ PySem.W.keepIn K (.ref C) = true ∧ PySem.W.findIn K (.ref C) "__ne__" = some (some (.builtin "object.__ne__")) ∧
    ∀ T ∈ tyNames, PySem.W.kitOne K (.type T) (.ref C) = some false ∧ PySem.W.notFirst K C (.type T) = true := by
  unfold devB at h
  simp only [Bool.and_eq_true, decide_eq_true_eq] at h
  obtain ⟨h1, h2, h3, h4, t1, t2, t3, t4, t5, k1, k2, k3, k4, m1, m2, m3, m4⟩ := h
  refine ⟨fun mg hm => ⟨hm, ⟨h1, h2, h3, h4⟩, t1, t2, t3, t4, t5⟩, ⟨k1, k2, k3, k4⟩, m1, m2, m3, fun T hT => ?_⟩
  have := List.all_eq_true.mp m4 T hT
  simp only [Bool.and_eq_true, decide_eq_true_eq] at this
  exact this
section
variable {P : Program} {w : World} {K : PySem.W.Frag} {mg : Str → Option Value} {base : Heap}
theorem scInit : FnScope ["self", "value"] ["self", "value"] (defScope sInit) := ⟨rfl, rfl, rfl, by decide +kernel, rfl, by decide +kernel, by decide +kernel⟩
theorem ok_init {f : Addr} {fd : FuncData} (F : Fun K "__init__" "BoxError.__init__" sInit f fd) : FnOk P w K mg base CX0 1 f fd ["self", "value"] (spInit K) := by
  refine F.ok scInit (fun vs H Q E h => ?_) (fun cdv A outer s H vs Q E hr h => ?_)
  · obtain ⟨a, C, v, rfl, _⟩ := h
    rfl
  obtain ⟨a, C, v, rfl, T, no, ha, q⟩ := h
  refine ⟨_, pss_one (ps_ost (pv 0) (pv 1)), ?_⟩
  exact ⟨_, rfl, _, rfl, a, C, rfl, T, no, .inl ⟨ha, fun d nd ne => q d nd ne⟩⟩
end
def sixB (K : PySem.W.Frag) (CS CC CA : Addr) : Bool :=
  decide (PySem.W.kitOne K (.ref CS) (.ref CC) = some false) && (decide (PySem.W.kitOne K (.ref CS) (.ref CA) = some false) && (decide (PySem.W.kitOne K (.ref CC) (.ref CS) = some false) && (decide (PySem.W.kitOne K (.ref CC) (.ref CA) = some false) && (decide (PySem.W.kitOne K (.ref CA) (.ref CS) = some false) && decide (PySem.W.kitOne K (.ref CA) (.ref CC) = some false)))))
theorem sixB_ok {K : PySem.W.Frag} {CS CC CA : Addr} (h : sixB K CS CC CA = true) : PySem.W.kitOne K (.ref CS) (.ref CC) = some false ∧ PySem.W.kitOne K (.ref CS) (.ref CA) = some false ∧ PySem.W.kitOne K (.ref CC) (.ref CS) = some false ∧ PySem.W.kitOne K (.ref CC) (.ref CA) = some false ∧ PySem.W.kitOne K (.ref CA) (.ref CS) = some false ∧ PySem.W.kitOne K (.ref CA) (.ref CC) = some false := by
  unfold sixB at h
  simp only [Bool.and_eq_true, decide_eq_true_eq] at h
  exact h
end K03
set_option Elab.async false
set_option linter.all false
set_option maxRecDepth 100000
set_option maxHeartbeats 8000000
namespace K03
open PySem L2 LG LamX
theorem all_mk {l : PySem.W.OpenLaw} {w : World} {K : PySem.W.Frag} {h : Heap} {mg : Str → Option Value} {fa B C CB CS CC CA CW hA a0 a1 a2 cWk cTn cRg P1 P2 P3 fIsName fNamesIn fReadHeads fAmong fIsWalk fReadGoals fIsLine fPot fTake fOf fSome fCells fTold fOdd fAny fText fSizes fAWalk fRun fLines fWalks fTurnL fTurnQ fRight fLaw fInit fDInit fDHas fDAsk fDGone fDHeard fDBehind fDBegun fDTurned : Addr}
    {odIsName anIsName odNamesIn anNamesIn odReadHeads anReadHeads odAmong anAmong odIsWalk anIsWalk odReadGoals anReadGoals odIsLine anIsLine odPot anPot odTake anTake odOf anOf odSome anSome odCells anCells odTold anTold odOdd anOdd odAny anAny odText anText odSizes anSizes odAWalk anAWalk odRun anRun odLines anLines odWalks anWalks odTurnL anTurnL odTurnQ anTurnQ odRight anRight odLaw anLaw odInit anInit odDInit anDInit odDHas anDHas odDAsk anDAsk odDGone anDGone odDHeard anDHeard odDBehind anDBehind odDBegun anDBegun odDTurned anDTurned dH dH0 dH1 dH2 dKWalks dKTurnQ dKRight : Option Addr} {slIsName slNamesIn slReadHeads slAmong slIsWalk slReadGoals slIsLine slPot slTake slOf slSome slCells slTold slOdd slAny slText slSizes slAWalk slRun slLines slWalks slTurnL slTurnQ slRight slLaw slInit slDInit slDHas slDAsk slDGone slDHeard slDBehind slDBegun slDTurned slH slH0 slH1 slH2 slKWalks slKTurnQ slKRight : Array (Option Value)} {ocIsName kVIsName dcIsName pmIsName cdIsName ctIsName ocNamesIn kVNamesIn dcNamesIn pmNamesIn cdNamesIn ctNamesIn ocReadHeads kVReadHeads dcReadHeads pmReadHeads cdReadHeads ctReadHeads ocAmong kVAmong dcAmong pmAmong cdAmong ctAmong ocIsWalk kVIsWalk dcIsWalk pmIsWalk cdIsWalk ctIsWalk ocReadGoals kVReadGoals dcReadGoals pmReadGoals cdReadGoals ctReadGoals ocIsLine kVIsLine dcIsLine pmIsLine cdIsLine ctIsLine ocPot kVPot dcPot pmPot cdPot ctPot ocTake kVTake dcTake pmTake cdTake ctTake ocOf kVOf dcOf pmOf cdOf ctOf ocSome kVSome dcSome pmSome cdSome ctSome ocCells kVCells dcCells pmCells cdCells ctCells ocTold kVTold dcTold pmTold cdTold ctTold ocOdd kVOdd dcOdd pmOdd cdOdd ctOdd ocAny kVAny dcAny pmAny cdAny ctAny ocText kVText dcText pmText cdText ctText ocSizes kVSizes dcSizes pmSizes cdSizes ctSizes ocAWalk kVAWalk dcAWalk pmAWalk cdAWalk ctAWalk ocRun kVRun dcRun pmRun cdRun ctRun ocLines kVLines dcLines pmLines cdLines ctLines ocTurnL kVTurnL dcTurnL pmTurnL cdTurnL ctTurnL ocLaw kVLaw dcLaw pmLaw cdLaw ctLaw ocInit kVInit dcInit pmInit cdInit ctInit ocDInit kVDInit dcDInit pmDInit cdDInit ctDInit ocDHas kVDHas dcDHas pmDHas cdDHas ctDHas ocDAsk kVDAsk dcDAsk pmDAsk cdDAsk ctDAsk ocDGone kVDGone dcDGone pmDGone cdDGone ctDGone ocDHeard kVDHeard dcDHeard pmDHeard cdDHeard ctDHeard ocDBehind kVDBehind dcDBehind pmDBehind cdDBehind ctDBehind ocDBegun kVDBegun dcDBegun pmDBegun cdDBegun ctDBegun ocDTurned kVDTurned dcDTurned pmDTurned cdDTurned ctDTurned ocWalks kVWalks dcWalks pmWalks ctWalks ocTurnQ kVTurnQ dcTurnQ pmTurnQ ctTurnQ ocRight kVRight dcRight pmRight ctRight : Value} {vKWalks vKTurnQ vKRight : Array Value} {nH nH0 nH1 nH2 : Nat} {tL tF tM tw0 tw1 tw2 tx0 tx1 tx2 ty0 ty1 ty2 : Tok} (X : K.In h) (G : h.Ns mainGlobals mg) (hfa : mg "law" = some (.ref fa))
    (tab1 : PySem.W.tabIn K "_law_are_walks_right" = some (cWk, P1) → PySem.W.CodeHd h cWk P1 ∧ h.get? P1 = some (PySem.W.tabObj #[]))
    (tab2 : PySem.W.tabIn K "_law_is_turned_right" = some (cTn, P2) → PySem.W.CodeHd h cTn P2 ∧ h.get? P2 = some (PySem.W.tabObj #[]))
    (tab3 : PySem.W.tabIn K "_law_right" = some (cRg, P3) → PySem.W.CodeHd h cRg P3 ∧ h.get? P3 = some (PySem.W.tabObj #[]))
    (aB : PySem.W.nsIn K mainGlobals "BoxError" = some (some (.ref B)))
    (eCB : PySem.W.nsIn K mainGlobals "BadDevice" = some (some (.ref CB)))
    (eCS : PySem.W.nsIn K mainGlobals "NoState" = some (some (.ref CS)))
    (eCC : PySem.W.nsIn K mainGlobals "NoCall" = some (some (.ref CC)))
    (eCA : PySem.W.nsIn K mainGlobals "NoAnswer" = some (some (.ref CA)))
    (eCW : PySem.W.nsIn K mainGlobals "BadWalk" = some (some (.ref CW)))
    (aC : PySem.W.nsIn K mainGlobals "Device" = some (some (.ref C)))
    (aInit : PySem.W.findIn K (.ref B) "__init__" = some (some (.ref fInit)))
    (lInit : K.lookup fInit = some ⟨ocInit, odInit, .func (PySem.W.fnOf "__init__" "BoxError.__init__" (defArgs sInit) (defBody sInit) (defScope sInit) .none kVInit dcInit pmInit anInit cdInit ctInit), slInit⟩)
    (cInit : PySem.W.codeIn K cdInit "BoxError.__init__" = true)
    (kInit : PySem.W.keepIn K (.ref fInit) = true)
    (nInit : PySem.W.isFn K (.ref fInit) = true)
    (aDInit : PySem.W.findIn K (.ref C) "__init__" = some (some (.ref fDInit)))
    (lDInit : K.lookup fDInit = some ⟨ocDInit, odDInit, .func (PySem.W.fnOf "__init__" "Device.__init__" (defArgs sDInit) (defBody sDInit) (defScope sDInit) .none kVDInit dcDInit pmDInit anDInit cdDInit ctDInit), slDInit⟩)
    (cDInit : PySem.W.codeIn K cdDInit "Device.__init__" = true)
    (kDInit : PySem.W.keepIn K (.ref fDInit) = true)
    (nDInit : PySem.W.isFn K (.ref fDInit) = true)
    (aDHas : PySem.W.findIn K (.ref C) "__contains__" = some (some (.ref fDHas)))
    (lDHas : K.lookup fDHas = some ⟨ocDHas, odDHas, .func (PySem.W.fnOf "__contains__" "Device.__contains__" (defArgs sDContains) (defBody sDContains) (defScope sDContains) .none kVDHas dcDHas pmDHas anDHas cdDHas ctDHas), slDHas⟩)
    (cDHas : PySem.W.codeIn K cdDHas "Device.__contains__" = true)
    (kDHas : PySem.W.keepIn K (.ref fDHas) = true)
    (nDHas : PySem.W.isFn K (.ref fDHas) = true)
    (aDAsk : PySem.W.findIn K (.ref C) "_ask_for_row" = some (some (.ref fDAsk)))
    (lDAsk : K.lookup fDAsk = some ⟨ocDAsk, odDAsk, .func (PySem.W.fnOf "_ask_for_row" "Device._ask_for_row" (defArgs sDAsk) (defBody sDAsk) (defScope sDAsk) .none kVDAsk dcDAsk pmDAsk anDAsk cdDAsk ctDAsk), slDAsk⟩)
    (cDAsk : PySem.W.codeIn K cdDAsk "Device._ask_for_row" = true)
    (kDAsk : PySem.W.keepIn K (.ref fDAsk) = true)
    (nDAsk : PySem.W.isFn K (.ref fDAsk) = true)
    (aDGone : PySem.W.findIn K (.ref C) "_gone" = some (some (.ref fDGone)))
    (lDGone : K.lookup fDGone = some ⟨ocDGone, odDGone, .func (PySem.W.fnOf "_gone" "Device._gone" (defArgs sDGone) (defBody sDGone) (defScope sDGone) .none kVDGone dcDGone pmDGone anDGone cdDGone ctDGone), slDGone⟩)
    (cDGone : PySem.W.codeIn K cdDGone "Device._gone" = true)
    (kDGone : PySem.W.keepIn K (.ref fDGone) = true)
    (nDGone : PySem.W.isFn K (.ref fDGone) = true)
    (aDHeard : PySem.W.findIn K (.ref C) "heard" = some (some (.ref fDHeard)))
    (lDHeard : K.lookup fDHeard = some ⟨ocDHeard, odDHeard, .func (PySem.W.fnOf "heard" "Device.heard" (defArgs sDHeard) (defBody sDHeard) (defScope sDHeard) .none kVDHeard dcDHeard pmDHeard anDHeard cdDHeard ctDHeard), slDHeard⟩)
    (cDHeard : PySem.W.codeIn K cdDHeard "Device.heard" = true)
    (kDHeard : PySem.W.keepIn K (.ref fDHeard) = true)
    (nDHeard : PySem.W.isFn K (.ref fDHeard) = true)
    (aDBehind : PySem.W.findIn K (.ref C) "behind" = some (some (.ref fDBehind)))
    (lDBehind : K.lookup fDBehind = some ⟨ocDBehind, odDBehind, .func (PySem.W.fnOf "behind" "Device.behind" (defArgs sDBehind) (defBody sDBehind) (defScope sDBehind) .none kVDBehind dcDBehind pmDBehind anDBehind cdDBehind ctDBehind), slDBehind⟩)
    (cDBehind : PySem.W.codeIn K cdDBehind "Device.behind" = true)
    (kDBehind : PySem.W.keepIn K (.ref fDBehind) = true)
    (nDBehind : PySem.W.isFn K (.ref fDBehind) = true)
    (aDBegun : PySem.W.findIn K (.ref C) "begun" = some (some (.ref fDBegun)))
    (lDBegun : K.lookup fDBegun = some ⟨ocDBegun, odDBegun, .func (PySem.W.fnOf "begun" "Device.begun" (defArgs sDBegun) (defBody sDBegun) (defScope sDBegun) .none kVDBegun dcDBegun pmDBegun anDBegun cdDBegun ctDBegun), slDBegun⟩)
    (cDBegun : PySem.W.codeIn K cdDBegun "Device.begun" = true)
    (kDBegun : PySem.W.keepIn K (.ref fDBegun) = true)
    (nDBegun : PySem.W.isFn K (.ref fDBegun) = true)
    (aDTurned : PySem.W.findIn K (.ref C) "turned" = some (some (.ref fDTurned)))
    (lDTurned : K.lookup fDTurned = some ⟨ocDTurned, odDTurned, .func (PySem.W.fnOf "turned" "Device.turned" (defArgs sDTurned) (defBody sDTurned) (defScope sDTurned) .none kVDTurned dcDTurned pmDTurned anDTurned cdDTurned ctDTurned), slDTurned⟩)
    (cDTurned : PySem.W.codeIn K cdDTurned "Device.turned" = true)
    (kDTurned : PySem.W.keepIn K (.ref fDTurned) = true)
    (nDTurned : PySem.W.isFn K (.ref fDTurned) = true)
    (aIsName : PySem.W.nsIn K mainGlobals "is_name" = some (some (.ref fIsName)))
    (lIsName : K.lookup fIsName = some ⟨ocIsName, odIsName, .func (PySem.W.fnOf "is_name" "is_name" (defArgs sIsName) (defBody sIsName) (defScope sIsName) .none kVIsName dcIsName pmIsName anIsName cdIsName ctIsName), slIsName⟩)
    (cIsName : PySem.W.codeIn K cdIsName "is_name" = true)
    (kIsName : PySem.W.keepIn K (.ref fIsName) = true)
    (aNamesIn : PySem.W.nsIn K mainGlobals "names_in" = some (some (.ref fNamesIn)))
    (lNamesIn : K.lookup fNamesIn = some ⟨ocNamesIn, odNamesIn, .func (PySem.W.fnOf "names_in" "names_in" (defArgs sNamesIn) (defBody sNamesIn) (defScope sNamesIn) .none kVNamesIn dcNamesIn pmNamesIn anNamesIn cdNamesIn ctNamesIn), slNamesIn⟩)
    (cNamesIn : PySem.W.codeIn K cdNamesIn "names_in" = true)
    (kNamesIn : PySem.W.keepIn K (.ref fNamesIn) = true)
    (aReadHeads : PySem.W.nsIn K mainGlobals "read_heads" = some (some (.ref fReadHeads)))
    (lReadHeads : K.lookup fReadHeads = some ⟨ocReadHeads, odReadHeads, .func (PySem.W.fnOf "read_heads" "read_heads" (defArgs sReadHeads) (defBody sReadHeads) (defScope sReadHeads) .none kVReadHeads dcReadHeads pmReadHeads anReadHeads cdReadHeads ctReadHeads), slReadHeads⟩)
    (cReadHeads : PySem.W.codeIn K cdReadHeads "read_heads" = true)
    (kReadHeads : PySem.W.keepIn K (.ref fReadHeads) = true)
    (aAmong : PySem.W.nsIn K mainGlobals "is_among" = some (some (.ref fAmong)))
    (lAmong : K.lookup fAmong = some ⟨ocAmong, odAmong, .func (PySem.W.fnOf "is_among" "is_among" (defArgs sIsAmong) (defBody sIsAmong) (defScope sIsAmong) .none kVAmong dcAmong pmAmong anAmong cdAmong ctAmong), slAmong⟩)
    (cAmong : PySem.W.codeIn K cdAmong "is_among" = true)
    (kAmong : PySem.W.keepIn K (.ref fAmong) = true)
    (aIsWalk : PySem.W.nsIn K mainGlobals "is_walk" = some (some (.ref fIsWalk)))
    (lIsWalk : K.lookup fIsWalk = some ⟨ocIsWalk, odIsWalk, .func (PySem.W.fnOf "is_walk" "is_walk" (defArgs sIsWalk) (defBody sIsWalk) (defScope sIsWalk) .none kVIsWalk dcIsWalk pmIsWalk anIsWalk cdIsWalk ctIsWalk), slIsWalk⟩)
    (cIsWalk : PySem.W.codeIn K cdIsWalk "is_walk" = true)
    (kIsWalk : PySem.W.keepIn K (.ref fIsWalk) = true)
    (aReadGoals : PySem.W.nsIn K mainGlobals "read_goals" = some (some (.ref fReadGoals)))
    (lReadGoals : K.lookup fReadGoals = some ⟨ocReadGoals, odReadGoals, .func (PySem.W.fnOf "read_goals" "read_goals" (defArgs sReadGoals) (defBody sReadGoals) (defScope sReadGoals) .none kVReadGoals dcReadGoals pmReadGoals anReadGoals cdReadGoals ctReadGoals), slReadGoals⟩)
    (cReadGoals : PySem.W.codeIn K cdReadGoals "read_goals" = true)
    (kReadGoals : PySem.W.keepIn K (.ref fReadGoals) = true)
    (aIsLine : PySem.W.nsIn K mainGlobals "is_line_of_row" = some (some (.ref fIsLine)))
    (lIsLine : K.lookup fIsLine = some ⟨ocIsLine, odIsLine, .func (PySem.W.fnOf "is_line_of_row" "is_line_of_row" (defArgs sIsLine) (defBody sIsLine) (defScope sIsLine) .none kVIsLine dcIsLine pmIsLine anIsLine cdIsLine ctIsLine), slIsLine⟩)
    (cIsLine : PySem.W.codeIn K cdIsLine "is_line_of_row" = true)
    (kIsLine : PySem.W.keepIn K (.ref fIsLine) = true)
    (aPot : PySem.W.nsIn K mainGlobals "_law_pot" = some (some (.ref fPot)))
    (lPot : K.lookup fPot = some ⟨ocPot, odPot, .func (PySem.W.fnOf "_law_pot" "_law_pot" (defArgs sPot) (defBody sPot) (defScope sPot) .none kVPot dcPot pmPot anPot cdPot ctPot), slPot⟩)
    (cPot : PySem.W.codeIn K cdPot "_law_pot" = true)
    (kPot : PySem.W.keepIn K (.ref fPot) = true)
    (aTake : PySem.W.nsIn K mainGlobals "_law_take" = some (some (.ref fTake)))
    (lTake : K.lookup fTake = some ⟨ocTake, odTake, .func (PySem.W.fnOf "_law_take" "_law_take" (defArgs sTake) (defBody sTake) (defScope sTake) .none kVTake dcTake pmTake anTake cdTake ctTake), slTake⟩)
    (cTake : PySem.W.codeIn K cdTake "_law_take" = true)
    (kTake : PySem.W.keepIn K (.ref fTake) = true)
    (aOf : PySem.W.nsIn K mainGlobals "_law_of" = some (some (.ref fOf)))
    (lOf : K.lookup fOf = some ⟨ocOf, odOf, .func (PySem.W.fnOf "_law_of" "_law_of" (defArgs sOf) (defBody sOf) (defScope sOf) .none kVOf dcOf pmOf anOf cdOf ctOf), slOf⟩)
    (cOf : PySem.W.codeIn K cdOf "_law_of" = true)
    (kOf : PySem.W.keepIn K (.ref fOf) = true)
    (aSome : PySem.W.nsIn K mainGlobals "_law_some" = some (some (.ref fSome)))
    (lSome : K.lookup fSome = some ⟨ocSome, odSome, .func (PySem.W.fnOf "_law_some" "_law_some" (defArgs sSome) (defBody sSome) (defScope sSome) .none kVSome dcSome pmSome anSome cdSome ctSome), slSome⟩)
    (cSome : PySem.W.codeIn K cdSome "_law_some" = true)
    (kSome : PySem.W.keepIn K (.ref fSome) = true)
    (aCells : PySem.W.nsIn K mainGlobals "_law_cells" = some (some (.ref fCells)))
    (lCells : K.lookup fCells = some ⟨ocCells, odCells, .func (PySem.W.fnOf "_law_cells" "_law_cells" (defArgs sCells) (defBody sCells) (defScope sCells) .none kVCells dcCells pmCells anCells cdCells ctCells), slCells⟩)
    (cCells : PySem.W.codeIn K cdCells "_law_cells" = true)
    (kCells : PySem.W.keepIn K (.ref fCells) = true)
    (aTold : PySem.W.nsIn K mainGlobals "_law_told" = some (some (.ref fTold)))
    (lTold : K.lookup fTold = some ⟨ocTold, odTold, .func (PySem.W.fnOf "_law_told" "_law_told" (defArgs sTold) (defBody sTold) (defScope sTold) .none kVTold dcTold pmTold anTold cdTold ctTold), slTold⟩)
    (cTold : PySem.W.codeIn K cdTold "_law_told" = true)
    (kTold : PySem.W.keepIn K (.ref fTold) = true)
    (aOdd : PySem.W.nsIn K mainGlobals "_law_odd" = some (some (.ref fOdd)))
    (lOdd : K.lookup fOdd = some ⟨ocOdd, odOdd, .func (PySem.W.fnOf "_law_odd" "_law_odd" (defArgs sOdd) (defBody sOdd) (defScope sOdd) .none kVOdd dcOdd pmOdd anOdd cdOdd ctOdd), slOdd⟩)
    (cOdd : PySem.W.codeIn K cdOdd "_law_odd" = true)
    (kOdd : PySem.W.keepIn K (.ref fOdd) = true)
    (aAny : PySem.W.nsIn K mainGlobals "_law_any_device" = some (some (.ref fAny)))
    (lAny : K.lookup fAny = some ⟨ocAny, odAny, .func (PySem.W.fnOf "_law_any_device" "_law_any_device" (defArgs sAny) (defBody sAny) (defScope sAny) .none kVAny dcAny pmAny anAny cdAny ctAny), slAny⟩)
    (cAny : PySem.W.codeIn K cdAny "_law_any_device" = true)
    (kAny : PySem.W.keepIn K (.ref fAny) = true)
    (aText : PySem.W.nsIn K mainGlobals "_law_text_by" = some (some (.ref fText)))
    (lText : K.lookup fText = some ⟨ocText, odText, .func (PySem.W.fnOf "_law_text_by" "_law_text_by" (defArgs sTextBy) (defBody sTextBy) (defScope sTextBy) .none kVText dcText pmText anText cdText ctText), slText⟩)
    (cText : PySem.W.codeIn K cdText "_law_text_by" = true)
    (kText : PySem.W.keepIn K (.ref fText) = true)
    (aSizes : PySem.W.nsIn K mainGlobals "_law_sizes" = some (some (.ref fSizes)))
    (lSizes : K.lookup fSizes = some ⟨ocSizes, odSizes, .func (PySem.W.fnOf "_law_sizes" "_law_sizes" (defArgs sSizes) (defBody sSizes) (defScope sSizes) .none kVSizes dcSizes pmSizes anSizes cdSizes ctSizes), slSizes⟩)
    (cSizes : PySem.W.codeIn K cdSizes "_law_sizes" = true)
    (kSizes : PySem.W.keepIn K (.ref fSizes) = true)
    (aAWalk : PySem.W.nsIn K mainGlobals "_law_a_walk" = some (some (.ref fAWalk)))
    (lAWalk : K.lookup fAWalk = some ⟨ocAWalk, odAWalk, .func (PySem.W.fnOf "_law_a_walk" "_law_a_walk" (defArgs sAWalk) (defBody sAWalk) (defScope sAWalk) .none kVAWalk dcAWalk pmAWalk anAWalk cdAWalk ctAWalk), slAWalk⟩)
    (cAWalk : PySem.W.codeIn K cdAWalk "_law_a_walk" = true)
    (kAWalk : PySem.W.keepIn K (.ref fAWalk) = true)
    (aRun : PySem.W.nsIn K mainGlobals "_law_run" = some (some (.ref fRun)))
    (lRun : K.lookup fRun = some ⟨ocRun, odRun, .func (PySem.W.fnOf "_law_run" "_law_run" (defArgs sRun) (defBody sRun) (defScope sRun) .none kVRun dcRun pmRun anRun cdRun ctRun), slRun⟩)
    (cRun : PySem.W.codeIn K cdRun "_law_run" = true)
    (kRun : PySem.W.keepIn K (.ref fRun) = true)
    (aLines : PySem.W.nsIn K mainGlobals "_law_lines" = some (some (.ref fLines)))
    (lLines : K.lookup fLines = some ⟨ocLines, odLines, .func (PySem.W.fnOf "_law_lines" "_law_lines" (defArgs sLines) (defBody sLines) (defScope sLines) .none kVLines dcLines pmLines anLines cdLines ctLines), slLines⟩)
    (cLines : PySem.W.codeIn K cdLines "_law_lines" = true)
    (kLines : PySem.W.keepIn K (.ref fLines) = true)
    (aWalks : PySem.W.nsIn K mainGlobals "_law_are_walks_right" = some (some (.ref fWalks)))
    (lWalks : K.lookup fWalks = some ⟨ocWalks, odWalks, .func (PySem.W.fnOf "_law_are_walks_right" "_law_are_walks_right" (defArgs sWalks) (defBody sWalks) (defScope sWalks) .none kVWalks dcWalks pmWalks anWalks (.ref cWk) ctWalks), slWalks⟩)
    (cWalks : PySem.W.codeIn K (.ref cWk) "_law_are_walks_right" = true)
    (kWalks : PySem.W.keepIn K (.ref fWalks) = true)
    (aTurnL : PySem.W.nsIn K mainGlobals "_law_turned_lines" = some (some (.ref fTurnL)))
    (lTurnL : K.lookup fTurnL = some ⟨ocTurnL, odTurnL, .func (PySem.W.fnOf "_law_turned_lines" "_law_turned_lines" (defArgs sTurnedL) (defBody sTurnedL) (defScope sTurnedL) .none kVTurnL dcTurnL pmTurnL anTurnL cdTurnL ctTurnL), slTurnL⟩)
    (cTurnL : PySem.W.codeIn K cdTurnL "_law_turned_lines" = true)
    (kTurnL : PySem.W.keepIn K (.ref fTurnL) = true)
    (aTurnQ : PySem.W.nsIn K mainGlobals "_law_is_turned_right" = some (some (.ref fTurnQ)))
    (lTurnQ : K.lookup fTurnQ = some ⟨ocTurnQ, odTurnQ, .func (PySem.W.fnOf "_law_is_turned_right" "_law_is_turned_right" (defArgs sTurned) (defBody sTurned) (defScope sTurned) .none kVTurnQ dcTurnQ pmTurnQ anTurnQ (.ref cTn) ctTurnQ), slTurnQ⟩)
    (cTurnQ : PySem.W.codeIn K (.ref cTn) "_law_is_turned_right" = true)
    (kTurnQ : PySem.W.keepIn K (.ref fTurnQ) = true)
    (aRight : PySem.W.nsIn K mainGlobals "_law_right" = some (some (.ref fRight)))
    (lRight : K.lookup fRight = some ⟨ocRight, odRight, .func (PySem.W.fnOf "_law_right" "_law_right" (defArgs sRight) (defBody sRight) (defScope sRight) .none kVRight dcRight pmRight anRight (.ref cRg) ctRight), slRight⟩)
    (cRight : PySem.W.codeIn K (.ref cRg) "_law_right" = true)
    (kRight : PySem.W.keepIn K (.ref fRight) = true)
    (aLaw : PySem.W.nsIn K mainGlobals "law" = some (some (.ref fLaw)))
    (lLaw : K.lookup fLaw = some ⟨ocLaw, odLaw, .func (PySem.W.fnOf "law" "law" (defArgs sLaw) (defBody sLaw) (defScope sLaw) .none kVLaw dcLaw pmLaw anLaw cdLaw ctLaw), slLaw⟩)
    (cLaw : PySem.W.codeIn K cdLaw "law" = true)
    (kLaw : PySem.W.keepIn K (.ref fLaw) = true)
    (z0 : PySem.W.nsIn K mainGlobals "len" = some none)
    (z1 : PySem.W.nsIn K mainGlobals "sum" = some none)
    (z2 : PySem.W.nsIn K mainGlobals "int" = some none)
    (z3 : PySem.W.nsIn K mainGlobals "abs" = some none)
    (z4 : PySem.W.nsIn K mainGlobals "list" = some none)
    (z5 : PySem.W.nsIn K mainGlobals "range" = some none)
    (z6 : PySem.W.nsIn K mainGlobals "max" = some none)
    (z7 : PySem.W.nsIn K mainGlobals "min" = some none)
    (z8 : PySem.W.nsIn K mainGlobals "isinstance" = some none)
    (z9 : PySem.W.nsIn K mainGlobals "tuple" = some none)
    (z10 : PySem.W.nsIn K mainGlobals "bool" = some none)
    (z11 : PySem.W.nsIn K mainGlobals "str" = some none)
    (z12 : PySem.W.nsIn K mainGlobals "enumerate" = some none)
    (z13 : PySem.W.nsIn K mainGlobals "repr" = some none)
    (z14 : PySem.W.nsIn K mainGlobals "all" = some none)
    (z15 : PySem.W.nsIn K mainGlobals "ValueError" = some none)
    (z16 : PySem.W.nsIn K mainGlobals "set" = some none)
    (z17 : PySem.W.nsIn K mainGlobals "dict" = some none)
    (aL : PySem.W.nsIn K mainGlobals "LETTERS" = some (some (.str LET tL)))
    (aF : PySem.W.nsIn K mainGlobals "FIGURES" = some (some (.str FIG tF)))
    (aM : PySem.W.nsIn K mainGlobals "MOST_STEPS" = some (some (.int 24 tM)))
    (aH : PySem.W.nsIn K mainGlobals "HEADS" = some (some (.ref hA)))
    (h0 : K.lookup hA = some ⟨.type "tuple", dH, .seq #[.ref a0, .ref a1, .ref a2] nH, slH⟩)
    (h1 : K.lookup a0 = some ⟨.type "tuple", dH0, .seq #[.str "calls" tw0, .int 1 tx0, .int 3 ty0] nH0, slH0⟩)
    (h2 : K.lookup a1 = some ⟨.type "tuple", dH1, .seq #[.str "answers" tw1, .int 2 tx1, .int 3 ty1] nH1, slH1⟩)
    (h3 : K.lookup a2 = some ⟨.type "tuple", dH2, .seq #[.str "states" tw2, .int 1 tx2, .int 4 ty2] nH2, slH2⟩)
    (KcWk : K.lookup cWk = some ⟨.type "code", dKWalks, .fields vKWalks, slKWalks⟩)
    (hP1 : vKWalks[11]? = some (Value.ref P1))
    (nP1 : K.lookup P1 = none)
    (KcTn : K.lookup cTn = some ⟨.type "code", dKTurnQ, .fields vKTurnQ, slKTurnQ⟩)
    (hP2 : vKTurnQ[11]? = some (Value.ref P2))
    (nP2 : K.lookup P2 = none)
    (KcRg : K.lookup cRg = some ⟨.type "code", dKRight, .fields vKRight, slKRight⟩)
    (hP3 : vKRight[11]? = some (Value.ref P3))
    (nP3 : K.lookup P3 = none)
    (tb1 : PySem.W.tabIn K "_law_are_walks_right" = some (cWk, P1))
    (tb2 : PySem.W.tabIn K "_law_is_turned_right" = some (cTn, P2))
    (tb3 : PySem.W.tabIn K "_law_right" = some (cRg, P3))
    (two12 : decide (P1 = P2) = false)
    (two13 : decide (P1 = P3) = false)
    (two23 : decide (P2 = P3) = false)
    (eb : errsB K fInit B [CB, CS, CC, CA, CW] = true)
    (db : devB K C = true)
    (sb : sixB K CS CC CA = true) :
    GLawAt l w K 11 "_law_script" mg fa h := by
  have e := hfa.symm.trans (PySem.W.mg_of X G aLaw)
  cases e
  have T : Bltn mg := ⟨PySem.W.mg_none_of X G z0, PySem.W.mg_none_of X G z1, PySem.W.mg_none_of X G z2, PySem.W.mg_none_of X G z3, PySem.W.mg_none_of X G z4, PySem.W.mg_none_of X G z5, PySem.W.mg_none_of X G z6, PySem.W.mg_none_of X G z7, PySem.W.mg_none_of X G z8, PySem.W.mg_none_of X G z9, PySem.W.mg_none_of X G z10, PySem.W.mg_none_of X G z11, PySem.W.mg_none_of X G z12, PySem.W.mg_none_of X G z13, PySem.W.mg_none_of X G z14, PySem.W.mg_none_of X G z15, PySem.W.mg_none_of X G z16⟩
  have mDict := PySem.W.mg_none_of X G z17
  have FInit := fun_mk (st := sInit) lInit cInit kInit
  have FDInit := fun_mk (st := sDInit) lDInit cDInit kDInit
  have FDHas := fun_mk (st := sDContains) lDHas cDHas kDHas
  have FDAsk := fun_mk (st := sDAsk) lDAsk cDAsk kDAsk
  have FDGone := fun_mk (st := sDGone) lDGone cDGone kDGone
  have FDHeard := fun_mk (st := sDHeard) lDHeard cDHeard kDHeard
  have FDBehind := fun_mk (st := sDBehind) lDBehind cDBehind kDBehind
  have FDBegun := fun_mk (st := sDBegun) lDBegun cDBegun kDBegun
  have FDTurned := fun_mk (st := sDTurned) lDTurned cDTurned kDTurned
  have FIsName := fun_mk (st := sIsName) lIsName cIsName kIsName
  have FNamesIn := fun_mk (st := sNamesIn) lNamesIn cNamesIn kNamesIn
  have FReadHeads := fun_mk (st := sReadHeads) lReadHeads cReadHeads kReadHeads
  have FAmong := fun_mk (st := sIsAmong) lAmong cAmong kAmong
  have FIsWalk := fun_mk (st := sIsWalk) lIsWalk cIsWalk kIsWalk
  have FReadGoals := fun_mk (st := sReadGoals) lReadGoals cReadGoals kReadGoals
  have FIsLine := fun_mk (st := sIsLine) lIsLine cIsLine kIsLine
  have FPot := fun_mk (st := sPot) lPot cPot kPot
  have FTake := fun_mk (st := sTake) lTake cTake kTake
  have FOf := fun_mk (st := sOf) lOf cOf kOf
  have FSome := fun_mk (st := sSome) lSome cSome kSome
  have FCells := fun_mk (st := sCells) lCells cCells kCells
  have FTold := fun_mk (st := sTold) lTold cTold kTold
  have FOdd := fun_mk (st := sOdd) lOdd cOdd kOdd
  have FAny := fun_mk (st := sAny) lAny cAny kAny
  have FText := fun_mk (st := sTextBy) lText cText kText
  have FSizes := fun_mk (st := sSizes) lSizes cSizes kSizes
  have FAWalk := fun_mk (st := sAWalk) lAWalk cAWalk kAWalk
  have FRun := fun_mk (st := sRun) lRun cRun kRun
  have FLines := fun_mk (st := sLines) lLines cLines kLines
  have FTurnL := fun_mk (st := sTurnedL) lTurnL cTurnL kTurnL
  have FLaw := fun_mk (st := sLaw) lLaw cLaw kLaw
  have bInit := FInit.binds (ps := ["self", "value"]) fun _ _ _ _ _ _ us hl => match us, hl with | [_, _], _ => rfl
  have bDInit := FDInit.binds (ps := ["self", "text"]) fun _ _ _ _ _ _ us hl => match us, hl with | [_, _], _ => rfl
  have bDHas := FDHas.binds (ps := ["self", "value"]) fun _ _ _ _ _ _ us hl => match us, hl with | [_, _], _ => rfl
  have bDAsk := FDAsk.binds (ps := ["self", "state", "call"]) fun _ _ _ _ _ _ us hl => match us, hl with | [_, _, _], _ => rfl
  have bDGone := FDGone.binds (ps := ["self", "walk"]) fun _ _ _ _ _ _ us hl => match us, hl with | [_, _], _ => rfl
  have bDHeard := FDHeard.binds (ps := ["self", "walk"]) fun _ _ _ _ _ _ us hl => match us, hl with | [_, _], _ => rfl
  have bDBehind := FDBehind.binds (ps := ["self", "walk"]) fun _ _ _ _ _ _ us hl => match us, hl with | [_, _], _ => rfl
  have bDBegun := FDBegun.binds (ps := ["self", "state"]) fun _ _ _ _ _ _ us hl => match us, hl with | [_, _], _ => rfl
  have bDTurned := FDTurned.binds (ps := ["self", "state", "call", "answer", "goal"]) fun _ _ _ _ _ _ us hl => match us, hl with | [_, _, _, _, _], _ => rfl
  have bIsName := FIsName.binds (ps := ["word"]) fun _ _ _ _ _ _ us hl => match us, hl with | [_], _ => rfl
  have bNamesIn := FNamesIn.binds (ps := ["line", "head", "fewest", "most"]) fun _ _ _ _ _ _ us hl => match us, hl with | [_, _, _, _], _ => rfl
  have bReadHeads := FReadHeads.binds (ps := ["lines", "heads"]) fun _ _ _ _ _ _ us hl => match us, hl with | [_, _], _ => rfl
  have bAmong := FAmong.binds (ps := ["value", "names"]) fun _ _ _ _ _ _ us hl => match us, hl with | [_, _], _ => rfl
  have bIsWalk := FIsWalk.binds (ps := ["value", "calls", "fewest", "most"]) fun _ _ _ _ _ _ us hl => match us, hl with | [_, _, _, _], _ => rfl
  have bReadGoals := FReadGoals.binds (ps := ["lines", "calls", "answers", "states"]) fun _ _ _ _ _ _ us hl => match us, hl with | [_, _, _, _], _ => rfl
  have bIsLine := FIsLine.binds (ps := ["words", "calls", "answers", "states"]) fun _ _ _ _ _ _ us hl => match us, hl with | [_, _, _, _], _ => rfl
  have bPot := FPot.binds (ps := ["_law_script", "_law_place"]) fun _ _ _ _ _ _ us hl => match us, hl with | [_, _], _ => rfl
  have bTake := FTake.binds (ps := ["_law_pot_here", "_law_upto"]) fun _ _ _ _ _ _ us hl => match us, hl with | [_, _], _ => rfl
  have bOf := FOf.binds (ps := ["_law_pot_here", "_law_some_here"]) fun _ _ _ _ _ _ us hl => match us, hl with | [_, _], _ => rfl
  have bSome := FSome.binds (ps := ["_law_pot_here", "_law_pool", "_law_many"]) fun _ _ _ _ _ _ us hl => match us, hl with | [_, _, _], _ => rfl
  have bCells := FCells.binds (ps := ["_law_script", "_law_most"]) fun _ _ _ _ _ _ us hl => match us, hl with | [_, _], _ => rfl
  have bTold := FTold.binds (ps := ["_law_look"]) fun _ _ _ _ _ _ us hl => match us, hl with | [_], _ => rfl
  have bOdd := FOdd.binds (ps := ["_law_pot_here"]) fun _ _ _ _ _ _ us hl => match us, hl with | [_], _ => rfl
  have bAny := FAny.binds (ps := ["_law_pot_here", "_law_many", "_law_sizes_here"]) fun _ _ _ _ _ _ us hl => match us, hl with | [_, _, _], _ => rfl
  have bText := FText.binds (ps := ["_law_device", "_law_lines_here"]) fun _ _ _ _ _ _ us hl => match us, hl with | [_, _], _ => rfl
  have bSizes := FSizes.binds (ps := ["_law_pot_here"]) fun _ _ _ _ _ _ us hl => match us, hl with | [_], _ => rfl
  have bAWalk := FAWalk.binds (ps := ["_law_pot_here", "_law_calls", "_law_most"]) fun _ _ _ _ _ _ us hl => match us, hl with | [_, _, _], _ => rfl
  have bRun := FRun.binds (ps := ["_law_device", "_law_state", "_law_walk"]) fun _ _ _ _ _ _ us hl => match us, hl with | [_, _, _], _ => rfl
  have bLines := FLines.binds (ps := ["_law_pot_here", "_law_device"]) fun _ _ _ _ _ _ us hl => match us, hl with | [_, _], _ => rfl
  have bWalks := (fun_mk (st := sWalks) lWalks cWalks kWalks).binds (ps := ["_law_pot_here", "_law_own", "_law_here", "_law_first"]) fun _ _ _ _ _ _ us hl => match us, hl with | [_, _, _, _], _ => rfl
  have bTurnL := FTurnL.binds (ps := ["_law_lines_here", "_law_key", "_law_fresh"]) fun _ _ _ _ _ _ us hl => match us, hl with | [_, _, _], _ => rfl
  have bTurnQ := (fun_mk (st := sTurned) lTurnQ cTurnQ kTurnQ).binds (ps := ["_law_pot_here", "_law_own", "_law_here", "_law_lines_here"]) fun _ _ _ _ _ _ us hl => match us, hl with | [_, _, _, _], _ => rfl
  have bRight := (fun_mk (st := sRight) lRight cRight kRight).binds (ps := ["_law_pot_here"]) fun _ _ _ _ _ _ us hl => match us, hl with | [_], _ => rfl
  have bLaw := FLaw.binds (ps := ["_law_script"]) fun _ _ _ _ _ _ us hl => match us, hl with | [_], _ => rfl
  obtain ⟨t11, t12⟩ := tab1 tb1
  obtain ⟨t21, t22⟩ := tab2 tb2
  obtain ⟨t31, t32⟩ := tab3 tb3
  have A := errsB_ok eb
  have DD := devB_ok db
  have S6 := sixB_ok sb
  have cl : ∀ {Ce : Addr} {x : Str}, Ce ∈ [CB, CS, CC, CA, CW] → mg x = some (.ref Ce) → EQl K mg fInit B x Ce := fun hC hx => ⟨⟨hx, errB_ok (A.each _ hC), A.ini _ hC, A.val _ hC⟩, A.box _ hC⟩
  have qB := cl (x := "BadDevice") (by simp) (PySem.W.mg_of X G eCB)
  have qS := cl (x := "NoState") (by simp) (PySem.W.mg_of X G eCS)
  have qC := cl (x := "NoCall") (by simp) (PySem.W.mg_of X G eCC)
  have qA := cl (x := "NoAnswer") (by simp) (PySem.W.mg_of X G eCA)
  have qW := cl (x := "BadWalk") (by simp) (PySem.W.mg_of X G eCW)
  have DC : DevCl K mg C := DD.1 mg (PySem.W.mg_of X G aC)
  have HA : HeadsAt K hA := ⟨a0, a1, a2, fun H => .inr ⟨_, _, _, h0, rfl, rfl, (by show 3 ≤ sizeLine; decide), .cons rfl (.cons rfl (.cons rfl .nil))⟩, fun H => .inr ⟨_, _, _, h1, rfl, rfl, (by show 3 ≤ sizeLine; decide), .cons ⟨_, rfl⟩ (.cons ⟨_, rfl⟩ (.cons ⟨_, rfl⟩ .nil))⟩,
    fun H => .inr ⟨_, _, _, h2, rfl, rfl, (by show 3 ≤ sizeLine; decide), .cons ⟨_, rfl⟩ (.cons ⟨_, rfl⟩ (.cons ⟨_, rfl⟩ .nil))⟩, fun H => .inr ⟨_, _, _, h3, rfl, rfl, (by show 3 ≤ sizeLine; decide), .cons ⟨_, rfl⟩ (.cons ⟨_, rfl⟩ (.cons ⟨_, rfl⟩ .nil))⟩⟩
  have n12 : P1 ≠ P2 := fun z => by rw [decide_eq_true z] at two12; cases two12
  have n13 : P1 ≠ P3 := fun z => by rw [decide_eq_true z] at two13; cases two13
  have n23 : P2 ≠ P3 := fun z => by rw [decide_eq_true z] at two23; cases two23
  have all3 : ∀ {R : Addr × Addr → Prop}, R (cWk, P1) → R (cTn, P2) → R (cRg, P3) → ∀ p ∈ [(cWk, P1), (cTn, P2), (cRg, P3)], R p := fun r1 r2 r3 p hp => by
    rcases List.mem_cons.mp hp with rfl | hp
    · exact r1
    rcases List.mem_cons.mp hp with rfl | hp
    · exact r2
    · rw [List.mem_singleton.mp hp]
      exact r3
  have i1 : (cWk, P1) ∈ [(cWk, P1), (cTn, P2), (cRg, P3)] := List.mem_cons_self
  have i2 : (cTn, P2) ∈ [(cWk, P1), (cTn, P2), (cRg, P3)] := List.mem_cons_of_mem _ List.mem_cons_self
  have i3 : (cRg, P3) ∈ [(cWk, P1), (cTn, P2), (cRg, P3)] := List.mem_cons_of_mem _ (List.mem_cons_of_mem _ List.mem_cons_self)
  refine ⟨PySem.W.fnOf "law" "law" (defArgs sLaw) (defBody sLaw) (defScope sLaw) .none kVLaw dcLaw pmLaw anLaw cdLaw ctLaw, [(cWk, P1), (cTn, P2), (cRg, P3)], spLaw K P1 P2 P3, all3 t12 t22 t32, all3 nP1 nP2 nP3, all3 t11 t21 t31, fun s v => .of_eq rfl, ?_, ?_⟩
  · intro H a ns hl hH hS
    refine ⟨a, ns, rfl, hS, hl, fun q hq => ?_, fun _ => rfl⟩
    rcases List.mem_cons.mp hq with rfl | hq
    · exact ⟨#[], hH (cWk, P1) i1, trivial, fun pos cv hc => by cases hc⟩
    rcases List.mem_cons.mp hq with rfl | hq
    · exact ⟨#[], hH (cTn, P2) i2, trivial, fun pos cv hc => by cases hc⟩
    · rw [List.mem_singleton.mp hq]
      exact ⟨#[], hH (cRg, P3) i3, trivial, fun pos cv hc => by cases hc⟩
  intro base inK gl hT
  have TB1 : TabB base mg cWk P1 := hT (cWk, P1) i1
  have TB2 : TabB base mg cTn P2 := hT (cTn, P2) i2
  have TB3 : TabB base mg cRg P3 := hT (cRg, P3) i3
  have II : Ini l.prog w K mg base fInit := ⟨⟨_, ok_init FInit, bInit⟩, A.fn⟩
  have GName := ok_name (P := l.prog) (w := w) (base := base) FIsName T ⟨⟨_, PySem.W.mg_of X G aL⟩, ⟨_, PySem.W.mg_of X G aF⟩⟩
  have GNames := ok_names FNamesIn T GName (PySem.W.mg_of X G aIsName) kIsName bIsName
  have GHeads := ok_heads FReadHeads T GNames (PySem.W.mg_of X G aNamesIn) kNamesIn bNamesIn
  have GAmong := ok_among (P := l.prog) (w := w) (base := base) FAmong T
  have GIsWalk := ok_iswalk FIsWalk T GAmong (PySem.W.mg_of X G aAmong) kAmong bAmong
  have GLine := ok_line (P := l.prog) (w := w) (base := base) FIsLine T
  have GGoals := ok_goals FReadGoals T (PySem.W.mg_of X G aH) HA II qB.ec GLine (PySem.W.mg_of X G aIsLine) kIsLine bIsLine
  have GDInit := ok_dinit FDInit T (PySem.W.mg_of X G aH) HA II qB.ec DC GHeads (PySem.W.mg_of X G aReadHeads) kReadHeads bReadHeads GGoals (PySem.W.mg_of X G aReadGoals) kReadGoals bReadGoals
  have GHas := ok_has FDHas DC GAmong (PySem.W.mg_of X G aAmong) kAmong bAmong
  have GAsk := ok_ask FDAsk DC II qS.ec qC.ec GAmong (PySem.W.mg_of X G aAmong) kAmong bAmong GHas aDHas nDHas bDHas
  have GGone := ok_gone FDGone T DC II qW.ec (PySem.W.mg_of X G aM) GIsWalk (PySem.W.mg_of X G aIsWalk) kIsWalk bIsWalk
  have GDHeard := ok_heard FDHeard DC GGone ⟨aDGone, nDGone, kDGone⟩ bDGone
  have GDBehind := ok_behind FDBehind DC GGone ⟨aDGone, nDGone, kDGone⟩ bDGone
  have MI : Mk K C fDInit := ⟨DD.2.2.1, aDInit, nDInit, DD.2.2.2.1⟩
  have GDBegun := ok_begun FDBegun T DC II qS.ec GHas aDHas nDHas bDHas GDInit MI bDInit
  have GDTurned := ok_turned FDTurned T DC II qS.ec qA.ec GAsk ⟨aDAsk, nDAsk, kDAsk⟩ bDAsk GAmong (PySem.W.mg_of X G aAmong) kAmong bAmong GHas aDHas nDHas bDHas GDInit MI bDInit
  have GTake := ok_take (P := l.prog) (w := w) (base := base) FTake T
  have GOf := ok_of FOf T GTake (PySem.W.mg_of X G aTake) kTake bTake
  have GSome := ok_some FSome T GTake (PySem.W.mg_of X G aTake) kTake bTake
  have GSizes := ok_sizes FSizes GOf (PySem.W.mg_of X G aOf) kOf bOf
  have GAny := ok_any FAny GSome (PySem.W.mg_of X G aSome) kSome bSome GOf (PySem.W.mg_of X G aOf) kOf bOf
  have GText := ok_text (P := l.prog) (w := w) (base := base) (mg := mg) FText
  have GLines := ok_lines FLines T GSome (PySem.W.mg_of X G aSome) kSome bSome
  have GOdd := ok_odd FOdd GOf (PySem.W.mg_of X G aOf) kOf bOf
  have GAWalk := ok_awalk FAWalk T GTake (PySem.W.mg_of X G aTake) kTake bTake GOf (PySem.W.mg_of X G aOf) kOf bOf
  have GRun := ok_run (P := l.prog) (w := w) (base := base) FRun T
  have GTurnL := ok_turnedl (P := l.prog) (w := w) (base := base) FTurnL T
  have ZW : KitW l.prog w K mg base fInit C CW B P1 P2 P3 := ⟨⟨_, _, GTake, PySem.W.mg_of X G aTake, kTake, bTake⟩, ⟨_, _, GOf, PySem.W.mg_of X G aOf, kOf, bOf⟩, ⟨_, _, GOdd, PySem.W.mg_of X G aOdd, kOdd, bOdd⟩, ⟨_, _, GRun, PySem.W.mg_of X G aRun, kRun, bRun⟩, ⟨_, _, GDHeard, ⟨aDHeard, nDHeard, kDHeard⟩, bDHeard⟩, ⟨_, _, GDBehind, ⟨aDBehind, nDBehind, kDBehind⟩, bDBehind⟩, ⟨_, _, _, _, _, _, _, _, _, _, PySem.W.mg_of X G aTold, kTold, lTold, cTold, bTold⟩, PySem.W.mg_of X G aB, qW, DC, A.dsc, n12, n13, n23⟩
  have GWalks := ok_walks (P := l.prog) (w := w) (base := base) T ZW lWalks cWalks TB1
  have ZQ : KitQ l.prog w K mg base fInit C CS CC CA CW B P1 P2 P3 := ⟨⟨_, _, GOf, PySem.W.mg_of X G aOf, kOf, bOf⟩, ⟨_, _, GOdd, PySem.W.mg_of X G aOdd, kOdd, bOdd⟩, ⟨_, _, GRun, PySem.W.mg_of X G aRun, kRun, bRun⟩, ⟨_, _, GAWalk, PySem.W.mg_of X G aAWalk, kAWalk, bAWalk⟩, ⟨_, _, GTurnL, PySem.W.mg_of X G aTurnL, kTurnL, bTurnL⟩, ⟨_, _, GDHeard, ⟨aDHeard, nDHeard, kDHeard⟩, bDHeard⟩, ⟨_, _, GDTurned, ⟨aDTurned, nDTurned, kDTurned⟩, bDTurned⟩, ⟨_, _, _, _, _, _, _, _, _, _, PySem.W.mg_of X G aTold, kTold, lTold, cTold, bTold⟩, PySem.W.mg_of X G aB, qS, qC, qA, S6, DC, A.dsc, n12, n13, n23⟩
  have GTurnQ := ok_turnq (P := l.prog) (w := w) (base := base) T mDict ZQ lTurnQ cTurnQ TB2
  have ZR : KitR l.prog w K mg base fInit C CS CB B P1 P2 P3 := ⟨⟨_, _, GAny, PySem.W.mg_of X G aAny, kAny, bAny⟩, ⟨_, _, GTake, PySem.W.mg_of X G aTake, kTake, bTake⟩, ⟨_, _, GSizes, PySem.W.mg_of X G aSizes, kSizes, bSizes⟩, ⟨_, _, GLines, PySem.W.mg_of X G aLines, kLines, bLines⟩, ⟨_, _, GText, PySem.W.mg_of X G aText, kText, bText⟩, ⟨_, _, GOdd, PySem.W.mg_of X G aOdd, kOdd, bOdd⟩, ⟨_, _, GDInit, MI, bDInit⟩, ⟨_, _, GDBegun, ⟨aDBegun, nDBegun, kDBegun⟩, bDBegun⟩, ⟨_, _, GWalks, PySem.W.mg_of X G aWalks, kWalks, bWalks⟩, ⟨_, _, GTurnQ, PySem.W.mg_of X G aTurnQ, kTurnQ, bTurnQ⟩, ⟨_, _, _, _, _, _, _, _, _, _, PySem.W.mg_of X G aTold, kTold, lTold, cTold, bTold⟩, PySem.W.mg_of X G aB, qS, DC, A.dsc, n13, n23⟩
  have GR := ok_right (P := l.prog) (w := w) (base := base) T ZR lRight cRight TB3
  exact ok_law FLaw T GR (PySem.W.mg_of X G aRight) kRight bRight (ok_pot FPot T) (PySem.W.mg_of X G aPot) kPot bPot (ok_cells FCells T) (PySem.W.mg_of X G aCells) kCells bCells
end K03
open PySem PySem.W PyProof.Rows
set_option Elab.async false
set_option maxRecDepth 100000 in
set_option maxHeartbeats 0 in
theorem PySem.Challenge.cw_toldboxes_k03_whole_walks_begun_and_turn_holds : PySem.Challenge.rw_toldboxes_k03_whole_walks_begun_and_turn.Holds := by
  w_on; o_law; k_head; (case hw => w_witness2)
  k_fill
  refine LG.g_walkU (l := PySem.Challenge.rw_toldboxes_k03_whole_walks_begun_and_turn) (k := 11) (x := "_law_script") rfl rfl ⟨rfl, by decide, by decide⟩ (fun w h Y => PySem.W.km_in_of Y) ?F
  case F =>
    intro w mg mb fa h mean Y Tp KX G hmg
    refine' K03.all_mk KX G hmg (fun tb => PySem.W.tab_of Tp KX rfl tb) (fun tb => PySem.W.tab_of Tp KX rfl tb) (fun tb => PySem.W.tab_of Tp KX rfl tb) ?aB ?eCB ?eCS ?eCC ?eCA ?eCW ?aC ?aInit ?lInit ?cInit ?kInit ?nInit ?aDInit ?lDInit ?cDInit ?kDInit ?nDInit ?aDHas ?lDHas ?cDHas ?kDHas ?nDHas ?aDAsk ?lDAsk ?cDAsk ?kDAsk ?nDAsk ?aDGone ?lDGone ?cDGone ?kDGone ?nDGone ?aDHeard ?lDHeard ?cDHeard ?kDHeard ?nDHeard ?aDBehind ?lDBehind ?cDBehind ?kDBehind ?nDBehind ?aDBegun ?lDBegun ?cDBegun ?kDBegun ?nDBegun ?aDTurned ?lDTurned ?cDTurned ?kDTurned ?nDTurned ?aIsName ?lIsName ?cIsName ?kIsName ?aNamesIn ?lNamesIn ?cNamesIn ?kNamesIn ?aReadHeads ?lReadHeads ?cReadHeads ?kReadHeads ?aAmong ?lAmong ?cAmong ?kAmong ?aIsWalk ?lIsWalk ?cIsWalk ?kIsWalk ?aReadGoals ?lReadGoals ?cReadGoals ?kReadGoals ?aIsLine ?lIsLine ?cIsLine ?kIsLine ?aPot ?lPot ?cPot ?kPot ?aTake ?lTake ?cTake ?kTake ?aOf ?lOf ?cOf ?kOf ?aSome ?lSome ?cSome ?kSome ?aCells ?lCells ?cCells ?kCells ?aTold ?lTold ?cTold ?kTold ?aOdd ?lOdd ?cOdd ?kOdd ?aAny ?lAny ?cAny ?kAny ?aText ?lText ?cText ?kText ?aSizes ?lSizes ?cSizes ?kSizes ?aAWalk ?lAWalk ?cAWalk ?kAWalk ?aRun ?lRun ?cRun ?kRun ?aLines ?lLines ?cLines ?kLines ?aWalks ?lWalks ?cWalks ?kWalks ?aTurnL ?lTurnL ?cTurnL ?kTurnL ?aTurnQ ?lTurnQ ?cTurnQ ?kTurnQ ?aRight ?lRight ?cRight ?kRight ?aLaw ?lLaw ?cLaw ?kLaw ?z0 ?z1 ?z2 ?z3 ?z4 ?z5 ?z6 ?z7 ?z8 ?z9 ?z10 ?z11 ?z12 ?z13 ?z14 ?z15 ?z16 ?z17 ?aL ?aF ?aM ?aH ?h0 ?h1 ?h2 ?h3 ?KcWk ?hP1 ?nP1 ?KcTn ?hP2 ?nP2 ?KcRg ?hP3 ?nP3 ?tb1 ?tb2 ?tb3 ?two12 ?two13 ?two23 ?eb ?db ?sb
    (case aB => k_is)
    (case eCB => k_is)
    (case eCS => k_is)
    (case eCC => k_is)
    (case eCA => k_is)
    (case eCW => k_is)
    (case aC => k_is)
    (case aInit => k_is)
    (case lInit => k_is)
    (case cInit => k_is)
    (case kInit => k_is)
    (case nInit => k_is)
    (case aDInit => k_is)
    (case lDInit => k_is)
    (case cDInit => k_is)
    (case kDInit => k_is)
    (case nDInit => k_is)
    (case aDHas => k_is)
    (case lDHas => k_is)
    (case cDHas => k_is)
    (case kDHas => k_is)
    (case nDHas => k_is)
    (case aDAsk => k_is)
    (case lDAsk => k_is)
    (case cDAsk => k_is)
    (case kDAsk => k_is)
    (case nDAsk => k_is)
    (case aDGone => k_is)
    (case lDGone => k_is)
    (case cDGone => k_is)
    (case kDGone => k_is)
    (case nDGone => k_is)
    (case aDHeard => k_is)
    (case lDHeard => k_is)
    (case cDHeard => k_is)
    (case kDHeard => k_is)
    (case nDHeard => k_is)
    (case aDBehind => k_is)
    (case lDBehind => k_is)
    (case cDBehind => k_is)
    (case kDBehind => k_is)
    (case nDBehind => k_is)
    (case aDBegun => k_is)
    (case lDBegun => k_is)
    (case cDBegun => k_is)
    (case kDBegun => k_is)
    (case nDBegun => k_is)
    (case aDTurned => k_is)
    (case lDTurned => k_is)
    (case cDTurned => k_is)
    (case kDTurned => k_is)
    (case nDTurned => k_is)
    (case aIsName => k_is)
    (case lIsName => k_is)
    (case cIsName => k_is)
    (case kIsName => k_is)
    (case aNamesIn => k_is)
    (case lNamesIn => k_is)
    (case cNamesIn => k_is)
    (case kNamesIn => k_is)
    (case aReadHeads => k_is)
    (case lReadHeads => k_is)
    (case cReadHeads => k_is)
    (case kReadHeads => k_is)
    (case aAmong => k_is)
    (case lAmong => k_is)
    (case cAmong => k_is)
    (case kAmong => k_is)
    (case aIsWalk => k_is)
    (case lIsWalk => k_is)
    (case cIsWalk => k_is)
    (case kIsWalk => k_is)
    (case aReadGoals => k_is)
    (case lReadGoals => k_is)
    (case cReadGoals => k_is)
    (case kReadGoals => k_is)
    (case aIsLine => k_is)
    (case lIsLine => k_is)
    (case cIsLine => k_is)
    (case kIsLine => k_is)
    (case aPot => k_is)
    (case lPot => k_is)
    (case cPot => k_is)
    (case kPot => k_is)
    (case aTake => k_is)
    (case lTake => k_is)
    (case cTake => k_is)
    (case kTake => k_is)
    (case aOf => k_is)
    (case lOf => k_is)
    (case cOf => k_is)
    (case kOf => k_is)
    (case aSome => k_is)
    (case lSome => k_is)
    (case cSome => k_is)
    (case kSome => k_is)
    (case aCells => k_is)
    (case lCells => k_is)
    (case cCells => k_is)
    (case kCells => k_is)
    (case aTold => k_is)
    (case lTold => k_is)
    (case cTold => k_is)
    (case kTold => k_is)
    (case aOdd => k_is)
    (case lOdd => k_is)
    (case cOdd => k_is)
    (case kOdd => k_is)
    (case aAny => k_is)
    (case lAny => k_is)
    (case cAny => k_is)
    (case kAny => k_is)
    (case aText => k_is)
    (case lText => k_is)
    (case cText => k_is)
    (case kText => k_is)
    (case aSizes => k_is)
    (case lSizes => k_is)
    (case cSizes => k_is)
    (case kSizes => k_is)
    (case aAWalk => k_is)
    (case lAWalk => k_is)
    (case cAWalk => k_is)
    (case kAWalk => k_is)
    (case aRun => k_is)
    (case lRun => k_is)
    (case cRun => k_is)
    (case kRun => k_is)
    (case aLines => k_is)
    (case lLines => k_is)
    (case cLines => k_is)
    (case kLines => k_is)
    (case aWalks => k_is)
    (case lWalks => k_is)
    (case cWalks => k_is)
    (case kWalks => k_is)
    (case aTurnL => k_is)
    (case lTurnL => k_is)
    (case cTurnL => k_is)
    (case kTurnL => k_is)
    (case aTurnQ => k_is)
    (case lTurnQ => k_is)
    (case cTurnQ => k_is)
    (case kTurnQ => k_is)
    (case aRight => k_is)
    (case lRight => k_is)
    (case cRight => k_is)
    (case kRight => k_is)
    (case aLaw => k_is)
    (case lLaw => k_is)
    (case cLaw => k_is)
    (case kLaw => k_is)
    (case z0 => k_is)
    (case z1 => k_is)
    (case z2 => k_is)
    (case z3 => k_is)
    (case z4 => k_is)
    (case z5 => k_is)
    (case z6 => k_is)
    (case z7 => k_is)
    (case z8 => k_is)
    (case z9 => k_is)
    (case z10 => k_is)
    (case z11 => k_is)
    (case z12 => k_is)
    (case z13 => k_is)
    (case z14 => k_is)
    (case z15 => k_is)
    (case z16 => k_is)
    (case z17 => k_is)
    (case aL => k_is)
    (case aF => k_is)
    (case aM => k_is)
    (case aH => k_is)
    (case h0 => k_is)
    (case h1 => k_is)
    (case h2 => k_is)
    (case h3 => k_is)
    (case KcWk => k_is)
    (case hP1 => exact rfl)
    (case nP1 => kernel_rfl)
    (case KcTn => k_is)
    (case hP2 => exact rfl)
    (case nP2 => kernel_rfl)
    (case KcRg => k_is)
    (case hP3 => exact rfl)
    (case nP3 => kernel_rfl)
    (case tb1 => kernel_rfl)
    (case tb2 => kernel_rfl)
    (case tb3 => kernel_rfl)
    (case two12 => kernel_rfl)
    (case two13 => kernel_rfl)
    (case two23 => kernel_rfl)
    (case eb => kernel_rfl)
    (case db => kernel_rfl)
    (case sb => kernel_rfl)
