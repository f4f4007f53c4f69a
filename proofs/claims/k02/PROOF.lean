import PyProof.Rows.All
import Wide.All
import OpenK.AllK
import Wide.FinOn
import HandS.Base
import HandS.Call
import HandS.List
import HandS.Comp
import HandS.Ends
import HandS.Words
import HandS.Iter
import HandS.Dict
import HandS.IsInst
import HandS.Deep
import HandS.Text
import HandS.Style
import HandS.Wide
import HandS.WordsList
import HandS.StrMore
import HandS.DictComp
import HandS.Walk
import HandS.WordsDict
import HandS.Zip
import KE.GoesMore
import PyProof.Rows.ChunkEnd
import HandS.TupAny
import HandS.More
import OpenK.XHead
import PySem.Challenge.RW_missclock_k02_things_in_order
set_option Elab.async false
set_option linter.all false
set_option maxRecDepth 100000
set_option maxHeartbeats 4000000
/-! MC: data of any depth over the heap, its repr, comparisons with the empty ones; promises under known guards. -/
namespace MC
open PySem PySem.Spec L2
open PyProof.Rows hiding St

/-! ### data -/
def keyD : Key → PyData
  | .inl i => .int i
  | .inr x => .str x
mutual
inductive DD (H : Hp) : V → PyData → Prop
  | non : DD H .non .none
  | bl (b : Bool) : DD H (.bl b) (.bool b)
  | int (i : Int) : DD H (.int i) (.int i)
  | str (x : Str) : DD H (.str x) (.str x)
  | lst {a : Addr} {xs : List V} {ds : List PyData} (h : H a = some (.lst xs)) (hs : DDs H xs ds) : DD H (.ref a) (.list ds)
  | tup {a : Addr} {xs : List V} {ds : List PyData} (h : H a = some (.tup xs)) (hs : DDs H xs ds) : DD H (.ref a) (.tuple ds)
  | dct0 {a : Addr} (h : H a = some (.dK [])) : DD H (.ref a) (.dict [])
inductive DDs (H : Hp) : List V → List PyData → Prop
  | nil : DDs H [] []
  | cons {v : V} {vs : List V} {d : PyData} {ds : List PyData} (h : DD H v d) (hs : DDs H vs ds) : DDs H (v :: vs) (d :: ds)
end

mutual
theorem DD.mono {H H' : Hp} (e : Same H H') : ∀ {d : PyData} {v : V}, DD H v d → DD H' v d
  | _, _, .non => .non
  | _, _, .bl b => .bl b
  | _, _, .int i => .int i
  | _, _, .str x => .str x
  | _, _, .lst h hs => .lst (e _ _ h) (DDs.mono e hs)
  | _, _, .tup h hs => .tup (e _ _ h) (DDs.mono e hs)
  | _, _, .dct0 h => .dct0 (e _ _ h)
theorem DDs.mono {H H' : Hp} (e : Same H H') : ∀ {ds : List PyData} {vs : List V}, DDs H vs ds → DDs H' vs ds
  | _, _, .nil => .nil
  | _, _, .cons h hs => .cons (DD.mono e h) (DDs.mono e hs)
end
theorem DDs.length {H : Hp} : ∀ {vs : List V} {ds : List PyData}, DDs H vs ds → vs.length = ds.length
  | _, _, .nil => rfl
  | _, _, .cons _ hs => congrArg (· + 1) hs.length
theorem DDs.get {H : Hp} : ∀ {vs : List V} {ds : List PyData}, DDs H vs ds → ∀ {i : Nat} {v : V}, vs[i]? = some v → ∃ d, ds[i]? = some d ∧ DD H v d
  | _, _, .nil, _, _, e => by simp at e
  | _, _, .cons h _, 0, _, e => by simp at e; subst e; exact ⟨_, rfl, h⟩
  | _, _, .cons _ hs, i + 1, v, e => by
    obtain ⟨d, e1, e2⟩ := hs.get (i := i) (v := v) (by simpa using e)
    exact ⟨d, by simpa using e1, e2⟩
theorem DDs.append {H : Hp} : ∀ {vs ws : List V} {ds es : List PyData}, DDs H vs ds → DDs H ws es → DDs H (vs ++ ws) (ds ++ es)
  | _, _, _, _, .nil, k => k
  | _, _, _, _, .cons h hs, k => .cons h (hs.append k)
theorem DDs.take {H : Hp} : ∀ {vs : List V} {ds : List PyData} (n : Nat), DDs H vs ds → DDs H (vs.take n) (ds.take n)
  | _, _, 0, _ => .nil
  | _, _, _ + 1, .nil => .nil
  | _, _, n + 1, .cons h hs => .cons h (DDs.take n hs)
theorem DDs.drop {H : Hp} : ∀ {vs : List V} {ds : List PyData} (n : Nat), DDs H vs ds → DDs H (vs.drop n) (ds.drop n)
  | _, _, 0, r => r
  | _, _, _ + 1, .nil => .nil
  | _, _, n + 1, .cons _ hs => DDs.drop n hs
theorem DDs.set {H : Hp} {v : V} {d : PyData} (r : DD H v d) : ∀ {vs : List V} {ds : List PyData} (i : Nat), DDs H vs ds → DDs H (vs.set i v) (ds.set i d)
  | _, _, _, .nil => .nil
  | _, _, 0, .cons _ hs => .cons r hs
  | _, _, i + 1, .cons h hs => .cons h (DDs.set r i hs)

section
variable {X : Cx} {pins : List (Addr × Obj)} {σ : St} {H : Hp} {s : Shared}
mutual
theorem DD.reads (I : Inv X pins σ H s) : ∀ (d : PyData) (v : V) (u : Value), DD H v d → RelV v u → ∃ as, Reads s.heap u d as ∧ ∀ b ∈ as, H b ≠ none
  | .none, _, _, h, r => by
    cases h; cases r
    exact ⟨_, .none, fun b hb => nomatch hb⟩
  | .bool b, _, _, h, r => by
    cases h; cases r
    exact ⟨_, .bool b, fun b hb => nomatch hb⟩
  | .int i, _, _, h, r => by
    cases h; obtain ⟨t, rfl⟩ := r
    exact ⟨_, .int i t, fun b hb => nomatch hb⟩
  | .str x, _, _, h, r => by
    cases h; obtain ⟨t, rfl⟩ := r
    exact ⟨_, .str x t, fun b hb => nomatch hb⟩
  | .list ds, _, _, h, r => by
    cases h with
    | lst ha hs =>
      cases r
      obtain ⟨_, its, n, rv, ho⟩ := (show ObjOk X.prog X.w H s.heap _ (.lst _) from I.hok _ _ ha)
      obtain ⟨as, hr, hb⟩ := DDs.reads I ds _ its hs rv
      refine ⟨_, .list ho rfl rfl (by simpa using hr), fun b hbm => ?_⟩
      rcases List.mem_cons.mp hbm with rfl | hbm
      · rw [ha]; exact fun z => nomatch z
      · exact hb b hbm
  | .tuple ds, _, _, h, r => by
    cases h with
    | tup ha hs =>
      cases r
      obtain ⟨_, its, rv, o, ho, hc, n, hd⟩ := (show ObjOk X.prog X.w H s.heap _ (.tup _) from I.hok _ _ ha)
      obtain ⟨as, hr, hb⟩ := DDs.reads I ds _ its hs rv
      exact ⟨_, .tuple ho hc hd (by simpa using hr), hb⟩
  | .dict es, _, _, h, r => by
    cases h with
    | dct0 ha =>
      cases r
      obtain ⟨_, _, vs, kv, o, es, ep, ho, hx, hd, _, hm, _⟩ := (show ObjOk X.prog X.w H s.heap _ (.dK _) from I.hok _ _ ha)
      cases kv
      have e0 : es.toList = [] := by
        generalize es.toList = l at hm
        cases hm
        rfl
      refine ⟨_, .dict (kvs := []) ho hx.1 hd (by rw [e0]; exact .nil) (by rw [e0]; exact .nil), fun b hb => ?_⟩
      rw [List.append_nil] at hb
      rw [List.mem_singleton.mp hb, ha]
      exact fun z => nomatch z
theorem DDs.reads (I : Inv X pins σ H s) : ∀ (ds : List PyData) (vs : List V) (us : List Value), DDs H vs ds → Vals vs us → ∃ as, ReadsAll s.heap us ds as ∧ ∀ b ∈ as, H b ≠ none
  | [], _, _, h, r => by
    cases h; cases r
    exact ⟨_, .nil, fun b hb => nomatch hb⟩
  | d :: ds, _, _, h, r => by
    cases h with
    | cons h1 h2 =>
      cases r with
      | cons r1 r2 =>
        obtain ⟨as, q1, b1⟩ := DD.reads I d _ _ h1 r1
        obtain ⟨bs, q2, b2⟩ := DDs.reads I ds _ _ h2 r2
        exact ⟨_, .cons q1 q2, fun b hb => (List.mem_append.mp hb).elim (b1 b) (b2 b)⟩
end
end

/-! ### repr -/
section
variable {X : Cx}
def rRepr : List V → Hp → VK → Prop := fun xs H Q => ∃ x d, xs = [x] ∧ DD H x d ∧ d.showable = true ∧ d.depth ≤ 100 ∧ d.shown.length ≤ sizeLine ∧ Q (.str d.shown) H
theorem flatD {H : Hp} {x : V} {d : PyData} (h : DD H x d) : (∃ a, x = .ref a) ∨ (x = .non ∧ d = .none) ∨ (∃ b, x = .bl b ∧ d = .bool b) ∨ (∃ i, x = .int i ∧ d = .int i) ∨ ∃ z, x = .str z ∧ d = .str z := by
  cases h with
  | non => exact .inr (.inl ⟨rfl, rfl⟩)
  | bl b => exact .inr (.inr (.inl ⟨b, rfl, rfl⟩))
  | int i => exact .inr (.inr (.inr (.inl ⟨i, rfl, rfl⟩)))
  | str z => exact .inr (.inr (.inr (.inr ⟨z, rfl, rfl⟩)))
  | lst h _ => exact .inl ⟨_, rfl⟩
  | tup h _ => exact .inl ⟨_, rfl⟩
  | dct0 h => exact .inl ⟨_, rfl⟩
/-- the system's own table of modules is an object of the written part: nothing tracked lies there -/
def NoSys (X : Cx) : Prop := ∃ o, X.K.lookup sysModules = some o
theorem call_repr (hg : X.A.guards = some []) (hu : X.A.units + 200 < cLine) (hn : NoSys X) : CallR X (.builtin "repr") rRepr := by
  intro pins s σ H xs us Q I r h
  obtain ⟨x, d, rfl, hd, hs, hdp, hz, q⟩ := h
  obtain ⟨u, rfl, rx⟩ := vals1 r
  obtain ⟨as, rd, nb⟩ := DD.reads I d x u hd rx
  have fin : ∀ tk t, EP X pins σ Q (.str d.shown t) { s with toks := tk } := fun tk t => ⟨.str _, H, I.tok _, ⟨_, rfl⟩, q⟩
  rcases flatD hd with ⟨a, rfl⟩ | ⟨rfl, rfl⟩ | ⟨b, rfl, rfl⟩ | ⟨i, rfl, rfl⟩ | ⟨z, rfl, rfl⟩
  · cases rx
    refine repr_of_reads' rd hs (fun _ hm => ?_) hg (by omega) (fun _ _ e => e) (fun h' u tk hk => ⟨.str _, H, I.kept (h' := h') (t' := tk) hk, ⟨_, rfl⟩, q⟩) hz
    obtain ⟨o, ho⟩ := hn
    exact nb _ hm (I.bs _ _ (I.ok.mod.kin _ _ ho)).2
  · cases rx
    exact PySem.P.repr_of_none (fin _ _)
  · cases rx
    refine PySem.P.repr_of_bool ?_
    have := fin (s.toks + 1) s.toks
    cases b <;> exact this
  · obtain ⟨t, rfl⟩ := rx
    exact PySem.P.repr_of_int (by simpa [PyData.showable] using hs) (fin _ _)
  · obtain ⟨t, rfl⟩ := rx
    exact PySem.P.repr_of_str (fin _ _) hz
end
end MC

set_option Elab.async false
set_option linter.all false
set_option maxRecDepth 100000
set_option maxHeartbeats 4000000
namespace MC
open PySem PySem.Spec L2
open PyProof.Rows hiding St

/-! ### promises under a fact about what lies around -/
structure FnA (Φ : Around → Prop) (P : Program) (w : World) (K : PySem.W.Frag) (mg : Str → Option Value) (base : Heap) (CX : CXT) (k : Nat) (f : Addr) (fd : FuncData) (ps : List Str) (sp : Sp) : Prop where
  len : ∀ vs H Q E, sp vs H Q E → vs.length = ps.length
  run : ∀ (A : Around) (outer : List Env) (s : Shared) (H : Hp) (args : Args) (us : List Value) (vs : List V) (Q : VK) (E : XK), Φ A → Room k A → Env0 P w K mg base A outer s H →
    BindsTo s fd args (ps.zip us) → Vals vs us → sp vs H Q E → codeAny (model P w) A (.call (.ref f) args) (CR CX outer P w H s Q E) s
def Clean (A : Around) : Prop := A.guards = some []
theorem Clean.deeper {A : Around} (h : Clean A) (e : Env) : Clean (A.deeper e) := h

section
variable {Φ : Around → Prop} {CX : CXT} {P : Program} {w : World} {K : PySem.W.Frag} {mg : Str → Option Value} {base : Heap} {k : Nat} {f : Addr}
theorem fn_ofA {name qual : Str} {params : Arguments} {body : List Stmt} {scope : Scope} {dV kV doc pm cdv ct oc : Value} {an od : Option Addr}
    {osl : Array (Option Value)} {N ps : List Str} {sp : Sp} (lk : K.lookup f = some ⟨oc, od, .func (PySem.W.fnOf name qual params body scope dV kV doc pm an cdv ct), osl⟩)
    (hcd : PySem.W.codeIn K cdv qual = true) (S : FnScope N ps scope) (len : ∀ vs H Q E, sp vs H Q E → vs.length = ps.length)
    (hbody : ∀ (A : Around) (outer : List Env) (s : Shared) (H : Hp) (vs : List V) (Q : VK) (E : XK), Φ A → Room k (A.deeper (envOfC qual scope s.heap.objs.size f cdv)) → sp vs H Q E →
      ∃ t, PSs (cxOf CX P w K mg base N qual scope f cdv A outer s H E) body t ∧ t { nx := fun _ H' => Q .non H', rt := Q } (start N vs) H) :
    FnA Φ P w K mg base CX (k + 1) f (PySem.W.fnOf name qual params body scope dV kV doc pm an cdv ct) ps sp := by
  refine ⟨len, fun A outer s H args us vs Q E hΦ hr e0 hb r hsp => ?_⟩
  have sub := fun b o e => (e0.bs b o e).1
  have inK : K.In s.heap := e0.mod.kin.keeps sub
  have bound : ∀ y ∈ ps.zip us, scope.names.lookup y.1 = some .local ∨ (scope.names.lookup y.1 = some .cell ∧ ((cellsFrom (s.heap.objs.size + 1) scope.names []).lookup y.1).isSome = true) := by
    rintro ⟨n, v⟩ hy
    have hp := S.par n (List.of_mem_zip hy).1
    exact hp.elim .inl fun q => .inr ⟨q, PySem.W.cellsFrom_some _ _ _ (.inl q)⟩
  refine codeAny_call_function hr.depth (inK _ _ lk) rfl S.co S.gen rfl (PySem.W.codeRec_of inK hcd) (hb _ _ _ _ (wpAny_newFunctionEnv_cells S.kind bound fun env he s1 x => ?_))
  cases he
  refine ⟨(e0.mod.nolimit.keeps sub).keeps x.toInCall.keep, codeAny_func ?_⟩
  obtain ⟨t, ht, hq⟩ := hbody A outer s H vs Q E hΦ (hr.deeper _) hsp
  have J := inv_start (CX := CX) (w := w) (qual := qual) (f := f) (cd := cdv) (E := E) S hr.hd e0 (len _ _ _ _ hsp) r x
  refine wpAny_mono (ht.run [] s1 _ H _ J hq) (fun fl s' hs => ?_) fun _ _ z => z
  match fl, hs with
  | .ret u, ⟨v, _, H', J', rv, q⟩ => exact ⟨v, H', J'.os, J'.bare, J'.base, J'.hok, rv, q⟩
  | .next, ⟨_, H', J', q⟩ => exact ⟨V.non, H', J'.os, J'.bare, J'.base, J'.hok, rfl, q⟩
  | .brk, ⟨_, _, _, q⟩ => exact q.elim
  | .cont, ⟨_, _, _, q⟩ => exact q.elim

theorem FunA.ok {x qual : Str} {st : Stmt} {fd : FuncData} {N ps : List Str} {sp : Sp} (F : Fun K x qual st f fd) (S : FnScope N ps (defScope st)) (len : ∀ vs H Q E, sp vs H Q E → vs.length = ps.length)
    (hbody : ∀ (cdv : Value) (A : Around) (outer : List Env) (s : Shared) (H : Hp) (vs : List V) (Q : VK) (E : XK), Φ A → Room k (A.deeper (envOfC qual (defScope st) s.heap.objs.size f cdv)) → sp vs H Q E →
      ∃ t, PSs (cxOf CX0 P w K mg base N qual (defScope st) f cdv A outer s H E).nox (defBody st) t ∧ t { nx := fun _ H' => Q .non H', rt := Q } (start N vs) H) : FnA Φ P w K mg base CX0 (k + 1) f fd ps sp := by
  obtain ⟨oc, od, kV, doc, pm, an, cdv, ct, osl, rfl, lk, hcd⟩ := F.ex
  exact fn_ofA lk hcd S len fun A outer s H vs Q E hΦ hr hsp => (hbody cdv A outer s H vs Q E hΦ hr hsp).imp fun t z => ⟨z.1.nox, z.2⟩
theorem FnA.of {fd : FuncData} {ps : List Str} {sp : Sp} (F : FnOk P w K mg base CX k f fd ps sp) : FnA Φ P w K mg base CX k f fd ps sp :=
  ⟨F.len, fun A outer s H args us vs Q E _ => F.run A outer s H args us vs Q E⟩
end

section
variable {Φ : Around → Prop} {X : Cx} {CX : CXT} {k : Nat} {f : Addr} {fd : FuncData} {ps : List Str} {sp : Sp} {dvs : List V} {ds : List Value} {E : XK} {x : Str} {p pos : Pos} {e : Expr} {es : List Expr} {t : TA}
/-- a call of a def whose promise leans on what lies around -/
theorem pe_callA (hΦ : Φ X.A) (F : FnA Φ X.prog X.w X.K X.mg X.base CX k f fd ps sp) (hr : Room k X.A) (hg : Gl X x) (hm : X.mg x = some (.ref f)) (hk : PySem.W.keepIn X.K (.ref f) = true) (hb : Binds X.K fd ps ds) (hd : Vals dvs ds) (hx : Passes CX X E)
    (ha : PA X (e :: es) t) (hdb : (x == ("__debug__" : Str)) = false := by decide) (he : starEach (e :: es) X.env = (false, eval e X.env) :: starEach es X.env := by rfl) (hpl : (backTo pos (starEach es X.env)).any (·.1) = false := by rfl) :
    PE X (.Call (.Name x p) (e :: es) [] pos) (tCall sp dvs E t) := by
  constructor
  intro pins s σ H Q I h
  refine wpAny_Call_Name_kw (ld_glob I hg hm ?_ hdb)
  refine PySem.W.callWith_K (h₀ := X.base) I.ok.mod.kin hk (thn (ha.run pos pins s σ H _ I h) fun us s1 ⟨vs, H1, I1, r, q⟩ => ⟨I1.kIn, ?_⟩) he hpl
  have r2 := r.append hd
  have hl : (us ++ ds).length = ps.length := r2.length.symm.trans (F.len _ _ _ _ q)
  refine wpAny_call (codeAny_mono (F.run X.A X.stack s1 H1 ⟨us, []⟩ _ _ Q E hΦ hr I1.env0 (hb s1 us I1.kIn hl) r2 q) fun z s' hq => ?_)
  match z, hq with
  | .error e', hq => exact hx pins σ H1 s1 e' s' I1 hq
  | .ok (.ret u), hq => exact I1.after hq
  | .ok .next, hq => exact hq.elim
  | .ok .brk, hq => exact hq.elim
  | .ok .cont, hq => exact hq.elim
end

/-! ### the law's own call -/
theorem law_callA {P : Program} {w : World} {K : PySem.W.Frag} {mg mb : Str → Option Value} {k : Nat} {fa a : Addr} {fd : FuncData} {x : Str} {sp : Sp} {s₁ : Shared} {vs : List Value} {ns : List Int}
    (KX : K.In s₁.heap) (hns : s₁.heap.Ns mainGlobals mg) (hb : s₁.heap.Ns builtinsNs mb) (hbb : ∀ x : Str, x ≠ "__name__" → mb x = bootBuiltins x) (hlim : s₁.heap.NoLimit) (hg : s₁.gens = #[])
    (ha : s₁.heap.get? a = some { cls := .type "list", data := .seq vs.toArray }) (hi : IntsAre vs ns) (hl : ns.length ≤ sizeLine) (hr : Room k callerA)
    (F : ∀ base : Heap, K.In base → base.Ns mainGlobals mg → FnA Clean P w K mg base CX0 k fa fd [x] sp) (hbind : ∀ (s : Shared) (u : Value), BindsTo s fd ⟨[u], []⟩ [(x, u)])
    (hsp : ∀ H : Hp, Only H → SqL K H a (ns.map V.int) → sp [.ref a] H (fun v _ => v = .bl true) fun _ _ _ => False) :
    codeAny (model P w) callerA (.call (.ref fa) ⟨[.ref a], []⟩) (fun r s' => r = .ok (.ret (.bool true)) ∧ OldK s₁.heap s'.heap ∧ s'.os = s₁.os ∧ AllBare s'.gens) s₁ := by
  have rv := vals_ints hi
  have main : ∀ H : Hp, Only H → SqL K H a (ns.map V.int) → HOk P w H s₁.heap → (∀ b u, H b = some u → b = a ∧ K.lookup a = none) →
      codeAny (model P w) callerA (.call (.ref fa) ⟨[.ref a], []⟩) (fun r s' => r = .ok (.ret (.bool true)) ∧ OldK s₁.heap s'.heap ∧ s'.os = s₁.os ∧ AllBare s'.gens) s₁ := by
    intro H hO hS hok hA
    have none_of : ∀ {b : Addr}, (b = a → K.lookup a = none → False) → H b = none := fun {b} h => by
      match e : H b with
      | none => rfl
      | some u => exact (h (hA b u e).1 (hA b u e).2).elim
    have ns_of : ∀ {b : Addr} {m : Str → Option Value}, s₁.heap.Ns b m → (hidT s₁.heap H).Ns b m := fun {b m} ⟨o, es, ep, e, d, r⟩ =>
      ⟨o, es, ep, hidT_get e (none_of fun q _ => by subst q; rw [ha] at e; cases e; cases d), d, r⟩
    have kb : K.In (hidT s₁.heap H) := fun b o e => hidT_get (KX b o e) (none_of fun q z => by subst q; rw [z] at e; cases e)
    have M : Mod K mg (hidT s₁.heap H) := ⟨kb, ns_of hns, ⟨mb, ns_of hb, hbb⟩, hlim.imp fun mc z => ⟨ns_of z.1, z.2⟩⟩
    have e0 : Env0 P w K mg (hidT s₁.heap H) callerA [] s₁ H := ⟨rfl, M, fun b o e => of_hidT e, Nat.le_of_eq (hidT_size _ _), trivial, (fun b z => nomatch z), hok, .of_eq hg⟩
    refine codeAny_mono ((F _ kb (ns_of hns)).run callerA [] s₁ H ⟨[.ref a], []⟩ [.ref a] [.ref a] _ _ rfl hr e0 (hbind s₁ (.ref a)) (.cons rfl .nil) (hsp H hO hS)) fun r s' h => ?_
    match r, h with
    | .error e, h => exact h.elim
    | .ok .next, h => exact h.elim
    | .ok .brk, h => exact h.elim
    | .ok .cont, h => exact h.elim
    | .ok (.ret u), ⟨v, H', os, bare, un, hok', r', q⟩ =>
      cases (show v = .bl true from q)
      cases (show u = Value.bool true from r')
      refine ⟨rfl, OldK.of_keep fun b o e => ?_, os, bare⟩
      match z : H b with
      | none => exact un.keep b o e z (fun q => nomatch q) (fun q => nomatch q)
      | some y =>
        rcases hO b with z2 | ⟨ob, xs, z2⟩
        · rw [z] at z2; cases z2
        · have f1 := (hok b _ z2).1
          have f2 := (hok' b _ (un.frzs b ob _ z2)).1
          rw [e] at f1; cases f1
          exact f2
  match hk : K.lookup a with
  | some o =>
    have e := KX a o hk
    rw [ha] at e
    cases e
    exact main (fun _ => none) (fun _ => .inl rfl) (.inr ⟨_, vs.toArray, _, hk, rfl, rfl, rfl, by rw [List.size_toArray, hi.length]; exact hl, by simpa using rv⟩) (fun b u z => (nomatch z)) (fun b u z => (nomatch z))
  | none =>
    have at_a : upd (fun _ => none) a (.frz { cls := .type "list", data := .seq vs.toArray } (.lst (ns.map V.int))) a = some _ := upd_same
    refine main _ (fun b => ?_) (.inl (.inr ⟨_, at_a⟩)) (fun b u z => ?_) fun b u z => ⟨?_, hk⟩
    · by_cases q : b = a
      · subst q; exact .inr ⟨_, _, at_a⟩
      · exact .inl (upd_ne q)
    · by_cases q : b = a
      · subst q; rw [at_a] at z; cases z
        exact ⟨ha, by rw [List.length_map]; exact hl, vs, _, rv, ha⟩
      · rw [upd_ne q] at z; cases z
    · by_cases q : b = a
      · exact q
      · rw [upd_ne q] at z; cases z
theorem walk_ofA {l : PySem.W.OpenLaw} {n k : Nat} {q : Program} {loose : List Str} {XP : (Str → Option Value) → Heap → Prop} {YP : World → Heap → Prop} {d : DefRec} {K : Params → PySem.W.Frag} {sp : World → Sp} {x : Str}
    (hn : l.most = some n) (hn2 : n ≤ sizeLine) (hdf : d.params.defaults = []) (hr : Room k callerA) (hY : ∀ (w : World) (h : Heap), YP w h → (K w.params).In h)
    (F : ∀ (w : World) (mg : Str → Option Value) (fa : Addr) (h : Heap), (K w.params).In h → h.Ns mainGlobals mg → mg d.name = some (.ref fa) →
      ∃ fd : FuncData, (∀ (s : Shared) (u : Value), BindsTo s fd ⟨[u], []⟩ [(x, u)]) ∧ ∀ base : Heap, (K w.params).In base → base.Ns mainGlobals mg → FnA Clean l.prog w (K w.params) mg base CX0 k fa fd [x] (sp w))
    (hsp : ∀ (w : World) (H : Hp) (a : Addr) (ns : List Int), ns.length ≤ n → Only H → SqL (K w.params) H a (ns.map V.int) → sp w [.ref a] H (fun v _ => v = .bl true) fun _ _ _ => False) :
    PySem.W.WalkO q loose XP YP l.row.toRowW d [] (fun f vs => PySem.call f vs) :=
  Att.attach_call hn hdf fun w s₀ s₁ mg mb fa o pm cd doc a vs ns G Y ho hd hcd hmg hobj hints hlen hg => by
    obtain ⟨fd, hb, hF⟩ := F w mg fa _ (hY w _ Y) G.T.g hmg
    exact law_callA (hY w _ Y) G.T.g G.T.b G.T.builtins G.T.nolimit hg hobj hints (Nat.le_trans hlen hn2) hr hF hb fun H hO hS => hsp w H a ns hlen hO hS
end MC

set_option Elab.async false
set_option linter.all false
set_option maxRecDepth 100000
set_option maxHeartbeats 4000000
namespace MC
open PySem PySem.Spec L2
open PyProof.Rows hiding St
open AutoSeq1 (wpAny_loadPart')

/-! ### a list (a tuple) is no dict -/
theorem list_eq_dict (l b : Addr) (items : Array Value) (n n2 : Nat) (dd dd2 : Option Addr) (sl sl2 : Array (Option Value)) (es : Array DictEntry) :
    Meets (Builtin.«list.__eq__» ⟨[.ref l, .ref b], []⟩) (fun _ R s => s.heap.get? l = some { cls := .type "list", dict := dd, data := .seq items n, slots := sl } ∧
      s.heap.get? b = some { cls := .type "dict", dict := dd2, data := .dict es n2, slots := sl2 } ∧ R (.ok (.ret .notImplemented)) s) :=
  .of_wp fun prog w A R s h => by
    obtain ⟨hp, g, d, tk, os⟩ := s
    obtain ⟨hl, hb, h⟩ := h
    have f1 := F.sub_dict_list
    wp_walk using wpAny_loadPart' hl, wpAny_loadPart' hb
    exact ⟨_, rfl, h⟩
theorem tuple_eq_dict (l b : Addr) (items : Array Value) (n n2 : Nat) (dd dd2 : Option Addr) (sl sl2 : Array (Option Value)) (es : Array DictEntry) :
    Meets (Builtin.«tuple.__eq__» ⟨[.ref l, .ref b], []⟩) (fun _ R s => s.heap.get? l = some { cls := .type "tuple", dict := dd, data := .seq items n, slots := sl } ∧
      s.heap.get? b = some { cls := .type "dict", dict := dd2, data := .dict es n2, slots := sl2 } ∧ R (.ok (.ret .notImplemented)) s) :=
  .of_wp fun prog w A R s h => by
    obtain ⟨hp, g, d, tk, os⟩ := s
    obtain ⟨hl, hb, h⟩ := h
    have f1 := F.sub_dict_tuple
    wp_walk using wpAny_loadPart' hl, wpAny_loadPart' hb
    exact ⟨_, rfl, h⟩
theorem dict_eq_list (l b : Addr) (items : Array Value) (n n2 : Nat) (dd dd2 : Option Addr) (sl sl2 : Array (Option Value)) (es : Array DictEntry) (hb0 : (b == sysModules) = false) :
    Meets (Builtin.«dict.__eq__» ⟨[.ref b, .ref l], []⟩) (fun _ R s => s.heap.get? l = some { cls := .type "list", dict := dd, data := .seq items n, slots := sl } ∧
      s.heap.get? b = some { cls := .type "dict", dict := dd2, data := .dict es n2, slots := sl2 } ∧ R (.ok (.ret .notImplemented)) s) :=
  .of_wp fun prog w A R s h => by
    obtain ⟨hp, g, d, tk, os⟩ := s
    obtain ⟨hl, hb, h⟩ := h
    have f1 := F.sub_list_dict
    wp_walk using wpAny_loadPart' hl, wpAny_loadPart' hb
    exact ⟨_, rfl, h⟩
theorem dict_eq_tuple (l b : Addr) (items : Array Value) (n n2 : Nat) (dd dd2 : Option Addr) (sl sl2 : Array (Option Value)) (es : Array DictEntry) (hb0 : (b == sysModules) = false) :
    Meets (Builtin.«dict.__eq__» ⟨[.ref b, .ref l], []⟩) (fun _ R s => s.heap.get? l = some { cls := .type "tuple", dict := dd, data := .seq items n, slots := sl } ∧
      s.heap.get? b = some { cls := .type "dict", dict := dd2, data := .dict es n2, slots := sl2 } ∧ R (.ok (.ret .notImplemented)) s) :=
  .of_wp fun prog w A R s h => by
    obtain ⟨hp, g, d, tk, os⟩ := s
    obtain ⟨hl, hb, h⟩ := h
    have f1 := F.sub_tuple_dict
    wp_walk using wpAny_loadPart' hl, wpAny_loadPart' hb
    exact ⟨_, rfl, h⟩
section
variable {A : Around} {s : Shared}
open PySem.SeqAt
theorem list_dict {l b : Addr} {items : Array Value} {o : Obj} {es : Array DictEntry} {n2 : Nat} (hl : s.heap.IsList l items) (ho2 : s.heap.get? b = some o) (hc2 : o.cls = .type "dict") (hd2 : o.data = .dict es n2) (hb0 : (b == sysModules) = false)
    (hu : A.units < cLine) : EqAt A s (.ref l) (.ref b) false := by
  obtain ⟨⟨cls, dd, data, sl⟩, ho, hc, n, hd⟩ := id hl
  obtain ⟨cls2, dd2, data2, sl2⟩ := o
  simp only at hc hd hc2 hd2
  subst hc hd hc2 hd2
  have hne : l ≠ b := fun e => by
    subst e
    rw [ho] at ho2
    injection ho2 with z
    injection z with z1 _
    injection z1 with z2
    exact absurd z2 (by decide)
  refine EqAt.of_refs hne fun prog w E Q h => ?_
  exact rc_eq_decline_or (k := false) ⟨_, ho, rfl⟩ ⟨_, ho2, rfl⟩ (by decide) F.sub_dict_list F.slot_list_eq F.slot_dict_eq_refl
    (fun _ q => call_meets F.slot_list_eq ⟨_, ho, rfl⟩ F.entry_list_eq (F.args_list_eq_2 _ _) (list_eq_dict l b items n n2 dd dd2 sl sl2 es) ⟨ho, ho2, q⟩)
    (fun _ q => call_meets F.slot_dict_eq_refl ⟨_, ho2, rfl⟩ F.entry_dict_eq (F.args_dict_eq_2 _ _) (dict_eq_list l b items n n2 dd dd2 sl sl2 es hb0) ⟨ho, ho2, q⟩)
    (fun _ q => wpAny_isSame_ref_other hne ho ho2 (by simp) q) (.inr hu) h
theorem tuple_dict {l b : Addr} {items : Array Value} {o : Obj} {es : Array DictEntry} {n2 : Nat} (hl : s.heap.IsTuple l items) (ho2 : s.heap.get? b = some o) (hc2 : o.cls = .type "dict") (hd2 : o.data = .dict es n2) (hb0 : (b == sysModules) = false)
    (hu : A.units < cLine) : EqAt A s (.ref l) (.ref b) false := by
  obtain ⟨⟨cls, dd, data, sl⟩, ho, hc, n, hd⟩ := id hl
  obtain ⟨cls2, dd2, data2, sl2⟩ := o
  simp only at hc hd hc2 hd2
  subst hc hd hc2 hd2
  have hne : l ≠ b := fun e => by
    subst e
    rw [ho] at ho2
    injection ho2 with z
    injection z with z1 _
    injection z1 with z2
    exact absurd z2 (by decide)
  refine EqAt.of_refs hne fun prog w E Q h => ?_
  exact rc_eq_decline_or (k := false) ⟨_, ho, rfl⟩ ⟨_, ho2, rfl⟩ (by decide) F.sub_dict_tuple F.slot_tuple_eq F.slot_dict_eq_refl
    (fun _ q => call_meets F.slot_tuple_eq ⟨_, ho, rfl⟩ F.entry_tuple_eq (F.args_tuple_eq_2 _ _) (tuple_eq_dict l b items n n2 dd dd2 sl sl2 es) ⟨ho, ho2, q⟩)
    (fun _ q => call_meets F.slot_dict_eq_refl ⟨_, ho2, rfl⟩ F.entry_dict_eq (F.args_dict_eq_2 _ _) (dict_eq_tuple l b items n n2 dd dd2 sl sl2 es hb0) ⟨ho, ho2, q⟩)
    (fun _ q => wpAny_isSame_ref_other' hne ho ho2 (by simp) q) (.inr hu) h

/-! ### with the empty list, the empty tuple -/
theorem lists_nil {l b : Addr} {items : Array Value} (hl : s.heap.IsList l items) (hb : s.heap.IsList b #[]) (hu : A.units < cLine) : RcAt A s (.ref l) (.ref b) items.isEmpty := by
  by_cases e : items.size = 0
  · have q := RcAt.lists (e := fun _ => true) hl hb e hu (fun j h1 _ => by omega)
    rw [e] at q
    have z : items.isEmpty = true := by simpa using e
    rw [z]
    exact q
  · have z : items.isEmpty = false := by simpa using e
    rw [z]
    exact RcAt.lists_lengths hl hb (by simpa using e) hu
theorem ne_lists_nil {l b : Addr} {items : Array Value} (hl : s.heap.IsList l items) (hb : s.heap.IsList b #[]) (hu : A.units < cLine) : RcNeAt A s (.ref l) (.ref b) (!items.isEmpty) := by
  by_cases e : items.size = 0
  · have q := RcNeAt.lists (e := fun _ => true) hl hb e hu (fun j h1 _ => by omega)
    rw [e] at q
    have z : items.isEmpty = true := by simpa using e
    rw [z]
    exact q
  · have z : items.isEmpty = false := by simpa using e
    rw [z]
    exact RcNeAt.lists_lengths hl hb (by simpa using e) hu
theorem nil_lists {l b : Addr} {items : Array Value} (hl : s.heap.IsList l items) (hb : s.heap.IsList b #[]) (hu : A.units < cLine) : EqAt A s (.ref b) (.ref l) items.isEmpty := by
  by_cases hne : b = l
  · subst hne
    obtain ⟨o, h1, h2, n, h3⟩ := hl
    obtain ⟨o', k1, k2, n', k3⟩ := hb
    rw [h1] at k1; cases k1
    rw [h3] at k3; cases k3
    exact EqAt.same _
  · refine EqAt.of_refs hne ?_
    by_cases e : items.size = 0
    · have q := RcAt.lists (e := fun _ => true) hb hl e.symm hu (fun j h1 _ => by simp at h1)
      have z : items.isEmpty = true := by simpa using e
      rw [z]
      exact q
    · have z : items.isEmpty = false := by simpa using e
      rw [z]
      exact RcAt.lists_lengths hb hl (by simpa using Ne.symm e) hu
theorem nil_tuples {l b : Addr} {items : Array Value} (hl : s.heap.IsTuple l items) (hb : s.heap.IsTuple b #[]) (hu : A.units < cLine) : EqAt A s (.ref b) (.ref l) items.isEmpty := by
  by_cases hne : b = l
  · subst hne
    obtain ⟨o, h1, h2, n, h3⟩ := hl
    obtain ⟨o', k1, k2, n', k3⟩ := hb
    rw [h1] at k1; cases k1
    rw [h3] at k3; cases k3
    exact EqAt.same _
  · refine EqAt.of_refs hne ?_
    have q := RcAt.tuples (e := fun _ => true) hb hl hu (fun j h1 _ => by simp at h1)
    have z : ((List.range (min (#[] : Array Value).size items.size)).all (fun _ => true) && (#[] : Array Value).size == items.size) = items.isEmpty := by
      by_cases e : items.size = 0
      · have z : items.isEmpty = true := by simpa using e
        rw [z, e]; rfl
      · have z : items.isEmpty = false := by simpa using e
        rw [z, Bool.and_eq_false_iff]
        exact .inr (by simpa using Ne.symm e)
    rw [z] at q
    exact q
end

section
variable {X : Cx}
theorem isEmpty_vals {xs : List V} {us : List Value} (r : Vals xs us) : us.toArray.isEmpty = xs.isEmpty := by
  cases r <;> rfl
theorem vals_nil {us : List Value} (r : Vals [] us) : us = [] := by cases r; rfl
def rEqNil (K : PySem.W.Frag) : R2 := fun x y H Q => ∃ a b xs, x = .ref a ∧ y = .ref b ∧ SqL K H a xs ∧ H b = some (.lst []) ∧ Q (.bl xs.isEmpty) H
def rNeNil (K : PySem.W.Frag) : R2 := fun x y H Q => ∃ a b xs, x = .ref a ∧ y = .ref b ∧ SqL K H a xs ∧ H b = some (.lst []) ∧ Q (.bl (!xs.isEmpty)) H
theorem op_eqNil (hu : X.A.units < cLine) : OpR X (compareOp .Eq) (rEqNil X.K) := by
  intro pins s σ H x y v u Q I rx ry h
  obtain ⟨a, b, xs, rfl, rfl, ha, hb, q⟩ := h
  cases rx; cases ry
  obtain ⟨its, r, p, _⟩ := I.list ha
  obtain ⟨its2, r2, p2, _⟩ := I.list (SqL.of hb)
  cases vals_nil r2
  refine lists_nil p.isList p2.isList hu _ _ _ _ ⟨.bl _, H, I, rfl, ?_⟩
  rw [isEmpty_vals r]
  exact q
theorem op_neNil (hu : X.A.units < cLine) : OpR X (compareOp .NotEq) (rNeNil X.K) := by
  intro pins s σ H x y v u Q I rx ry h
  obtain ⟨a, b, xs, rfl, rfl, ha, hb, q⟩ := h
  cases rx; cases ry
  obtain ⟨its, r, p, _⟩ := I.list ha
  obtain ⟨its2, r2, p2, _⟩ := I.list (SqL.of hb)
  cases vals_nil r2
  refine ne_lists_nil p.isList p2.isList hu _ _ _ _ ⟨.bl _, H, I, rfl, ?_⟩
  rw [isEmpty_vals r]
  exact q

def emptyL : PyData → Bool
  | .list xs => xs.isEmpty
  | _ => false
def emptyT : PyData → Bool
  | .tuple xs => xs.isEmpty
  | _ => false
theorem isEmpty_reads {h : Heap} {us : Array Value} {ds : List PyData} {as : List Addr} (r : ReadsAll h us.toList ds as) : us.isEmpty = ds.isEmpty := by
  have q := SeqAt.ReadsAll.length _ _ _ r
  cases ds with
  | nil => simpa using q
  | cons d ds =>
    simp only [List.length_cons, Array.length_toList] at q
    simp only [List.isEmpty_cons]
    cases e : us.isEmpty with
    | false => rfl
    | true =>
      have : us.size = 0 := by simpa using e
      omega
section
open PySem.SeqAt
variable {A : Around} {s : Shared}
theorem eqAt_nilL {v : Value} {d : PyData} {as : List Addr} {b : Addr} (rd : Reads s.heap v d as) (hn : d.hasDict = true → sysModules ∉ as) (hb : s.heap.IsList b #[]) (hu : A.units < cLine) : EqAt A s (.ref b) v (emptyL d) := by
  cases rd with
  | none => exact EqAt.list_none hb hu
  | bool b => exact EqAt.list_bool _ hb hu
  | int i t => exact EqAt.list_int _ _ hb hu
  | str x t => exact EqAt.list_str _ _ hb hu
  | list h1 h2 h3 h4 =>
    have q := nil_lists ⟨_, h1, h2, _, h3⟩ hb hu
    rw [isEmpty_reads h4] at q
    exact q
  | tuple h1 h2 h3 h4 => exact EqAt.list_tuple hb ⟨_, h1, h2, _, h3⟩ hu
  | dict h1 h2 h3 h4 h5 =>
    refine list_dict hb h1 h2 h3 (beq_eq_false_iff_ne.mpr fun e => ?_) hu
    exact hn (by simp only [PyData.hasDict]) (by rw [e]; simp)
theorem eqAt_nilT {v : Value} {d : PyData} {as : List Addr} {b : Addr} (rd : Reads s.heap v d as) (hn : d.hasDict = true → sysModules ∉ as) (hb : s.heap.IsTuple b #[]) (hu : A.units < cLine) : EqAt A s (.ref b) v (emptyT d) := by
  cases rd with
  | none => exact EqAt.tuple_none hb hu
  | bool b => exact EqAt.tuple_bool _ hb hu
  | int i t => exact EqAt.tuple_int _ _ hb hu
  | str x t => exact EqAt.tuple_str _ _ hb hu
  | tuple h1 h2 h3 h4 =>
    have q := nil_tuples ⟨_, h1, h2, _, h3⟩ hb hu
    rw [isEmpty_reads h4] at q
    exact q
  | list h1 h2 h3 h4 => exact EqAt.tuple_list hb ⟨_, h1, h2, _, h3⟩ hu
  | dict h1 h2 h3 h4 h5 =>
    refine tuple_dict hb h1 h2 h3 (beq_eq_false_iff_ne.mpr fun e => ?_) hu
    exact hn (by simp only [PyData.hasDict]) (by rw [e]; simp)
end
/-- x not in [[], ()] -/
def rNotInE : R2 := fun x y H Q => ∃ d b p q, y = .ref b ∧ H b = some (.lst [.ref p, .ref q]) ∧ H p = some (.lst []) ∧ H q = some (.tup []) ∧ DD H x d ∧ Q (.bl (!(emptyL d || emptyT d))) H
theorem op_notInE (hu : X.A.units + 1 < cLine) (hn : NoSys X) : OpR X (compareOp .NotIn) rNotInE := by
  intro pins s σ H x y v u Q I rx ry h
  obtain ⟨d, b, p, q, rfl, hb, hp, hq, hd, k⟩ := h
  cases ry
  obtain ⟨as, rd, nb⟩ := DD.reads I d x v hd rx
  obtain ⟨o, ho⟩ := hn
  have hs : d.hasDict = true → sysModules ∉ as := fun _ hm => nb _ hm (I.bs _ _ (I.ok.mod.kin _ _ ho)).2
  obtain ⟨its, r, pl, _⟩ := I.list (SqL.of hb)
  obtain ⟨i1, r1, p1, _⟩ := I.list (SqL.of hp)
  obtain ⟨i2, r2, p2, _⟩ := I.tuple (SqT.of hq)
  cases vals_nil r1; cases vals_nil r2
  cases r with
  | cons e1 r =>
    cases r with
    | cons e2 r =>
      cases r
      cases e1; cases e2
      have npq : p ≠ q := ne_of hp hq (fun z => nomatch z)
      refine SeqAt.notIn_listAt (fun y => if y = .ref p then emptyL d else emptyT d) pl.isList (fun y hy => ?_) ⟨.bl _, H, I, rfl, ?_⟩
      · have hy' : y = .ref p ∨ y = .ref q := by simpa using hy
        rcases hy' with rfl | rfl
        · rw [if_pos rfl]
          exact eqAt_nilL rd hs p1.isList (by show X.A.units + 1 < cLine; exact hu)
        · rw [if_neg (fun z => npq (by injection z with z; exact z.symm))]
          exact eqAt_nilT rd hs p2 (by show X.A.units + 1 < cLine; exact hu)
      · have e : (#[Value.ref p, Value.ref q].any fun y => if y = .ref p then emptyL d else emptyT d) = (emptyL d || emptyT d) := by
          rw [← Array.any_toList]
          show ((if Value.ref p = Value.ref p then emptyL d else emptyT d) || ((if Value.ref q = Value.ref p then emptyL d else emptyT d) || false)) = _
          rw [if_pos rfl, if_neg (fun z => npq (by injection z with z; exact z.symm)), Bool.or_false]
        have e' : ([Value.ref p, Value.ref q].toArray.any fun y => if y = .ref p then emptyL d else emptyT d) = (emptyL d || emptyT d) := e
        rw [e']
        exact k
end
end MC

set_option Elab.async false
set_option linter.all false
set_option maxRecDepth 100000
set_option maxHeartbeats 4000000
namespace MC
open PySem PySem.Spec L2
open PyProof.Rows hiding St

/-! ### what is a list or a tuple, walked -/
def SqX (H : Hp) (a : Addr) (xs : List V) : Prop := H a = some (.lst xs) ∨ H a = some (.tup xs)
theorem SqX.mono {H H' : Hp} {a : Addr} {xs : List V} (e : Same H H') (h : SqX H a xs) : SqX H' a xs := h.imp (e _ _) (e _ _)
theorem SqX.inj {H : Hp} {a : Addr} {xs ys : List V} (h : SqX H a xs) (k : SqX H a ys) : xs = ys := by
  rcases h with h | h <;> rcases k with k | k <;> rw [h] at k <;> cases k <;> rfl
def iSeq (K : PySem.W.Frag) (tl : TE) : TI := fun σ H R => tl σ H fun x H1 => ∃ a, x = .ref a ∧ (((∃ xs, H1 a = some (.lst xs)) ∧ R (Itl K a) H1) ∨ ((∃ xs, H1 a = some (.tup xs)) ∧ R (Itt K a) H1))
theorem pi_seq {X : Cx} {tg l : Expr} {tl : TE} (hl : PE X l tl) : PI X tg l (iSeq X.K tl) := by
  constructor
  intro pins s σ H R I h
  refine thn (hl.run pins s σ H _ I h) fun v s1 ⟨x, H1, I1, r1, q1⟩ => ?_
  obtain ⟨a, rfl, q⟩ := q1
  cases r1
  have kept : ∀ (o : Obj), L2.Inv X pins σ H1 { s1 with heap := s1.heap.push o } := fun o => I1.kept (t' := s1.toks) fun b u e => Heap.get?_push_of_some _ e
  have fp : ∀ b ∈ [s1.heap.objs.size], FpOk X pins H1 b := fun b hb => by
    rw [List.mem_singleton.mp hb]
    exact I1.fpOk (Nat.le_refl _) (I1.hok.fresh (Nat.le_refl _))
  rcases q with ⟨⟨xs, hq⟩, q⟩ | ⟨⟨xs, hq⟩, q⟩
  · obtain ⟨its, rv, p, hz⟩ := I1.list (SqL.of hq)
    exact wpAny_pyIter_list p.isList ⟨_, _, _, _, H1, rfl, kept _, turn_list a _, ⟨_, Heap.get?_push_size _ rfl, rfl, rfl⟩, fp, q⟩
  · obtain ⟨its, rv, p, hz⟩ := I1.tuple (SqT.of hq)
    exact wpAny_pyIter_tuple (show s1.heap.IsTuple a its.toArray from p) ⟨_, _, _, _, H1, rfl, kept _, turn_tuple a _, ⟨_, Heap.get?_push_size _ rfl, rfl, rfl⟩, fp, q⟩
/-- the reading of a for over it -/
theorem for_seq {K : PySem.W.Frag} {a : Addr} {xs : List V} {g : TG} {tb : TS} {D : Ends} {σ : St} {H : Hp} (h : SqX H a xs) (Pv : Nat → St → Hp → Prop) (h0 : Pv 0 σ H) (hl : ∀ i σ' H', i ≤ xs.length → Pv i σ' H' → H' a = H a)
    (hs : ∀ i x σ H, xs[i]? = some x → Pv i σ H → g x σ H fun σ2 H2 => tb { D with nx := Pv (i + 1), ct := Pv (i + 1), bk := D.nx } σ2 H2) (hd : ∀ σ H, Pv xs.length σ H → D.nx σ H) :
    ∃ b, V.ref a = .ref b ∧ (((∃ ys, H b = some (.lst ys)) ∧ ∃ W : Nat → Nat → St → Hp → Prop, (∃ m, W 0 m σ H) ∧ ∀ i m σ H, W i m σ H →
        ((Itl K b).stop i H ∧ D.nx σ H) ∨ ((Itl K b).go i H ∧ ∃ N : St → Hp → Prop, (∀ σ' H', N σ' H' → ∃ m', m' < m ∧ W (i + 1) m' σ' H') ∧ ∀ x H', (Itl K b).yld i H x H' → g x σ H' fun σ2 H2 => tb { D with nx := N, ct := N, bk := D.nx } σ2 H2)) ∨
      ((∃ ys, H b = some (.tup ys)) ∧ ∃ W : Nat → Nat → St → Hp → Prop, (∃ m, W 0 m σ H) ∧ ∀ i m σ H, W i m σ H →
        ((Itt K b).stop i H ∧ D.nx σ H) ∨ ((Itt K b).go i H ∧ ∃ N : St → Hp → Prop, (∀ σ' H', N σ' H' → ∃ m', m' < m ∧ W (i + 1) m' σ' H') ∧ ∀ x H', (Itt K b).yld i H x H' → g x σ H' fun σ2 H2 => tb { D with nx := N, ct := N, bk := D.nx } σ2 H2))) := by
  refine ⟨a, rfl, ?_⟩
  rcases h with h | h
  · exact .inl ⟨⟨xs, h⟩, for_list (K := K) (a := a) (xs := xs) Pv h0 (fun i σ' H' hi p => SqL.of ((hl i σ' H' hi p).trans h)) hs hd⟩
  · exact .inr ⟨⟨xs, h⟩, for_tup (K := K) (a := a) (xs := xs) Pv h0 (fun i σ' H' hi p => SqT.of ((hl i σ' H' hi p).trans h)) hs hd⟩
/-- the reading of a comprehension over it -/
theorem lc_seq {K : PySem.W.Frag} {a : Addr} {xs : List V} {g : TG} {tt : TT} {te : TE} {vs : List Nat} {σ : St} {H : Hp} {Q : VK} (h : SqX H a xs) (Pv : Addr → Nat → Hp → Prop) (h0 : ∀ D, H D = none → Pv D 0 (upd H D (.lst [])))
    (hl : ∀ D i H', H D = none → i ≤ xs.length → Pv D i H' → H' a = H a)
    (hs : ∀ D i x H', H D = none → xs[i]? = some x → Pv D i H' → g x (wipe σ vs) H' fun σ2 H2 => wipe σ2 vs = wipe σ vs ∧ tt σ2 H2 fun b H3 =>
      if b = true then te σ2 H3 fun y H4 => ∃ acc, H4 D = some (.lst acc) ∧ acc.length < sizeLine ∧ Pv D (i + 1) (upd H4 D (.lst (acc ++ [y]))) else Pv D (i + 1) H3) (hd : ∀ D H', H D = none → Pv D xs.length H' → Q (.ref D) H') :
    ∃ b, V.ref a = .ref b ∧ (((∃ ys, H b = some (.lst ys)) ∧ ∀ D, H D = none → ∃ W : Nat → Nat → Hp → Prop, (∃ m, W 0 m (upd H D (.lst []))) ∧ ∀ i m H, W i m H →
        ((Itl K b).stop i H ∧ Q (.ref D) H) ∨ ((Itl K b).go i H ∧ ∃ Nx : Hp → Prop, (∀ H', Nx H' → ∃ m', m' < m ∧ W (i + 1) m' H') ∧ ∀ x H', (Itl K b).yld i H x H' → g x (wipe σ vs) H' fun σ2 H2 => wipe σ2 vs = wipe σ vs ∧ tt σ2 H2 fun b H3 =>
          if b = true then te σ2 H3 fun y H4 => ∃ acc, H4 D = some (.lst acc) ∧ acc.length < sizeLine ∧ Nx (upd H4 D (.lst (acc ++ [y]))) else Nx H3)) ∨
      ((∃ ys, H b = some (.tup ys)) ∧ ∀ D, H D = none → ∃ W : Nat → Nat → Hp → Prop, (∃ m, W 0 m (upd H D (.lst []))) ∧ ∀ i m H, W i m H →
        ((Itt K b).stop i H ∧ Q (.ref D) H) ∨ ((Itt K b).go i H ∧ ∃ Nx : Hp → Prop, (∀ H', Nx H' → ∃ m', m' < m ∧ W (i + 1) m' H') ∧ ∀ x H', (Itt K b).yld i H x H' → g x (wipe σ vs) H' fun σ2 H2 => wipe σ2 vs = wipe σ vs ∧ tt σ2 H2 fun b H3 =>
          if b = true then te σ2 H3 fun y H4 => ∃ acc, H4 D = some (.lst acc) ∧ acc.length < sizeLine ∧ Nx (upd H4 D (.lst (acc ++ [y]))) else Nx H3))) := by
  refine ⟨a, rfl, ?_⟩
  rcases h with h | h
  · exact .inl ⟨⟨xs, h⟩, fun D hD => lc_list (K := K) (a := a) (xs := xs) (Pv D) (h0 D hD) (fun i H' hi p => SqL.of ((hl D i H' hD hi p).trans h)) (fun i x H' e p => hs D i x H' hD e p) fun H' p => hd D H' hD p⟩
  · exact .inr ⟨⟨xs, h⟩, fun D hD => lc_tup (K := K) (a := a) (xs := xs) (Pv D) (h0 D hD) (fun i H' hi p => SqT.of ((hl D i H' hD hi p).trans h)) (fun i x H' e p => hs D i x H' hD e p) fun H' p => hd D H' hD p⟩
/-- the reading of a comprehension over a text -/
theorem lc_str {z : Str} {g : TG} {tt : TT} {te : TE} {vs : List Nat} {σ : St} {H1 : Hp} {D : Addr} {Qd : Hp → Prop} (Pv : Nat → Hp → Prop) (h0 : Pv 0 (upd H1 D (.lst [])))
    (hs : ∀ i c H, z.cps[i]? = some c → Pv i H → g (.str ⟨#[c]⟩) (wipe σ vs) H fun σ2 H2 => wipe σ2 vs = wipe σ vs ∧ tt σ2 H2 fun b H3 =>
      if b = true then te σ2 H3 fun y H4 => ∃ acc, H4 D = some (.lst acc) ∧ acc.length < sizeLine ∧ Pv (i + 1) (upd H4 D (.lst (acc ++ [y]))) else Pv (i + 1) H3) (hd : ∀ H, Pv z.cps.size H → Qd H) :
    ∃ W : Nat → Nat → Hp → Prop, (∃ m, W 0 m (upd H1 D (.lst []))) ∧ ∀ i m H, W i m H →
      ((Its z).stop i H ∧ Qd H) ∨ ((Its z).go i H ∧ ∃ Nx : Hp → Prop, (∀ H', Nx H' → ∃ m', m' < m ∧ W (i + 1) m' H') ∧ ∀ x H', (Its z).yld i H x H' → g x (wipe σ vs) H' fun σ2 H2 => wipe σ2 vs = wipe σ vs ∧ tt σ2 H2 fun b H3 =>
        if b = true then te σ2 H3 fun y H4 => ∃ acc, H4 D = some (.lst acc) ∧ acc.length < sizeLine ∧ Nx (upd H4 D (.lst (acc ++ [y]))) else Nx H3) := by
  refine ⟨fun i m H => m = z.cps.size - i ∧ i ≤ z.cps.size ∧ Pv i H, ⟨_, rfl, Nat.zero_le _, h0⟩, ?_⟩
  rintro i m H ⟨rfl, hi, p⟩
  by_cases lt : i < z.cps.size
  · refine .inr ⟨lt, Pv (i + 1), fun H' p' => ⟨z.cps.size - (i + 1), by omega, rfl, lt, p'⟩, ?_⟩
    rintro x H' ⟨rfl, c, e, rfl⟩
    exact hs i c _ e p
  · have e : i = z.cps.size := by omega
    subst e
    exact .inl ⟨Nat.le_refl _, hd H p⟩
end MC

set_option Elab.async false
set_option linter.all false
set_option maxRecDepth 100000
set_option maxHeartbeats 4000000
namespace MC
open PySem PySem.Spec L2
open PyProof.Rows hiding St

/-! ### isinstance of data -/
def tyD : PyData → String
  | .none => "NoneType"
  | .bool _ => "bool"
  | .int _ => "int"
  | .str _ => "str"
  | .list _ => "list"
  | .tuple _ => "tuple"
  | .dict _ => "dict"
theorem ty_of {K : PySem.W.Frag} {H : Hp} {x : V} {d : PyData} (h : DD H x d) : TyX K H x (.type (tyD d)) := by
  cases h with
  | non => exact .base .non
  | bl b => exact .base (.bl b)
  | int i => exact .base (.int i)
  | str z => exact .base (.str z)
  | lst h _ => exact .base (.lst h)
  | tup h _ => exact .base (.tup h)
  | dct0 h => exact .base (.dK h)
def dStr : PyData → Bool | .str _ => true | _ => false
def dInt : PyData → Bool | .int _ => true | .bool _ => true | _ => false
def dBool : PyData → Bool | .bool _ => true | _ => false
def dLst : PyData → Bool | .list _ => true | _ => false
def dTup : PyData → Bool | .tuple _ => true | _ => false
def dSeq : PyData → Bool | .list _ => true | .tuple _ => true | _ => false
def dDct : PyData → Bool | .dict _ => true | _ => false
def isT (b a : String) : Bool := (a == b) || (b == "int" && a == "bool")
theorem kb : ∀ a ∈ ["NoneType", "bool", "int", "str", "list", "tuple", "dict"], ∀ b ∈ ["str", "int", "bool", "list", "tuple", "dict"], kitB a b = some (isT b a) := by decide +kernel
theorem tyD_mem (d : PyData) : tyD d ∈ ["NoneType", "bool", "int", "str", "list", "tuple", "dict"] := by cases d <;> simp [tyD]
section
variable {K : PySem.W.Frag} {H : Hp} {x : V} {d : PyData} {Q : VK}
theorem kb_at (b : String) (hb : b ∈ ["str", "int", "bool", "list", "tuple", "dict"]) : PySem.W.kitOne K (.type (tyD d)) (.type b) = some (isT b (tyD d)) := kit_ty (kb _ (tyD_mem d) b hb)
theorem kI_str : PySem.W.kitOne K (.type (tyD d)) (.type "str") = some (dStr d) := (kb_at _ (by simp)).trans (by cases d <;> simp [isT, tyD, dStr])
theorem kI_int : PySem.W.kitOne K (.type (tyD d)) (.type "int") = some (dInt d) := (kb_at _ (by simp)).trans (by cases d <;> simp [isT, tyD, dInt])
theorem kI_bool : PySem.W.kitOne K (.type (tyD d)) (.type "bool") = some (dBool d) := (kb_at _ (by simp)).trans (by cases d <;> simp [isT, tyD, dBool])
theorem kI_list : PySem.W.kitOne K (.type (tyD d)) (.type "list") = some (dLst d) := (kb_at _ (by simp)).trans (by cases d <;> simp [isT, tyD, dLst])
theorem kI_tuple : PySem.W.kitOne K (.type (tyD d)) (.type "tuple") = some (dTup d) := (kb_at _ (by simp)).trans (by cases d <;> simp [isT, tyD, dTup])
theorem kI_dict : PySem.W.kitOne K (.type (tyD d)) (.type "dict") = some (dDct d) := (kb_at _ (by simp)).trans (by cases d <;> simp [isT, tyD, dDct])
theorem kit_seq : PySem.W.kitAny K (.type (tyD d)) [.type "list", .type "tuple"] = some (dSeq d) := by
  have h1 := kb_at (K := K) (d := d) "list" (by simp)
  have h2 := kb_at (K := K) (d := d) "tuple" (by simp)
  refine kitAny_cons h1 (fun e => kitAny_cons h2 (fun e2 => ?_) fun e2 => ?_) fun e => ?_
  · rw [show dSeq d = false from by cases d <;> simp [isT, tyD, dSeq] at e e2 ⊢]
    rfl
  · cases d <;> simp [isT, tyD, dSeq] at e e2 ⊢
  · cases d <;> simp [isT, tyD, dSeq] at e ⊢
theorem cl_seq : Paired ClsV [.ty "list", .ty "tuple"] [.type "list", .type "tuple"] := .cons (.ty _) (.cons (.ty _) .nil)
end

/-! ### list(text) -/
def signV (z : Str) : List V := z.cps.toList.map fun c => .str ⟨#[c]⟩
def rListText : List V → Hp → VK → Prop := fun xs H Q => ∃ z, xs = [.str z] ∧ z.length ≤ sizeLine ∧ ∀ p, H p = none → Q (.ref p) (upd H p (.lst (signV z)))
theorem call_list_text {X : Cx} (hc : X.calm = true) : CallR X (.type "list") rListText := by
  intro pins s σ H xs us Q I r h
  obtain ⟨z, rfl, hz, q⟩ := h
  obtain ⟨u, rfl, t, rfl⟩ := vals1 r
  refine call_list_str (I.ok.hd hc) z t (hn := hz) fun h' tk acc c' hk hS hacc => ?_
  have sz : acc.toList.length = z.cps.size := by rw [Array.length_toList]; exact hacc.1
  refine ⟨.ref s.heap.objs.size, _, I.laid (a := s.heap.objs.size) (o := .lst (signV z)) (h' := h') (t' := tk) hk (Nat.le_refl _) ⟨?_, acc.toList, c', ?_, by simpa using hS⟩, rfl, q _ (I.hok.fresh (Nat.le_refl _))⟩
  · show (z.cps.toList.map _).length ≤ sizeLine
    rw [List.length_map, Array.length_toList]
    exact hz
  · have main : ∀ (cs : List Nat) (vs : List Value), vs.length = cs.length → (∀ (j : Nat) v, vs[j]? = some v → ∃ c u, cs[j]? = some c ∧ v = Value.str ⟨#[c]⟩ u) → Vals (cs.map fun c => V.str ⟨#[c]⟩) vs := by
      intro cs
      induction cs with
      | nil => intro vs hl _; cases vs with
        | nil => exact .nil
        | cons _ _ => simp at hl
      | cons c cs ih => intro vs hl hv; cases vs with
        | nil => simp at hl
        | cons v vs =>
          obtain ⟨c', u, e1, e2⟩ := hv 0 v rfl
          simp at e1; subst e1; subst e2
          exact .cons ⟨u, rfl⟩ (ih vs (by simpa using hl) fun j w e => hv (j + 1) w (by simpa using e))
    refine main z.cps.toList acc.toList (by rw [sz]; simp) fun j v e => ?_
    obtain ⟨c, u, hc, rfl⟩ := hacc.2 j v (by simpa using e)
    exact ⟨c, u, by simpa using hc, rfl⟩

/-! ### the rules with the written part told (within a comprehension's block, too) -/
section
variable {X : Cx} {K : PySem.W.Frag} (hK : X.K = K)
include hK
theorem k_ix_list : IxR X (rIxL K) := by subst hK; exact ix_list
theorem k_ix_tup : IxR X (rIxT K) := by subst hK; exact ix_tup
theorem k_ix_seq : IxR X (rIx K) := by subst hK; exact ix_seq
theorem k_sl_list : SlR X (rSlL K) := by subst hK; exact sl_list
def rLenQ (K : PySem.W.Frag) : List V → Hp → VK → Prop := fun xs H Q => ∃ p ys, xs = [.ref p] ∧ (SqL K H p ys ∨ SqT K H p ys) ∧ Q (.int ys.length) H
omit hK in
def rLenZ : List V → Hp → VK → Prop := fun xs H Q => ∃ z, xs = [.str z] ∧ z.length ≤ sizeLine ∧ Q (.int z.length) H
theorem k_len_seq : CallR X (.builtin "len") (rLenQ K) := by subst hK; exact call_len_seq
theorem k_len_str : CallR X (.builtin "len") rLenZ := call_len_str
def rListOf (K : PySem.W.Frag) : List V → Hp → VK → Prop := fun xs H Q => ∃ p ys, xs = [.ref p] ∧ (SqL K H p ys ∨ SqT K H p ys) ∧ ∀ l, H l = none → Q (.ref l) (upd H l (.lst ys))
theorem k_list_of : CallR X (.type "list") (rListOf K) := by subst hK; exact call_list_of
def rTupleOf (K : PySem.W.Frag) : List V → Hp → VK → Prop := fun xs H Q => ∃ p ys, xs = [.ref p] ∧ ((SqL K H p ys ∧ ∀ l, H l = none → Q (.ref l) (upd H l (.tup ys))) ∨ (SqT K H p ys ∧ Q (.ref p) H))
theorem k_tuple_of : CallR X (.type "tuple") (rTupleOf K) := by subst hK; exact call_tuple_of
theorem k_isi : CallR X (.builtin "isinstance") (rIsi K) := by subst hK; exact call_isi
theorem k_isiT : CallR X (.builtin "isinstance") (rIsiT K) := by subst hK; exact call_isiT
theorem k_all (hc : X.calm = true) : CallR X (.builtin "all") (rAll K) := by subst hK; exact cr_all hc
theorem k_any (hc : X.calm = true) : CallR X (.builtin "any") (rAny K) := by subst hK; exact cr_any hc
theorem k_sum (hc : X.calm = true) : CallR X (.builtin "sum") (rSum K) := by subst hK; exact cr_sum hc
theorem k_max (hc : X.calm = true) : CallR X (.builtin "max") (rMax K) := by subst hK; exact cr_max hc
theorem k_min (hc : X.calm = true) : CallR X (.builtin "min") (rMin K) := by subst hK; exact cr_min hc
theorem k_eqNil (hu : X.A.units < cLine) : OpR X (compareOp .Eq) (rEqNil K) := by subst hK; exact op_eqNil hu
theorem k_neNil (hu : X.A.units < cLine) : OpR X (compareOp .NotEq) (rNeNil K) := by subst hK; exact op_neNil hu
theorem k_in_seq : OpR X (compareOp .In) (rIn K false) := by subst hK; exact op_in_seq
theorem k_notIn_seq : OpR X (compareOp .NotIn) (rIn K true) := by subst hK; exact op_notIn_seq
theorem k_list {tg l : Expr} {tl : TE} (hl : PE X l tl) : PI X tg l (iList K tl) := by subst hK; exact pi_list hl
theorem k_seq {tg l : Expr} {tl : TE} (hl : PE X l tl) : PI X tg l (iSeq K tl) := by subst hK; exact pi_seq hl
theorem k_bm {T : String} {r : V → List V → Hp → VK → Prop} {e : Expr} {to : TE} {t : TA} (h : PE X e (tBM X.K T r to t)) : PE X e (tBM K T r to t) := by subst hK; exact h
theorem k_bm0 {T : String} {r : V → List V → Hp → VK → Prop} {e : Expr} {to : TE} (h : PE X e (tBM0 X.K T r to)) : PE X e (tBM0 K T r to) := by subst hK; exact h
end
end MC

set_option Elab.async false
set_option linter.all false
set_option maxRecDepth 100000
set_option maxHeartbeats 4000000
/-! MD: rows as data: what a thing is, what a row is, sizes. -/
namespace MC
open PySem PySem.Spec L2
open PyProof.Rows hiding St

def isSign (c : Nat) : Bool := decide (97 ≤ c) && decide (c ≤ 122)
def isThingS (z : Str) : Bool := decide (1 ≤ z.length) && decide (z.length ≤ 8) && z.cps.toList.all isSign
def thingD : PyData → Bool
  | .str z => isThingS z
  | _ => false
def wholeD : PyData → Bool
  | .int _ => true
  | _ => false
def timesOk (t : Int) : Bool := decide (1 ≤ t) && decide (t ≤ 1000000000000000000000000000000)
def dNil : PyData → Bool
  | .list [] => true
  | .tuple [] => true
  | _ => false
mutual
def rowD : PyData → Bool
  | .list xs => partsD xs
  | .tuple xs => partsD xs
  | _ => false
def partD : PyData → Bool
  | .str z => isThingS z
  | .tuple [r, .int t] => timesOk t && !dNil r && rowD r
  | _ => false
def partsD : List PyData → Bool
  | [] => true
  | x :: xs => partD x && partsD xs
end
/-- looks like an again, but for what its row is made of -/
def againD : PyData → Bool
  | .tuple [r, .int t] => dSeq r && !dNil r && timesOk t
  | _ => false
def innerD : PyData → PyData
  | .tuple [r, _] => r
  | d => d
theorem rowD_seq {d : PyData} (h : dSeq d = false) : rowD d = false := by
  cases d <;> first | rfl | cases h
theorem partD_eq (d : PyData) : partD d = (if againD d then rowD (innerD d) else thingD d) := by
  unfold partD
  split
  · rename_i z
    rfl
  · rename_i r t
    have e : againD (.tuple [r, .int t]) = (dSeq r && !dNil r && timesOk t) := rfl
    rw [e]
    show (timesOk t && !dNil r && rowD r) = if (dSeq r && !dNil r && timesOk t) = true then rowD r else false
    by_cases h : dSeq r = true
    · rw [h]; cases timesOk t <;> cases dNil r <;> simp
    · have h : dSeq r = false := by simpa using h
      rw [rowD_seq h, h]; simp
  · rename_i h1 h2
    have : againD d = false := by
      unfold againD
      split
      · exact absurd rfl (h2 _ _)
      · rfl
    rw [this]
    cases d <;> first | rfl | exact absurd rfl (h1 _)
theorem partsD_eq (xs : List PyData) : partsD xs = xs.all partD := by
  induction xs with
  | nil => rfl
  | cons x xs ih => simp only [partsD, List.all_cons, ih]

def elemsD : PyData → List PyData
  | .list xs => xs
  | .tuple xs => xs
  | _ => []
theorem DD.seq {H : Hp} {x : V} {d : PyData} (h : DD H x d) (k : dSeq d = true) : ∃ a xs, x = .ref a ∧ SqX H a xs ∧ DDs H xs (elemsD d) := by
  cases h with
  | lst ha hs => exact ⟨_, _, rfl, .inl ha, hs⟩
  | tup ha hs => exact ⟨_, _, rfl, .inr ha, hs⟩
  | _ => cases k
theorem rowD_elems {d : PyData} (k : dSeq d = true) : rowD d = partsD (elemsD d) := by
  cases d <;> first | rfl | cases k
theorem dNil_elems {d : PyData} (k : dSeq d = true) : dNil d = (elemsD d).isEmpty := by
  cases d with
  | list xs => cases xs <;> rfl
  | tuple xs => cases xs <;> rfl
  | _ => cases k
theorem SqX.lt {K : PySem.W.Frag} {H : Hp} {a : Addr} {xs : List V} (h : SqX H a xs) : SqL K H a xs ∨ SqT K H a xs := h.imp SqL.of SqT.of

/-! ### sizes -/
mutual
/-- how many nodes -/
def wD : PyData → Nat
  | .list xs => 1 + wDs xs
  | .tuple xs => 1 + wDs xs
  | _ => 1
def wDs : List PyData → Nat
  | [] => 0
  | x :: xs => wD x + wDs xs
end
mutual
/-- its leaves are small, its dicts empty -/
def okD : PyData → Bool
  | .none => true
  | .bool _ => true
  | .int i => decide (i.natAbs < 10 ^ 40)
  | .str z => decide (z.length ≤ 9) && z.cps.toList.all fun c => decide (c < 16 ^ 8)
  | .list xs => oksD xs
  | .tuple xs => oksD xs
  | .dict kvs => kvs.isEmpty
def oksD : List PyData → Bool
  | [] => true
  | x :: xs => okD x && oksD xs
end
theorem wD_pos (d : PyData) : 1 ≤ wD d := by cases d <;> simp only [wD] <;> omega
theorem wDs_append (xs ys : List PyData) : wDs (xs ++ ys) = wDs xs + wDs ys := by
  induction xs with
  | nil => simp [wDs]
  | cons x xs ih => simp only [List.cons_append, wDs, ih]; omega
theorem oksD_append (xs ys : List PyData) : oksD (xs ++ ys) = (oksD xs && oksD ys) := by
  induction xs with
  | nil => simp [oksD]
  | cons x xs ih => simp only [List.cons_append, oksD, ih, Bool.and_assoc]
theorem oksD_all (xs : List PyData) : oksD xs = xs.all okD := by
  induction xs with
  | nil => rfl
  | cons x xs ih => simp only [oksD, List.all_cons, ih]
theorem oksD_get {xs : List PyData} (h : oksD xs = true) {i : Nat} {d : PyData} (e : xs[i]? = some d) : okD d = true := by
  rw [oksD_all, List.all_eq_true] at h
  exact h d (List.mem_of_getElem? e)
theorem wD_le {xs : List PyData} {i : Nat} {d : PyData} (e : xs[i]? = some d) : wD d ≤ wDs xs := by
  induction xs generalizing i with
  | nil => simp at e
  | cons x xs ih =>
    simp only [wDs]
    cases i with
    | zero => simp at e; subst e; omega
    | succ i => have := ih (i := i) (by simpa using e); omega
theorem len_wDs (xs : List PyData) : xs.length ≤ wDs xs := by
  induction xs with
  | nil => simp [wDs]
  | cons x xs ih => simp only [List.length_cons, wDs]; have := wD_pos x; omega
theorem depthAll_append (xs ys : List PyData) : PyData.depthAll (xs ++ ys) = max (PyData.depthAll xs) (PyData.depthAll ys) := by
  induction xs with
  | nil => simp [PyData.depthAll]
  | cons x xs ih => simp only [List.cons_append, PyData.depthAll, ih]; omega
theorem depth_le {xs : List PyData} {i : Nat} {d : PyData} (e : xs[i]? = some d) : d.depth ≤ PyData.depthAll xs := by
  induction xs generalizing i with
  | nil => simp at e
  | cons x xs ih =>
    simp only [PyData.depthAll]
    cases i with
    | zero => simp at e; subst e; omega
    | succ i => have := ih (i := i) (by simpa using e); omega
mutual
theorem okD_showable : ∀ d : PyData, okD d = true → d.showable = true
  | .none, _ => by simp only [PyData.showable]
  | .bool _, _ => by simp only [PyData.showable]
  | .str _, _ => by simp only [PyData.showable]
  | .int i, h => by
    simp only [okD, decide_eq_true_eq] at h
    simp only [PyData.showable, decide_eq_true_eq]
    exact PySem.Spec.log2_small (Nat.lt_of_lt_of_le h (by decide))
  | .list xs, h => by
    simp only [okD] at h
    simp only [PyData.showable]
    exact oksD_showable xs h
  | .tuple xs, h => by
    simp only [okD] at h
    simp only [PyData.showable]
    exact oksD_showable xs h
  | .dict kvs, h => by
    simp only [okD, List.isEmpty_iff] at h
    subst h
    simp only [PyData.showable, PyData.showableKv]
theorem oksD_showable : ∀ xs : List PyData, oksD xs = true → PyData.showableAll xs = true
  | [], _ => by simp only [PyData.showableAll]
  | x :: xs, h => by
    simp only [oksD, Bool.and_eq_true] at h
    simp only [PyData.showableAll, Bool.and_eq_true]
    exact ⟨okD_showable x h.1, oksD_showable xs h.2⟩
end
theorem int_shown_le {i : Int} (h : i.natAbs < 10 ^ 40) : (PyData.shown (.int i)).length ≤ 50 := by
  have e := int_text_length_le10 (k := 40) (by decide) h
  show (Str.ofString (toString i)).length ≤ 50
  rw [PySem.ofString_length]
  exact Nat.le_trans e (by decide)
mutual
theorem okD_short : ∀ d : PyData, okD d = true → d.leavesShort 50 = true
  | .none, _ => by simp only [PyData.leavesShort]
  | .bool _, _ => by simp only [PyData.leavesShort]
  | .str z, h => by
    simp only [okD, Bool.and_eq_true] at h
    simp only [PyData.leavesShort]
    exact h.2
  | .int i, h => by
    simp only [okD, decide_eq_true_eq] at h
    simp only [PyData.leavesShort, decide_eq_true_eq]
    exact int_shown_le h
  | .list xs, h => by
    simp only [okD] at h
    simp only [PyData.leavesShort]
    exact oksD_short xs h
  | .tuple xs, h => by
    simp only [okD] at h
    simp only [PyData.leavesShort]
    exact oksD_short xs h
  | .dict kvs, h => by
    simp only [okD, List.isEmpty_iff] at h
    subst h
    simp only [PyData.leavesShort, PyData.leavesShortKv]
theorem oksD_short : ∀ xs : List PyData, oksD xs = true → PyData.leavesShortAll 50 xs = true
  | [], _ => by simp only [PyData.leavesShortAll]
  | x :: xs, h => by
    simp only [oksD, Bool.and_eq_true] at h
    simp only [PyData.leavesShortAll, Bool.and_eq_true]
    exact ⟨okD_short x h.1, oksD_short xs h.2⟩
end
mutual
theorem weight_le : ∀ d : PyData, okD d = true → d.weight + 1 ≤ 140 * wD d
  | .none, _ => by simp only [PyData.weight, wD]; omega
  | .bool _, _ => by simp only [PyData.weight, wD]; omega
  | .str z, h => by
    simp only [okD, Bool.and_eq_true, decide_eq_true_eq] at h
    have h1 : z.cps.size ≤ 9 := h.1
    simp only [PyData.weight, wD]; omega
  | .int i, h => by
    simp only [okD, decide_eq_true_eq] at h
    simp only [PyData.weight, wD]
    split
    · omega
    · rename_i h0
      have h1 : i.natAbs ≠ 0 := by
        intro z
        apply h0
        simpa using z
      have h2 : i.natAbs.log2 < 133 := (Nat.log2_lt h1).mpr (Nat.lt_of_lt_of_le h (by decide))
      omega
  | .list xs, h => by
    simp only [okD] at h
    have := weights_le xs h
    simp only [PyData.weight, wD]; omega
  | .tuple xs, h => by
    simp only [okD] at h
    have := weights_le xs h
    simp only [PyData.weight, wD]; omega
  | .dict kvs, h => by
    simp only [okD, List.isEmpty_iff] at h
    subst h
    simp only [PyData.weight, PyData.weightKv, wD]; omega
theorem weights_le : ∀ xs : List PyData, oksD xs = true → PyData.weightAll xs ≤ 140 * wDs xs
  | [], _ => by simp only [PyData.weightAll]; omega
  | x :: xs, h => by
    simp only [oksD, Bool.and_eq_true] at h
    have h1 := weight_le x h.1
    have h2 := weights_le xs h.2
    simp only [PyData.weightAll, wDs]; omega
end
theorem shown_fits {d : PyData} (h : okD d = true) (hw : wD d ≤ 2000) : d.shown.length ≤ sizeLine := by
  have h1 := PyData.shown_le 50 (by decide) d (okD_short d h)
  have h2 := weight_le d h
  have h3 : d.weight ≤ 140 * 2000 := by omega
  exact Nat.le_trans h1 (Nat.le_trans (Nat.add_le_add_right (Nat.mul_le_mul_left _ h3) _) (by decide))
theorem okD_elems {d : PyData} (h : okD d = true) : oksD (elemsD d) = true := by
  cases d <;> first | rfl | (simp only [okD] at h; exact h)
theorem wD_elems (d : PyData) : wDs (elemsD d) ≤ wD d := by
  cases d <;> simp only [elemsD, wD, wDs] <;> omega
theorem depth_elems {d : PyData} (k : dSeq d = true) : d.depth = PyData.depthAll (elemsD d) + 1 := by
  cases d <;> first | (simp only [PyData.depth, elemsD]; done) | cases k
end MC

set_option Elab.async false
set_option linter.all false
set_option maxRecDepth 100000
set_option maxHeartbeats 4000000
namespace MC
open PySem PySem.Spec L2
open PyProof.Rows hiding St
theorem low_tab : ∀ c < 128, (Unicode.isAlpha c && (Unicode.lowerOf c == [c])) = isSign c := by decide +kernel
theorem low_one : ∀ c < 128, (Unicode.lowerOf c).length = 1 := by decide +kernel
theorem lowerAt_ascii {s : Array Nat} {i c : Nat} (h : s[i]? = some c) (hc : c < 128) : Unicode.lowerAt s i = Unicode.lowerOf c := by
  unfold Unicode.lowerAt
  rw [h]
  have : (c == 0x3A3) = false := by simp; omega
  simp [this]
theorem lower_list (x : Str) (h : Txt.isascii x = true) : (Txt.lower x).cps.toList = x.cps.toList.flatMap Unicode.lowerOf := by
  have hh : ∀ (i : Nat) (c : Nat), x.cps[i]? = some c → c < 128 := by
    intro i c e
    unfold Txt.isascii at h
    rw [Array.all_eq_true'] at h
    have := h c (Array.mem_of_getElem? e)
    simpa using this
  show (placed x fun i _ => Unicode.lowerAt x.cps i).toList = _
  unfold placed
  rw [Array.toList_flatten, Array.toList_mapIdx, List.flatMap_def]
  congr 1
  apply List.ext_getElem
  · simp
  · intro n h1 h2
    simp at h1 h2 ⊢
    exact lowerAt_ascii (by simp [h1]) (hh n _ (by simp [h1]))
theorem flat_eq (l : List Nat) (h : ∀ c ∈ l, (Unicode.lowerOf c).length = 1) : l.flatMap Unicode.lowerOf = l ↔ ∀ c ∈ l, Unicode.lowerOf c = [c] := by
  induction l with
  | nil => simp
  | cons c l ih =>
    have h1 := h c (by simp)
    obtain ⟨d, hd⟩ := List.length_eq_one_iff.mp h1
    rw [List.flatMap_cons, hd]
    have ih := ih fun c hc => h c (by simp [hc])
    simp [ih, hd]
theorem small_look (x : Str) : (decide (x = Str.empty) || (Txt.isascii x && (Txt.isalpha x && decide (x = Txt.lower x)))) = x.cps.toList.all isSign := by
  have ext : ∀ a b : Str, a.cps.toList = b.cps.toList → a = b := by
    rintro ⟨a⟩ ⟨b⟩ h
    simp only [Str.mk.injEq]
    exact Array.toList_inj.mp h
  by_cases h0 : x = Str.empty
  · subst h0
    simp [Str.empty]
  have hpos : 0 < x.length := by
    rcases Nat.eq_zero_or_pos x.length with h | h
    · refine absurd (ext _ _ ?_) h0
      have : x.cps.size = 0 := h
      simp [Str.empty]
      exact Array.size_eq_zero_iff.mp this
    · exact h
  rw [decide_eq_false h0, Bool.false_or]
  by_cases ha : Txt.isascii x = true
  · have hh : ∀ c ∈ x.cps.toList, c < 128 := by
      intro c hc
      unfold Txt.isascii at ha
      rw [Array.all_eq_true'] at ha
      simpa using ha c (by simpa using hc)
    have hl : decide (x = Txt.lower x) = x.cps.toList.all fun c => Unicode.lowerOf c == [c] := by
      have f := flat_eq x.cps.toList fun c hc => low_one c (hh c hc)
      rw [← lower_list x ha] at f
      rw [Bool.eq_iff_iff, decide_eq_true_eq, List.all_eq_true]
      constructor
      · intro e c hc
        have := f.mp (congrArg (fun z : Str => z.cps.toList) e.symm) c hc
        simpa using this
      · intro e
        exact ext _ _ (f.mpr fun c hc => by simpa using e c hc).symm
    have hal : Txt.isalpha x = x.cps.toList.all Unicode.isAlpha := by
      unfold Txt.isalpha
      rw [decide_eq_true hpos, Bool.true_and, ← Array.all_toList]
    rw [ha, hl, hal, Bool.true_and]
    generalize x.cps.toList = l at hh
    induction l with
    | nil => rfl
    | cons c l ih =>
      have h1 := low_tab c (hh c (by simp))
      have h2 := ih fun c hc => hh c (by simp [hc])
      simp only [List.all_cons, ← h1, ← h2]
      cases Unicode.isAlpha c <;> cases Unicode.lowerOf c == [c] <;> simp
  · have : Txt.isascii x = false := by simpa using ha
    rw [this, Bool.false_and, eq_comm, List.all_eq_false]
    unfold Txt.isascii at this
    rw [← Array.all_toList, List.all_eq_false] at this
    obtain ⟨c, hc, e⟩ := this
    refine ⟨c, hc, ?_⟩
    simp at e
    simp [isSign]; omega

/-- the reading of a dict comprehension over any iterator -/
theorem dc_it {J : It} {n : Nat} {G : Hp → Prop} {Y : Nat → Hp → V → Hp → Prop} (w : Walk J n G Y) {g : TG} {tt : TT} {tk tv : TE} {vs : List Nat} {σ : St} {H1 : Hp} {D : Addr} {Qd : Hp → Prop} (Pv : Nat → Hp → Prop) (h0 : Pv 0 (upd H1 D (.dK []))) (hG : ∀ i H, i ≤ n → Pv i H → G H)
    (hs : ∀ i x H H', i < n → Pv i H → Y i H x H' → g x (wipe σ vs) H' fun σ2 H2 => wipe σ2 vs = wipe σ vs ∧ tt σ2 H2 fun b H3 =>
      if b = true then tk σ2 H3 fun y H4 => tv σ2 H4 fun z H5 => ∃ kvs k, y = kV k ∧ H5 D = some (.dK kvs) ∧ kvs.length < sizeLine ∧ Pv (i + 1) (upd H5 D (.dK (putK kvs k z))) else Pv (i + 1) H3) (hd : ∀ H, Pv n H → Qd H) :
    ∃ W : Nat → Nat → Hp → Prop, (∃ m, W 0 m (upd H1 D (.dK []))) ∧ ∀ i m H, W i m H →
      (J.stop i H ∧ Qd H) ∨ (J.go i H ∧ ∃ Nx : Hp → Prop, (∀ H', Nx H' → ∃ m', m' < m ∧ W (i + 1) m' H') ∧ ∀ x H', J.yld i H x H' → g x (wipe σ vs) H' fun σ2 H2 => wipe σ2 vs = wipe σ vs ∧ tt σ2 H2 fun b H3 =>
        if b = true then tk σ2 H3 fun y H4 => tv σ2 H4 fun z H5 => ∃ kvs k, y = kV k ∧ H5 D = some (.dK kvs) ∧ kvs.length < sizeLine ∧ Nx (upd H5 D (.dK (putK kvs k z))) else Nx H3) := by
  refine ⟨fun i m H => m = n - i ∧ i ≤ n ∧ Pv i H, ⟨n, by simp, Nat.zero_le _, h0⟩, ?_⟩
  rintro i m H ⟨rfl, hi, p⟩
  have q := hG i H hi p
  by_cases hlt : i < n
  · refine .inr ⟨w.goes i H hlt q, Pv (i + 1), fun H' p' => ⟨n - (i + 1), by omega, rfl, hlt, p'⟩, fun x H' y => hs i x H H' hlt p (w.yields i H x H' hlt q y)⟩
  · have e : i = n := by omega
    subst e
    exact .inl ⟨w.stops H q, hd H p⟩
/-- .. over what is a list or a tuple -/
theorem dc_seqD {K : PySem.W.Frag} {a : Addr} {xs : List V} {g : TG} {tt : TT} {tk tv : TE} {vs : List Nat} {σ : St} {H : Hp} {Qd : Addr → Hp → Prop} (h : SqX H a xs) (Pv : Addr → Nat → Hp → Prop) (h0 : ∀ D, H D = none → Pv D 0 (upd H D (.dK [])))
    (hl : ∀ D i H', H D = none → i ≤ xs.length → Pv D i H' → H' a = H a)
    (hs : ∀ D i x H', H D = none → xs[i]? = some x → Pv D i H' → g x (wipe σ vs) H' fun σ2 H2 => wipe σ2 vs = wipe σ vs ∧ tt σ2 H2 fun b H3 =>
      if b = true then tk σ2 H3 fun y H4 => tv σ2 H4 fun z H5 => ∃ kvs k, y = kV k ∧ H5 D = some (.dK kvs) ∧ kvs.length < sizeLine ∧ Pv D (i + 1) (upd H5 D (.dK (putK kvs k z))) else Pv D (i + 1) H3) (hd : ∀ D H', H D = none → Pv D xs.length H' → Qd D H') :
    ∃ b, V.ref a = .ref b ∧ (((∃ ys, H b = some (.lst ys)) ∧ ∀ D, H D = none → ∃ W : Nat → Nat → Hp → Prop, (∃ m, W 0 m (upd H D (.dK []))) ∧ ∀ i m H, W i m H →
        ((Itl K b).stop i H ∧ Qd D H) ∨ ((Itl K b).go i H ∧ ∃ Nx : Hp → Prop, (∀ H', Nx H' → ∃ m', m' < m ∧ W (i + 1) m' H') ∧ ∀ x H', (Itl K b).yld i H x H' → g x (wipe σ vs) H' fun σ2 H2 => wipe σ2 vs = wipe σ vs ∧ tt σ2 H2 fun b H3 =>
          if b = true then tk σ2 H3 fun y H4 => tv σ2 H4 fun z H5 => ∃ kvs k, y = kV k ∧ H5 D = some (.dK kvs) ∧ kvs.length < sizeLine ∧ Nx (upd H5 D (.dK (putK kvs k z))) else Nx H3)) ∨
      ((∃ ys, H b = some (.tup ys)) ∧ ∀ D, H D = none → ∃ W : Nat → Nat → Hp → Prop, (∃ m, W 0 m (upd H D (.dK []))) ∧ ∀ i m H, W i m H →
        ((Itt K b).stop i H ∧ Qd D H) ∨ ((Itt K b).go i H ∧ ∃ Nx : Hp → Prop, (∀ H', Nx H' → ∃ m', m' < m ∧ W (i + 1) m' H') ∧ ∀ x H', (Itt K b).yld i H x H' → g x (wipe σ vs) H' fun σ2 H2 => wipe σ2 vs = wipe σ vs ∧ tt σ2 H2 fun b H3 =>
          if b = true then tk σ2 H3 fun y H4 => tv σ2 H4 fun z H5 => ∃ kvs k, y = kV k ∧ H5 D = some (.dK kvs) ∧ kvs.length < sizeLine ∧ Nx (upd H5 D (.dK (putK kvs k z))) else Nx H3))) := by
  refine ⟨a, rfl, ?_⟩
  rcases h with h | h
  · refine .inl ⟨⟨xs, h⟩, fun D hD => dc_it (walk_list (K := K) (a := a) (xs := xs)) (Pv D) (h0 D hD) (fun i H' hi p => SqL.of ((hl D i H' hD hi p).trans h)) ?_ fun H' p => hd D H' hD p⟩
    rintro i x H' _ _ p ⟨rfl, e⟩
    exact hs D i x _ hD e p
  · refine .inr ⟨⟨xs, h⟩, fun D hD => dc_it (walk_tup (K := K) (a := a) (xs := xs)) (Pv D) (h0 D hD) (fun i H' hi p => SqT.of ((hl D i H' hD hi p).trans h)) ?_ fun H' p => hd D H' hD p⟩
    rintro i x H' _ _ p ⟨rfl, e⟩
    exact hs D i x _ hD e p

/-- the reading of a comprehension over it -/
theorem lc_seqD {K : PySem.W.Frag} {a : Addr} {xs : List V} {g : TG} {tt : TT} {te : TE} {vs : List Nat} {σ : St} {H : Hp} {Qd : Addr → Hp → Prop} (h : SqX H a xs) (Pv : Addr → Nat → Hp → Prop) (h0 : ∀ D, H D = none → Pv D 0 (upd H D (.lst [])))
    (hl : ∀ D i H', H D = none → i ≤ xs.length → Pv D i H' → H' a = H a)
    (hs : ∀ D i x H', H D = none → xs[i]? = some x → Pv D i H' → g x (wipe σ vs) H' fun σ2 H2 => wipe σ2 vs = wipe σ vs ∧ tt σ2 H2 fun b H3 =>
      if b = true then te σ2 H3 fun y H4 => ∃ acc, H4 D = some (.lst acc) ∧ acc.length < sizeLine ∧ Pv D (i + 1) (upd H4 D (.lst (acc ++ [y]))) else Pv D (i + 1) H3) (hd : ∀ D H', H D = none → Pv D xs.length H' → Qd D H') :
    ∃ b, V.ref a = .ref b ∧ (((∃ ys, H b = some (.lst ys)) ∧ ∀ D, H D = none → ∃ W : Nat → Nat → Hp → Prop, (∃ m, W 0 m (upd H D (.lst []))) ∧ ∀ i m H, W i m H →
        ((Itl K b).stop i H ∧ Qd D H) ∨ ((Itl K b).go i H ∧ ∃ Nx : Hp → Prop, (∀ H', Nx H' → ∃ m', m' < m ∧ W (i + 1) m' H') ∧ ∀ x H', (Itl K b).yld i H x H' → g x (wipe σ vs) H' fun σ2 H2 => wipe σ2 vs = wipe σ vs ∧ tt σ2 H2 fun b H3 =>
          if b = true then te σ2 H3 fun y H4 => ∃ acc, H4 D = some (.lst acc) ∧ acc.length < sizeLine ∧ Nx (upd H4 D (.lst (acc ++ [y]))) else Nx H3)) ∨
      ((∃ ys, H b = some (.tup ys)) ∧ ∀ D, H D = none → ∃ W : Nat → Nat → Hp → Prop, (∃ m, W 0 m (upd H D (.lst []))) ∧ ∀ i m H, W i m H →
        ((Itt K b).stop i H ∧ Qd D H) ∨ ((Itt K b).go i H ∧ ∃ Nx : Hp → Prop, (∀ H', Nx H' → ∃ m', m' < m ∧ W (i + 1) m' H') ∧ ∀ x H', (Itt K b).yld i H x H' → g x (wipe σ vs) H' fun σ2 H2 => wipe σ2 vs = wipe σ vs ∧ tt σ2 H2 fun b H3 =>
          if b = true then te σ2 H3 fun y H4 => ∃ acc, H4 D = some (.lst acc) ∧ acc.length < sizeLine ∧ Nx (upd H4 D (.lst (acc ++ [y]))) else Nx H3))) := by
  refine ⟨a, rfl, ?_⟩
  rcases h with h | h
  · exact .inl ⟨⟨xs, h⟩, fun D hD => lc_list (K := K) (a := a) (xs := xs) (Pv D) (h0 D hD) (fun i H' hi p => SqL.of ((hl D i H' hD hi p).trans h)) (fun i x H' e p => hs D i x H' hD e p) fun H' p => hd D H' hD p⟩
  · exact .inr ⟨⟨xs, h⟩, fun D hD => lc_tup (K := K) (a := a) (xs := xs) (Pv D) (h0 D hD) (fun i H' hi p => SqT.of ((hl D i H' hD hi p).trans h)) (fun i x H' e p => hs D i x H' hD e p) fun H' p => hd D H' hD p⟩
/-! ### dicts whose keys are texts, as sets -/
def setK (zs : List Str) : List (Key × V) := zs.map fun z => (Sum.inr z, V.bl true)
theorem setK_put (zs : List Str) (z : Str) : putK (setK zs) (Sum.inr z) (.bl true) = setK (if z ∈ zs then zs else zs ++ [z]) := by
  unfold putK setK
  by_cases h : z ∈ zs
  · have : (List.map (fun z => ((Sum.inr z : Key), V.bl true)) zs).any (fun kv => decide (kv.1 = Sum.inr z)) = true := by
      rw [List.any_eq_true]
      exact ⟨(Sum.inr z, .bl true), by simp [h], by simp⟩
    rw [if_pos this, if_pos h, List.map_map]
    refine List.map_congr_left fun y hy => ?_
    by_cases e : y = z
    · subst e; simp
    · simp
  · have : (List.map (fun z => ((Sum.inr z : Key), V.bl true)) zs).any (fun kv => decide (kv.1 = Sum.inr z)) = false := by
      rw [List.any_eq_false]
      rintro ⟨k, v⟩ hk
      simp only [List.mem_map, Prod.mk.injEq] at hk
      obtain ⟨y, hy, rfl, rfl⟩ := hk
      simp only [decide_eq_true_eq, Sum.inr.injEq]
      rintro rfl
      exact h hy
    rw [if_neg (by simp [this]), if_neg h]
    simp
theorem joined_all (zs : List Str) (p : Nat → Bool) : (Str.join Str.empty zs).cps.toList.all p = zs.all fun z => z.cps.toList.all p := by
  have h := TL.tl_join Str.empty zs
  have e : ∀ l : List (List Nat), (TL.joinL [] l).all p = l.all fun c => c.all p := by
    intro l
    induction l with
    | nil => rfl
    | cons c l ih =>
      cases l with
      | nil => simp [TL.joinL]
      | cons d l => simp only [TL.joinL, List.nil_append, List.all_append, List.all_cons] at ih ⊢; rw [ih]
  have h2 : (Str.join Str.empty zs).cps.toList = TL.joinL [] (zs.map TL.tl) := h
  rw [h2, e, List.all_map]
  rfl
theorem joined_len (zs : List Str) : (Str.join Str.empty zs).length = (zs.map (·.length)).sum := by
  have h := TL.tl_join Str.empty zs
  have e : ∀ l : List (List Nat), (TL.joinL [] l).length = (l.map (·.length)).sum := by
    intro l
    induction l with
    | nil => rfl
    | cons c l ih =>
      cases l with
      | nil => simp [TL.joinL]
      | cons d l => simp only [TL.joinL, List.nil_append, List.length_append, List.map_cons, List.sum_cons] at ih ⊢; rw [ih]
  have h2 : (Str.join Str.empty zs).cps.toList = TL.joinL [] (zs.map TL.tl) := h
  have h3 : (Str.join Str.empty zs).length = (Str.join Str.empty zs).cps.toList.length := by simp [Str.length]
  rw [h3, h2, e, List.map_map]
  congr 1
theorem k_tup {X : Cx} {K : PySem.W.Frag} (hK : X.K = K) {es : List Expr} {k : Nat} {t : TGs} {n : Nat} {pos : Pos} (hc : X.calm = true) (h : PGs X es t)
    (hn : (assignEach es X.env).length = n := by rfl) (hst : (assignEach es X.env).findIdx? (·.1) = none := by rfl) : PG X (.Tuple es k pos) (gTup K n t) := by subst hK; exact pg_tup hc h hn hst
def nStr (d : PyData) : Bool := !dStr d
theorem wDs_filter (p : PyData → Bool) (l : List PyData) : wDs (l.filter p) ≤ wDs l := by
  induction l with
  | nil => exact Nat.le_refl _
  | cons d l ih =>
    rw [List.filter_cons]
    split <;> simp only [wDs] <;> omega
theorem parts_strs {es : List PyData} {zs : List Str} (hm : ∀ z, z ∈ zs ↔ PyData.str z ∈ es) : partsD es = (partsD (es.filter nStr) && zs.all isThingS) := by
  rw [partsD_eq, partsD_eq, Bool.eq_iff_iff, Bool.and_eq_true, List.all_eq_true, List.all_eq_true, List.all_eq_true]
  constructor
  · intro h
    exact ⟨fun d hd => h d (List.mem_filter.mp hd).1, fun z hz => h (.str z) ((hm z).mp hz)⟩
  · rintro ⟨h1, h2⟩ d hd
    by_cases s : dStr d = true
    · cases d with
      | str z => exact h2 z ((hm z).mpr hd)
      | _ => cases s
    · exact h1 d (List.mem_filter.mpr ⟨hd, by simpa [nStr] using s⟩)
theorem part_nstr {d : PyData} (s : dStr d = false) (h : againD d = false) : partD d = false := by
  rw [partD_eq, h]
  cases d <;> first | rfl | cases s
end MC

set_option Elab.async false
set_option linter.all false
set_option maxRecDepth 100000
set_option maxHeartbeats 4000000
/-! MR: enumerate of a tuple, a list by steps. -/
namespace MC
open PySem AutoSeq1
theorem enumT_new (l : Addr) (items : Array Value) (n : Nat) (dc : Option Addr) (ss : Array (Option Value)) : Meets (Builtin.«enumerate.__new__» ⟨[.type "enumerate", .ref l], []⟩) (fun _ R s =>
    s.heap.get? l = some { cls := .type "tuple", dict := dc, data := .seq items n, slots := ss } ∧
    R (.ok (.ret (.ref (s.heap.objs.size + 1)))) { s with heap := (s.heap.push { cls := .type "tuple_iterator", data := .fields #[.ref l, .int 0 0] }).push { cls := .type "enumerate", data := .fields #[.none, .bool false, .ref s.heap.objs.size, rawInt 0, .none, .none] } }) :=
  .of_wp fun prog w A R s h => by
    obtain ⟨hp, g, d, tk, os⟩ := s
    obtain ⟨hl, h⟩ := h
    have sub := sub_enumerate
    have hT : Heap.IsTuple (Shared.heap ⟨hp, g, d, tk, os⟩) l items := ⟨_, hl, rfl, n, rfl⟩
    have sz : (hp.push { cls := .type "tuple_iterator", data := .fields #[.ref l, .int 0 0] }).objs.size = hp.objs.size + 1 := Heap.size_push ..
    have h2 := h
    rw [← sz] at h2
    wp_walk using wpAny_loadPart' hl
    refine wpAny_stack_any fun st => wpAny_pure ?_
    split
    · rename_i c _ _ _ _ _
      cases (c == Value.type "enumerate") <;> (wp_walk using wpAny_loadPart' hl, wpAny_pyIter_tuple hT) <;> exact ⟨_, rfl, h2⟩
    · wp_walk using wpAny_loadPart' hl, wpAny_pyIter_tuple hT
      exact ⟨_, rfl, h2⟩
theorem call_enumT {prog : Program} {w : World} {A : Around} {E : Value → Shared → Prop} {s : Shared} {l : Addr} {items : Array Value} {Q : Value → Shared → Prop} (hL : s.heap.IsTuple l items)
    (h : ∀ h', IsEnum h' (s.heap.objs.size + 1) s.heap.objs.size 0 .none → h'.IsTupleIter s.heap.objs.size l 0 → (∀ b o, s.heap.get? b = some o → h'.get? b = some o) →
      Q (.ref (s.heap.objs.size + 1)) { s with heap := h' }) : wpAny (model prog w) A (call (.type "enumerate") [.ref l]) Q E s := by
  obtain ⟨⟨c, dc, dt, ss⟩, hl, hc, n, hd⟩ := hL
  cases (show c = .type "tuple" from hc)
  cases (show dt = .seq items n from hd)
  refine callType_new F.called_enumerate (by decide) (F.typeCall_enumerate_1 _) (F.newCall_enumerate_1 _) (fun ob => F.args_object_init_2 ob _) F.entry_enumerate_new (enumT_new l items n dc ss) ⟨hl, ?_⟩
  have sz : (s.heap.push { cls := .type "tuple_iterator", data := .fields #[.ref l, .int 0 0] }).objs.size = s.heap.objs.size + 1 := Heap.size_push ..
  have top := Heap.get?_push_size (s.heap.push { cls := .type "tuple_iterator", data := .fields #[.ref l, .int 0 0] })
    (o := { cls := .type "enumerate", data := .fields #[.none, .bool false, .ref s.heap.objs.size, rawInt 0, .none, .none] }) rfl
  rw [sz] at top
  exact ⟨⟨_, top, rfl⟩, h _ top ⟨_, Heap.get?_push_of_some _ (Heap.get?_push_size _ rfl), rfl, rfl⟩ fun b o y => Heap.get?_push_of_some _ (Heap.get?_push_of_some _ y)⟩
end MC
namespace MC
open PySem PySem.Spec L2
open PyProof.Rows hiding St
/-- enumerate of the tuple at a -/
def Iet (K : PySem.W.Frag) (a : Addr) : It :=
  ⟨fun i H => ∃ (ts : List V) (v : V), SqT K H a ts ∧ ts[i]? = some v,
   fun i H u H' => ∃ p v, u = .ref p ∧ H p = none ∧ H' = upd H p (.tup [.int (i : Nat), v]) ∧ ∀ ts, SqT K H a ts → ts[i]? = some v,
   fun i H => ∃ ts : List V, SqT K H a ts ∧ i = ts.length⟩
theorem turn_iet {P : Program} {w : World} {K : PySem.W.Frag} {elts : List Expr} {kk : Nat} {tpos : Pos} {a e it : Addr} (hae : a ≠ it) (hea : e ≠ a) :
    Turn P w K (.Tuple elts kk tpos) (Iet K a) [e, it] e (fun i h => (∃ old, IsEnum h e it ((i : Nat) : Int) old) ∧ h.IsTupleIter it a i ∧ e ≠ it) where
  mem := by simp
  obj := fun i h st b hb => by
    obtain ⟨⟨old, he⟩, ⟨o, ho, hc, hd⟩, _⟩ := st
    simp only [List.mem_cons, List.not_mem_nil, or_false] at hb
    rcases hb with rfl | rfl
    · exact ⟨_, he, fun v q => nomatch q⟩
    · exact ⟨o, ho, fun v q => by rw [hd] at q; cases q⟩
  keep := fun i h h' st k => by
    obtain ⟨⟨old, he⟩, hi, hne⟩ := st
    exact ⟨⟨old, k e (by simp) _ he⟩, hi.at fun o q => k it (by simp) o q, hne⟩
  item := by
    intro X hP hw hK hc i pins s σ H E I hf st hg
    subst hP hw hK
    obtain ⟨⟨old, he⟩, hit, hne⟩ := st
    obtain ⟨ts, v, hq, hv⟩ := hg
    obtain ⟨its, rv, p, hz⟩ := I.tuple hq
    obtain ⟨u, hu, ru⟩ := rv.get hv
    have hel : e < s.heap.objs.size := Heap.lt_size he
    have hil : it < s.heap.objs.size := by obtain ⟨_, q, _⟩ := hit; exact Heap.lt_size q
    have pt : s.heap.IsTuple a its.toArray := p
    refine wpAny_pyNext_enum_itemD (Draws.tuple (A := X.A.in1) (show X.A.in1.handled = none from I.ok.hd hc) it a hae its.toArray) (i := i) he ⟨hit, pt⟩ (by have := (List.getElem?_eq_some_iff.mp hu).1; simpa using this) hne (by simp; exact ⟨hne, hea⟩)
      fun x h' tk hx ho' st' hT hsz hk => ?_
    have ex : x = u := by
      rw [show its.toArray[i]? = some u by simpa using hu] at hx
      exact (Option.some.inj hx).symm
    subst ex
    refine ⟨_, rfl, wpAny_letOwnedTupleGo_enum (s := { s with heap := h', toks := tk + 1 }) ho' fun h'' he' sb => ?_⟩
    have hT2 : h''.get? s.heap.objs.size = some { cls := .type "tuple", data := .seq #[.int i tk, x] } := (sb.2 _ (Nat.ne_of_gt hel)).trans hT
    have nw : ObjOk X.prog X.w (upd H s.heap.objs.size (.tup [.int (i : Nat), v])) h'' s.heap.objs.size (.tup [.int (i : Nat), v]) :=
      ⟨by show 2 ≤ sizeLine; decide, [.int i tk, x], .cons ⟨_, rfl⟩ (.cons ru .nil), ⟨_, hT2, rfl, _, rfl⟩⟩
    have I1 : Inv X pins σ (upd H s.heap.objs.size (.tup [.int (i : Nat), v])) { s with heap := h'', toks := tk + 1 } :=
      I.turnedNew (ch := [e, it]) (fun b ob hb q => (sb.2 b (fun z => hb (by simp [z]))).trans (hk b ob (fun z => hb (by simp [z])) (fun z => hb (by simp [z])) q)) hf (Nat.le_refl _) nw
    refine ⟨.ref s.heap.objs.size, _, I1, rfl, ⟨_, v, rfl, I.hok.fresh (Nat.le_refl _), rfl, fun ys hy => by rw [I.tuple_inj hy hq]; exact hv⟩, ⟨⟨x, ?_⟩, st'.1.at fun o q => (sb.2 it (Ne.symm hne)).trans q, hne⟩, fun b hb => ?_⟩
    · rw [show ((i + 1 : Nat) : Int) = (i : Int) + 1 by omega]; exact he'
    · have hb' : b < s.heap.objs.size := by
        simp only [List.mem_cons, List.not_mem_nil, or_false] at hb
        rcases hb with rfl | rfl
        · exact hel
        · exact hil
      rw [upd_ne (Nat.ne_of_lt hb')]
      exact (hf b hb).1
  done := by
    intro X hP hw hK hc i pins s σ H E I hf st hg
    subst hP hw hK
    obtain ⟨⟨old, he⟩, hit, hne⟩ := st
    obtain ⟨ts, hq, hx⟩ := hg
    obtain ⟨its, rv, p, hz⟩ := I.tuple hq
    obtain ⟨f0, f1, f2, f3, f4, f5⟩ := hf it (by simp)
    have hl := rv.length
    have pt : s.heap.IsTuple a its.toArray := p
    have en : i = its.toArray.size := by simp; omega
    subst en
    refine wpAny_pyNext_enum_endD (Draws.tuple (A := X.A.in1) (show X.A.in1.handled = none from I.ok.hd hc) it a hae its.toArray) he ?_ fun h' eb => ⟨rfl, I.turned (t' := s.toks) (fun b o hb q => eb b o hb q) f0 f1 f3 f4 f5⟩
    exact ⟨hit, pt⟩
  self := fun A i s Q E st h => by
    obtain ⟨⟨_, he⟩, _⟩ := st
    exact wpAny_pyIter_enum he h
/-- enumerate of what is a list or a tuple -/
def iEnX (K : PySem.W.Frag) (ta : TA) : TI := fun σ H R => ta σ H fun vs H1 => ∃ a, vs = [.ref a] ∧ (((∃ xs, H1 a = some (.lst xs)) ∧ R (Ite K a) H1) ∨ ((∃ xs, H1 a = some (.tup xs)) ∧ R (Iet K a) H1))
theorem pi_enX {X : Cx} {e : Expr} {ta : TA} {p pos tpos : Pos} {elts : List Expr} {kk : Nat} (hg : Gl X "enumerate") (hm : X.mg "enumerate" = none) (ha : PA X [e] ta) (hs : starEach [e] X.env = [(false, eval e X.env)] := by rfl) :
    PI X (.Tuple elts kk tpos) (.Call (.Name "enumerate" p) [e] [] pos) (iEnX X.K ta) := by
  refine ⟨fun pins s σ H R I h => ?_⟩
  refine Call_ (ld_blt I hg hm boot_enumerate (PyProof.Rows.callWith_type1 (thn (ha.run pos pins s σ H _ I h) fun us s1 z => ?_) hs rfl))
  obtain ⟨vs, H1, I1, r1, a, rfl, q⟩ := z
  cases r1 with
  | cons r rr =>
    cases rr
    cases r
    have low : ∀ b ∈ [s1.heap.objs.size + 1, s1.heap.objs.size], FpOk X pins H1 b := fun b hb => by
      have le : s1.heap.objs.size ≤ b := by
        simp only [List.mem_cons, List.not_mem_nil, or_false] at hb
        rcases hb with rfl | rfl <;> omega
      exact I1.fpOk le (I1.hok.fresh le)
    rcases q with ⟨⟨xs, hx⟩, q⟩ | ⟨⟨xs, hx⟩, q⟩
    · obtain ⟨its, rv, p', hz⟩ := I1.list (SqL.of hx)
      refine call_enumerate_list p'.isList fun h' he hit hsz hk => wpAny_pyIter_enum he ?_
      have I2 : Inv X pins σ H1 { s1 with heap := h' } := I1.kept (t' := s1.toks) hk
      exact ⟨_, _, _, _, H1, rfl, I2, turn_enum a _ _, ⟨⟨.none, he⟩, hit, Nat.succ_ne_self _⟩, low, q⟩
    · obtain ⟨its, rv, p', hz⟩ := I1.tuple (SqT.of hx)
      have pt : s1.heap.IsTuple a its.toArray := p'
      have al : a < s1.heap.objs.size := by obtain ⟨_, q, _⟩ := pt; exact Heap.lt_size q
      refine call_enumT pt fun h' he hit hk => wpAny_pyIter_enum he ?_
      have I2 : Inv X pins σ H1 { s1 with heap := h' } := I1.kept (t' := s1.toks) hk
      exact ⟨_, _, _, _, H1, rfl, I2, turn_iet (Nat.ne_of_lt al) (Ne.symm (Nat.ne_of_lt (Nat.lt_succ_of_lt al))), ⟨⟨.none, he⟩, hit, Nat.succ_ne_self _⟩, low, q⟩
theorem for_enX {K : PySem.W.Frag} {a : Addr} {xs : List V} {g : TG} {tb : TS} {D : Ends} {σ : St} {H : Hp} (h : SqX H a xs) (Pv : Nat → St → Hp → Prop) (h0 : Pv 0 σ H) (hl : ∀ i σ' H', i ≤ xs.length → Pv i σ' H' → H' a = H a)
    (hs : ∀ (i : Nat) x p σ H', xs[i]? = some x → Pv i σ H' → H' p = none → g (.ref p) σ (upd H' p (.tup [.int (i : Nat), x])) fun σ2 H2 => tb { D with nx := Pv (i + 1), ct := Pv (i + 1), bk := D.nx } σ2 H2) (hd : ∀ σ H, Pv xs.length σ H → D.nx σ H) :
    ∃ b, [V.ref a] = [.ref b] ∧ (((∃ ys, H b = some (.lst ys)) ∧ ∃ W : Nat → Nat → St → Hp → Prop, (∃ m, W 0 m σ H) ∧ ∀ i m σ H, W i m σ H →
        ((Ite K b).stop i H ∧ D.nx σ H) ∨ ((Ite K b).go i H ∧ ∃ N : St → Hp → Prop, (∀ σ' H', N σ' H' → ∃ m', m' < m ∧ W (i + 1) m' σ' H') ∧ ∀ x H', (Ite K b).yld i H x H' → g x σ H' fun σ2 H2 => tb { D with nx := N, ct := N, bk := D.nx } σ2 H2)) ∨
      ((∃ ys, H b = some (.tup ys)) ∧ ∃ W : Nat → Nat → St → Hp → Prop, (∃ m, W 0 m σ H) ∧ ∀ i m σ H, W i m σ H →
        ((Iet K b).stop i H ∧ D.nx σ H) ∨ ((Iet K b).go i H ∧ ∃ N : St → Hp → Prop, (∀ σ' H', N σ' H' → ∃ m', m' < m ∧ W (i + 1) m' σ' H') ∧ ∀ x H', (Iet K b).yld i H x H' → g x σ H' fun σ2 H2 => tb { D with nx := N, ct := N, bk := D.nx } σ2 H2))) := by
  refine ⟨a, rfl, ?_⟩
  rcases h with h | h
  · refine .inl ⟨⟨xs, h⟩, fun i m σ' H' => m = xs.length - i ∧ i ≤ xs.length ∧ Pv i σ' H', ⟨_, rfl, Nat.zero_le _, h0⟩, ?_⟩
    rintro i m σ' H' ⟨rfl, hi, pv⟩
    have at' : SqL K H' a xs := SqL.of ((hl i σ' H' hi pv).trans h)
    by_cases lt : i < xs.length
    · refine .inr ⟨⟨xs, xs[i], at', List.getElem?_eq_getElem lt⟩, Pv (i + 1), fun σ2 H2 z => ⟨_, Nat.sub_lt_sub_left lt (Nat.lt_succ_self i), rfl, lt, z⟩, ?_⟩
      rintro v H2 ⟨p, x, rfl, hp, rfl, hx⟩
      exact hs i x p σ' H' (hx xs at') pv hp
    · exact .inl ⟨⟨xs, at', by omega⟩, hd σ' H' (by rw [show xs.length = i by omega]; exact pv)⟩
  · refine .inr ⟨⟨xs, h⟩, fun i m σ' H' => m = xs.length - i ∧ i ≤ xs.length ∧ Pv i σ' H', ⟨_, rfl, Nat.zero_le _, h0⟩, ?_⟩
    rintro i m σ' H' ⟨rfl, hi, pv⟩
    have at' : SqT K H' a xs := SqT.of ((hl i σ' H' hi pv).trans h)
    by_cases lt : i < xs.length
    · refine .inr ⟨⟨xs, xs[i], at', List.getElem?_eq_getElem lt⟩, Pv (i + 1), fun σ2 H2 z => ⟨_, Nat.sub_lt_sub_left lt (Nat.lt_succ_self i), rfl, lt, z⟩, ?_⟩
      rintro v H2 ⟨p, x, rfl, hp, rfl, hx⟩
      exact hs i x p σ' H' (hx xs at') pv hp
    · exact .inl ⟨⟨xs, at', by omega⟩, hd σ' H' (by rw [show xs.length = i by omega]; exact pv)⟩
theorem k_enX {X : Cx} {K : PySem.W.Frag} (hK : X.K = K) {e : Expr} {ta : TA} {p pos tpos : Pos} {elts : List Expr} {kk : Nat} (hg : Gl X "enumerate") (hm : X.mg "enumerate" = none) (ha : PA X [e] ta) (hs : starEach [e] X.env = [(false, eval e X.env)] := by rfl) :
    PI X (.Tuple elts kk tpos) (.Call (.Name "enumerate" p) [e] [] pos) (iEnX K ta) := by subst hK; exact pi_enX hg hm ha hs

/-! ### xs[::c] -/
def stepV (xs : List V) (c : Int) : List V := (sliceRange 0 xs.length c).filterMap (xs[·]?)
def tStep (K : PySem.W.Frag) (te tc : TE) : TE := fun σ H Q => te σ H fun x H1 => tPart tc σ H1 fun o H2 => ∃ a xs c, x = .ref a ∧ o = some c ∧ 0 < c ∧ SqL K H2 a xs ∧ ∀ p, H2 p = none → Q (.ref p) (upd H2 p (.lst (stepV xs c)))
theorem vals_pick {xs : List V} {us : List Value} (r : Vals xs us) (js : List Nat) : Vals (js.filterMap (xs[·]?)) (js.filterMap (us[·]?)) := by
  induction js with
  | nil => exact .nil
  | cons j js ih =>
    cases e : xs[j]? with
    | none =>
      have l := r.length
      have e2 : us[j]? = none := by rw [List.getElem?_eq_none_iff] at e ⊢; omega
      rw [List.filterMap_cons_none e, List.filterMap_cons_none e2]
      exact ih
    | some x =>
      obtain ⟨u, e2, ru⟩ := r.get e
      rw [List.filterMap_cons_some e, List.filterMap_cons_some e2]
      exact .cons ru ih
theorem step_bounds (c : Int) (h : 0 < c) (n : Nat) : sliceBounds none none (some c) n = (0, (n : Int), c) := by
  simp [sliceBounds, h]
theorem step_pick (us : List Value) (c : Int) (h : 0 < c) : (slicePick us.toArray none none (some c)) = ((sliceRange 0 us.length c).filterMap (us[·]?)).toArray := by
  unfold slicePick
  rw [List.size_toArray, step_bounds c h]
  simp
theorem pe_step {X : Cx} {K : PySem.W.Frag} (hK : X.K = K) {e ec : Expr} {te tc : TE} {p2 pos : Pos} (he : PE X e te) (hc : PE X ec tc)
    (ho : ∀ a b, subscripted (.Slice none none (some ec) p2) false (.ref a) (.ref b) = operate [.ref a, .ref b] (getItem (.ref a) (.ref b)) := by intro a b; with_unfolding_all rfl)
    (hg : ∀ a r, letTemporaryGo e (.ref a) r = pure () := by intro a r; with_unfolding_all rfl) :
    PE X (.Subscript e (.Slice none none (some ec) p2) pos) (tStep K te tc) := by
  subst hK
  refine ⟨fun pins s σ H Q I h => ?_⟩
  have hst : PO X (some ec) (tPart tc) := po_some hc
  refine Subscript_ (thn (he.run pins s σ H _ I h) fun v s1 z => ?_)
  obtain ⟨x, H1, I1, r1, q1⟩ := z
  refine wpAny_Slice (thn (po_none.run pins s1 σ H1 (fun o H' => o = none ∧ H' = H1) I1 ⟨rfl, rfl⟩) fun vl s2 z => ?_)
  obtain ⟨_, _, I2, pl, rfl, rfl⟩ := z
  refine thn (po_none.run pins s2 σ _ (fun o H' => o = none ∧ H' = _) I2 ⟨rfl, rfl⟩) fun vu s3 z => ?_
  obtain ⟨_, _, I3, pu, rfl, rfl⟩ := z
  refine thn (hst.run pins s3 σ _ (fun o H' => ∃ a xs c, x = .ref a ∧ o = some c ∧ 0 < c ∧ SqL X.K H' a xs ∧ ∀ p, H' p = none → Q (.ref p) (upd H' p (.lst (stepV xs c)))) I3 q1) fun vs s4 z => ?_
  obtain ⟨_, H4, I4, ps, a, xs, c, rfl, rfl, c0, hx, q⟩ := z
  cases r1
  have I5 := I4.kept (h' := s4.heap.push { cls := .type "slice", data := .fields #[vl, vu, vs] }) (t' := s4.toks) fun b ob q => Heap.get?_push_of_some _ q
  obtain ⟨its, r, ht, hz⟩ := I5.list hx
  have hl := r.length
  have new := vals_pick r (sliceRange 0 its.length c)
  rw [← hl] at new
  have il : (its.toArray).size ≤ sizeLine := by rw [List.size_toArray]; omega
  have ll : (stepV xs c).length ≤ sizeLine := by
    refine Nat.le_trans (List.length_filterMap_le _ _) (Nat.le_trans (sliceRange_length_le 0 xs.length c xs.length (fun _ => ⟨Int.le_refl 0, Int.le_refl _⟩) fun z => absurd c0 z) hz)
  refine tail_any (ops := [.ref a, .ref s4.heap.objs.size]) ht.isList.typeIs (PySem.slot_list_getitem.lookup) ?_ (ho _ _)
  refine wpAny_getItem_list_slice ht.isList (Heap.IsSliceOf.new _ vl vu vs) pl pu ps (fun z => by injection z with z; omega) ?_ il
  rw [step_pick its c c0, ← hl]
  exact ⟨.ref _, _, I5.laid (o := .lst (stepV xs c)) (t' := s4.toks) (fun b ob q => Heap.get?_push_of_some _ q) (Nat.le_refl _) ⟨ll, _, 0, new, Heap.get?_push_size _ rfl⟩, rfl, q _ (I5.hok.fresh (Nat.le_refl _))⟩
end MC

set_option Elab.async false
set_option linter.all false
set_option maxRecDepth 100000
set_option maxHeartbeats 4000000
set_option exponentiation.threshold 20000
/-! ME: how many asks, which stands where. -/
namespace MC
open PySem PySem.Spec L2
mutual
def manyR : PyData → Int
  | .list xs => manyPs xs
  | .tuple xs => manyPs xs
  | _ => 0
def manyP : PyData → Int
  | .str _ => 1
  | .tuple [r, .int t] => manyR r * t
  | _ => 0
def manyPs : List PyData → Int
  | [] => 0
  | x :: xs => manyP x + manyPs xs
end
mutual
def atR : PyData → Int → Str
  | .list xs, p => atPs xs p
  | .tuple xs, p => atPs xs p
  | _, _ => ⟨#[]⟩
def atP : PyData → Int → Str
  | .str z, _ => z
  | .tuple [r, .int _], p => atR r (p % manyR r)
  | _, _ => ⟨#[]⟩
def atPs : List PyData → Int → Str
  | [], _ => ⟨#[]⟩
  | x :: xs, p => if p < manyP x then atP x p else atPs xs (p - manyP x)
end
theorem manyR_elems {d : PyData} (k : dSeq d = true) : manyR d = manyPs (elemsD d) := by
  cases d <;> first | rfl | cases k
theorem atR_elems {d : PyData} (k : dSeq d = true) (p : Int) : atR d p = atPs (elemsD d) p := by
  cases d <;> first | rfl | cases k
theorem manyPs_append (xs ys : List PyData) : manyPs (xs ++ ys) = manyPs xs + manyPs ys := by
  induction xs with
  | nil => simp [manyPs]
  | cons x xs ih => simp only [List.cons_append, manyPs, ih, Int.add_assoc]
theorem rowD_is {d : PyData} (h : rowD d = true) : dSeq d = true := by
  cases d <;> first | rfl | simp [rowD] at h
theorem partsD_get {xs : List PyData} (h : partsD xs = true) {i : Nat} {d : PyData} (e : xs[i]? = some d) : partD d = true := by
  rw [partsD_eq, List.all_eq_true] at h
  exact h d (List.mem_of_getElem? e)
theorem partD_cases {d : PyData} (h : partD d = true) : (∃ z, d = .str z ∧ isThingS z = true) ∨ ∃ r t, d = .tuple [r, .int t] ∧ 1 ≤ t ∧ t ≤ 10 ^ 30 ∧ dNil r = false ∧ rowD r = true := by
  unfold partD at h
  split at h
  · exact .inl ⟨_, rfl, h⟩
  · rename_i r t
    simp only [timesOk, Bool.and_eq_true, decide_eq_true_eq, Bool.not_eq_true'] at h
    exact .inr ⟨r, t, rfl, h.1.1.1, h.1.1.2, h.1.2, h.2⟩
  · cases h
def Bd (n k : Nat) : Int := ((n * 2 ^ (100 * k) : Nat) : Int)
theorem Bd_mono {n n' k k' : Nat} (h : n ≤ n') (hk : k ≤ k') : Bd n k ≤ Bd n' k' :=
  Int.ofNat_le.mpr (Nat.mul_le_mul h (Nat.pow_le_pow_right (by decide) (Nat.mul_le_mul_left _ hk)))
theorem Bd_add (n m k : Nat) : Bd n k + Bd m k = Bd (n + m) k := by
  unfold Bd
  rw [← Int.natCast_add, ← Nat.add_mul]
theorem Bd_times {n k : Nat} {a t : Int} (ha : a ≤ Bd n k) (a0 : 0 ≤ a) (t1 : 1 ≤ t) (t2 : t ≤ 10 ^ 30) : a * t ≤ Bd n (k + 1) := by
  have h1 : t ≤ ((2 ^ 100 : Nat) : Int) := Int.le_trans t2 (by decide)
  have h2 : a * t ≤ Bd n k * ((2 ^ 100 : Nat) : Int) := Int.mul_le_mul ha h1 (by omega) (Int.le_trans a0 ha)
  refine Int.le_trans h2 (Int.le_of_eq ?_)
  unfold Bd
  rw [← Int.natCast_mul, Nat.mul_assoc, ← Nat.pow_add, Nat.mul_add]
mutual
/-- asks of a part are one at least, and not too many -/
theorem manyR_bound : ∀ d : PyData, rowD d = true → 0 ≤ manyR d ∧ (dNil d = false → 1 ≤ manyR d) ∧ manyR d ≤ Bd (wD d) d.depth
  | .list xs, h => by
    obtain ⟨h1, h2, h3⟩ := manyPs_bound xs h
    refine ⟨h1, fun e => ?_, Int.le_trans h3 (Bd_mono (by simp only [wD]; omega) (by simp only [PyData.depth]; omega))⟩
    cases xs with
    | nil => simp [dNil] at e
    | cons x xs => exact h2 (List.cons_ne_nil _ _)
  | .tuple xs, h => by
    obtain ⟨h1, h2, h3⟩ := manyPs_bound xs h
    refine ⟨h1, fun e => ?_, Int.le_trans h3 (Bd_mono (by simp only [wD]; omega) (by simp only [PyData.depth]; omega))⟩
    cases xs with
    | nil => simp [dNil] at e
    | cons x xs => exact h2 (List.cons_ne_nil _ _)
  | .none, h => by simp [rowD] at h
  | .bool _, h => by simp [rowD] at h
  | .int _, h => by simp [rowD] at h
  | .str _, h => by simp [rowD] at h
  | .dict _, h => by simp [rowD] at h
termination_by d => 2 * wD d
decreasing_by all_goals (simp only [wD]; omega)
theorem manyP_bound : ∀ d : PyData, partD d = true → 1 ≤ manyP d ∧ manyP d ≤ Bd (wD d) d.depth
  | .str _, h => ⟨Int.le_refl _, by
    show (1 : Int) ≤ _
    have := Bd_mono (n := 1) (n' := 1) (k := 0) (k' := 0) (Nat.le_refl _) (Nat.le_refl _)
    simp only [wD, PyData.depth, Bd]
    decide⟩
  | .tuple [r, .int t], h => by
    simp only [partD, timesOk, Bool.and_eq_true, decide_eq_true_eq, Bool.not_eq_true'] at h
    obtain ⟨⟨⟨t1, t2⟩, hn⟩, hr⟩ := h
    obtain ⟨h1, h2, h3⟩ := manyR_bound r hr
    have h4 := h2 hn
    refine ⟨?_, ?_⟩
    · show 1 ≤ manyR r * t
      have : (1 : Int) * 1 ≤ manyR r * t := Int.mul_le_mul h4 t1 (by decide) h1
      omega
    · refine Int.le_trans (Bd_times h3 h1 t1 t2) (Bd_mono (by simp only [wD, wDs]; omega) (by simp only [PyData.depth, PyData.depthAll]; omega))
  | .tuple [], h => by cases (show false = true from h)
  | .tuple [_], h => by cases (show false = true from h)
  | .tuple [_, .none], h => by cases (show false = true from h)
  | .tuple [_, .bool _], h => by cases (show false = true from h)
  | .tuple [_, .str _], h => by cases (show false = true from h)
  | .tuple [_, .list _], h => by cases (show false = true from h)
  | .tuple [_, .tuple _], h => by cases (show false = true from h)
  | .tuple [_, .dict _], h => by cases (show false = true from h)
  | .tuple (_ :: _ :: _ :: _), h => by rcases partD_cases h with ⟨z, e, _⟩ | ⟨r, t, e, _⟩ <;> cases e
  | .none, h => by cases (show false = true from h)
  | .bool _, h => by cases (show false = true from h)
  | .int _, h => by cases (show false = true from h)
  | .list _, h => by cases (show false = true from h)
  | .dict _, h => by cases (show false = true from h)
termination_by d => 2 * wD d
decreasing_by all_goals (simp only [wD, wDs]; omega)
theorem manyPs_bound : ∀ xs : List PyData, partsD xs = true → 0 ≤ manyPs xs ∧ (xs ≠ [] → 1 ≤ manyPs xs) ∧ manyPs xs ≤ Bd (wDs xs) (PyData.depthAll xs)
  | [], _ => ⟨Int.le_refl _, fun e => absurd rfl e, by simp only [manyPs, wDs, PyData.depthAll, Bd]; decide⟩
  | x :: xs, h => by
    simp only [partsD, Bool.and_eq_true] at h
    obtain ⟨h1, h2⟩ := manyP_bound x h.1
    obtain ⟨h3, _, h4⟩ := manyPs_bound xs h.2
    refine ⟨by simp only [manyPs]; omega, fun _ => by simp only [manyPs]; omega, ?_⟩
    have a1 := Int.le_trans h2 (Bd_mono (n' := wD x) (k' := PyData.depthAll (x :: xs)) (Nat.le_refl _) (by simp only [PyData.depthAll]; omega))
    have a2 := Int.le_trans h4 (Bd_mono (n' := wDs xs) (k' := PyData.depthAll (x :: xs)) (Nat.le_refl _) (by simp only [PyData.depthAll]; omega))
    have a3 := Bd_add (wD x) (wDs xs) (PyData.depthAll (x :: xs))
    simp only [manyPs, wDs]
    omega
termination_by xs => 2 * wDs xs + 1
decreasing_by all_goals (have := wD_pos x; simp only [wDs]; omega)
end
/-- bits of a count -/
theorem many_bits {d : PyData} (h : rowD d = true) (hw : wD d ≤ 2000) (hd : d.depth ≤ 60) : (manyR d).natAbs < 2 ^ 6100 := by
  obtain ⟨h1, _, h2⟩ := manyR_bound d h
  have h3 := Int.le_trans h2 (Bd_mono hw hd)
  have h4 : (manyR d).natAbs ≤ 2000 * 2 ^ (100 * 60) := by
    unfold Bd at h3
    omega
  refine Nat.lt_of_le_of_lt h4 ?_
  have e : (2 : Nat) ^ 6100 = 2 ^ 100 * 2 ^ (100 * 60) := by rw [← Nat.pow_add]
  rw [e]
  exact Nat.mul_lt_mul_of_pos_right (by decide) (Nat.pow_pos (by decide))
mutual
def outR : PyData → List Str
  | .list xs => outPs xs
  | .tuple xs => outPs xs
  | _ => []
def outP : PyData → List Str
  | .str z => [z]
  | .tuple [r, .int t] => (List.replicate t.toNat (outR r)).flatten
  | _ => []
def outPs : List PyData → List Str
  | [] => []
  | x :: xs => outP x ++ outPs xs
end
theorem outR_elems {d : PyData} (k : dSeq d = true) : outR d = outPs (elemsD d) := by
  cases d <;> first | rfl | cases k
theorem outPs_append (xs ys : List PyData) : outPs (xs ++ ys) = outPs xs ++ outPs ys := by
  induction xs with
  | nil => rfl
  | cons x xs ih => simp only [List.cons_append, outPs, ih, List.append_assoc]
theorem rep_len {α : Type} (n : Nat) (l : List α) : (List.replicate n l).flatten.length = n * l.length := by
  induction n with
  | zero => simp
  | succ n ih => rw [List.replicate_succ, List.flatten_cons, List.length_append, ih, Nat.succ_mul]; omega
theorem rep_get {α : Type} (l : List α) (n k : Nat) (h : k < n * l.length) : (List.replicate n l).flatten[k]? = l[k % l.length]? := by
  induction n generalizing k with
  | zero => omega
  | succ n ih =>
    rw [List.replicate_succ, List.flatten_cons]
    have l0 : 0 < l.length := by
      cases l with
      | nil => simp at h
      | cons _ _ => simp
    by_cases lt : k < l.length
    · rw [List.getElem?_append_left lt, Nat.mod_eq_of_lt lt]
    · rw [List.getElem?_append_right (by omega), ih (k - l.length) (by rw [Nat.succ_mul] at h; omega)]
      rw [Nat.mod_eq_sub_mod (by omega : k ≥ l.length)]
mutual
theorem outR_get : ∀ d : PyData, rowD d = true → ((outR d).length : Int) = manyR d ∧ ∀ k : Nat, (k : Int) < manyR d → (outR d)[k]? = some (atR d k)
  | .list xs, h => outPs_get xs h
  | .tuple xs, h => outPs_get xs h
  | .none, h => by simp [rowD] at h
  | .bool _, h => by simp [rowD] at h
  | .int _, h => by simp [rowD] at h
  | .str _, h => by simp [rowD] at h
  | .dict _, h => by simp [rowD] at h
termination_by d => 2 * wD d
decreasing_by all_goals (simp only [wD]; omega)
theorem outP_get : ∀ d : PyData, partD d = true → ((outP d).length : Int) = manyP d ∧ ∀ k : Nat, (k : Int) < manyP d → (outP d)[k]? = some (atP d k)
  | .str z, h => ⟨rfl, fun k hk => by
    have : k = 0 := by simp only [manyP] at hk; omega
    subst this; rfl⟩
  | .tuple [r, .int t], h => by
    simp only [partD, timesOk, Bool.and_eq_true, decide_eq_true_eq, Bool.not_eq_true'] at h
    obtain ⟨⟨⟨t1, t2⟩, hn⟩, hr⟩ := h
    obtain ⟨h1, h2⟩ := outR_get r hr
    have m1 := (manyR_bound r hr).2.1 hn
    have tt : ((t.toNat : Nat) : Int) = t := by omega
    have len : (((List.replicate t.toNat (outR r)).flatten.length : Nat) : Int) = manyR r * t := by
      rw [rep_len, Int.natCast_mul, h1, tt, Int.mul_comm]
    refine ⟨len, fun k hk => ?_⟩
    have hk' : (k : Int) < manyR r * t := hk
    rw [← len] at hk'
    have hk2 : k < (List.replicate t.toNat (outR r)).flatten.length := by omega
    rw [rep_len] at hk2
    show (List.replicate t.toNat (outR r)).flatten[k]? = some (atR r (k % manyR r))
    rw [rep_get _ _ _ hk2]
    have km : ((k % (outR r).length : Nat) : Int) = (k : Int) % manyR r := by rw [Int.natCast_emod, h1]
    rw [h2 _ (by rw [km]; exact Int.emod_lt_of_pos _ (by omega)), km]
  | .tuple [], h => by cases (show false = true from h)
  | .tuple [_], h => by cases (show false = true from h)
  | .tuple [_, .none], h => by cases (show false = true from h)
  | .tuple [_, .bool _], h => by cases (show false = true from h)
  | .tuple [_, .str _], h => by cases (show false = true from h)
  | .tuple [_, .list _], h => by cases (show false = true from h)
  | .tuple [_, .tuple _], h => by cases (show false = true from h)
  | .tuple [_, .dict _], h => by cases (show false = true from h)
  | .tuple (_ :: _ :: _ :: _), h => by rcases partD_cases h with ⟨z, e, _⟩ | ⟨r, t, e, _⟩ <;> cases e
  | .none, h => by cases (show false = true from h)
  | .bool _, h => by cases (show false = true from h)
  | .int _, h => by cases (show false = true from h)
  | .list _, h => by cases (show false = true from h)
  | .dict _, h => by cases (show false = true from h)
termination_by d => 2 * wD d
decreasing_by all_goals (simp only [wD, wDs]; omega)
theorem outPs_get : ∀ xs : List PyData, partsD xs = true → ((outPs xs).length : Int) = manyPs xs ∧ ∀ k : Nat, (k : Int) < manyPs xs → (outPs xs)[k]? = some (atPs xs k)
  | [], _ => ⟨rfl, fun k hk => by simp only [manyPs] at hk; omega⟩
  | x :: xs, h => by
    simp only [partsD, Bool.and_eq_true] at h
    obtain ⟨h1, h2⟩ := outP_get x h.1
    obtain ⟨h3, h4⟩ := outPs_get xs h.2
    refine ⟨by simp only [outPs, manyPs, List.length_append]; omega, fun k hk => ?_⟩
    simp only [manyPs] at hk
    simp only [outPs, atPs]
    by_cases lt : (k : Int) < manyP x
    · rw [if_pos lt, List.getElem?_append_left (by omega), h2 k lt]
    · rw [if_neg lt, List.getElem?_append_right (by omega)]
      have e : ((k - (outP x).length : Nat) : Int) = (k : Int) - manyP x := by omega
      rw [h4 _ (by rw [e]; omega), e]
termination_by xs => 2 * wDs xs + 1
decreasing_by all_goals (have := wD_pos x; simp only [wDs]; omega)
end
theorem parts_split {xs : List PyData} (h : partsD xs = true) (i : Nat) : partsD (xs.take i) = true ∧ partsD (xs.drop i) = true := by
  rw [← List.take_append_drop i xs, partsD_eq, List.all_append, Bool.and_eq_true, ← partsD_eq, ← partsD_eq] at h
  exact h
theorem many_take {xs : List PyData} (h : partsD xs = true) (i : Nat) : 0 ≤ manyPs (xs.take i) ∧ manyPs (xs.take i) ≤ manyPs xs := by
  obtain ⟨h1, h2⟩ := parts_split h i
  have e := manyPs_append (xs.take i) (xs.drop i)
  rw [List.take_append_drop] at e
  have a := (manyPs_bound _ h1).1
  have b := (manyPs_bound _ h2).1
  omega
theorem many_one {xs : List PyData} (h : partsD xs = true) {i : Nat} {d : PyData} (e : xs[i]? = some d) : manyP d ≤ manyPs xs := by
  have h1 := many_take h i
  have h2 := many_take h (i + 1)
  have tk : xs.take (i + 1) = xs.take i ++ [d] := by rw [List.take_succ, e]; rfl
  rw [tk, manyPs_append] at h2
  simp only [manyPs] at h2
  omega
theorem many_upto {xs : List PyData} (h : partsD xs = true) {i : Nat} {d : PyData} (e : xs[i]? = some d) : manyPs (xs.take i) + manyP d ≤ manyPs xs := by
  have h2 := many_take h (i + 1)
  have tk : xs.take (i + 1) = xs.take i ++ [d] := by rw [List.take_succ, e]; rfl
  rw [tk, manyPs_append] at h2
  simp only [manyPs] at h2
  omega
theorem drop_at {α : Type} {xs : List α} {i : Nat} {d : α} (e : xs[i]? = some d) : xs.drop i = d :: xs.drop (i + 1) := by
  obtain ⟨il, e⟩ := List.getElem?_eq_some_iff.mp e
  rw [← e]; exact List.drop_eq_getElem_cons il
end MC

set_option Elab.async false
set_option linter.all false
set_option maxRecDepth 100000
set_option maxHeartbeats 4000000
/-! MF: a list of texts by steps, told again. -/
namespace MC
open PySem PySem.Spec L2
/-! a list of texts by steps, told again -/
theorem count_up {n : Nat} {c : Int} (hc : 1 ≤ c) : Builtin.Range.rangeSize 0 n c = ((((n : Int) + c - 1) / c).toNat : Nat) := by
  have h := PyProof.Rows.rangeSize_pos (len := (n : Int)) hc (by omega)
  rw [h]
  have : 0 ≤ ((n : Int) + c - 1) / c := Int.ediv_nonneg (by omega) (by omega)
  omega
theorem up_lt {n k : Nat} {c : Int} (hc : 1 ≤ c) (h : k < (((n : Int) + c - 1) / c).toNat) : (k : Int) * c < n := by
  have h1 : (k : Int) + 1 ≤ ((n : Int) + c - 1) / c := by omega
  have h2 : ((k : Int) + 1) * c ≤ (n : Int) + c - 1 := by
    have := Int.mul_le_mul_of_nonneg_right h1 (show 0 ≤ c by omega)
    have h3 := Int.ediv_mul_le ((n : Int) + c - 1) (show c ≠ 0 by omega)
    omega
  rw [Int.add_mul] at h2
  omega
theorem range_up {n : Nat} {c : Int} (hn : n < 10000) (hc : 1 ≤ c) (hc2 : c < 10000) : RgC 0 n c (((n : Int) + c - 1) / c).toNat := by
  have h := count_up (n := n) hc
  refine ⟨by omega, by omega, ?_, h⟩
  have hb : (((n : Int) + c - 1) / c).toNat ≤ 20000 := by
    have : ((n : Int) + c - 1) / c ≤ (n : Int) + c - 1 := Int.ediv_le_self _ (by omega)
    omega
  unfold Builtin.Range.small
  rw [h]
  have c0 : c > 0 := by omega
  simp only [Builtin.Range.rangeFitsLong, Bool.and_eq_true, Bool.or_eq_true, decide_eq_true_eq, beq_iff_eq, c0, if_true]
  omega
theorem fm_map {α β : Type} {f : α → Option β} {g : α → β} : ∀ {l : List α}, (∀ x ∈ l, f x = some (g x)) → l.filterMap f = l.map g
  | [], _ => rfl
  | x :: l, h => by
    rw [List.filterMap_cons_some (h x (by simp)), List.map_cons, fm_map fun y hy => h y (by simp [hy])]
theorem step_out {d : PyData} (hr : rowD d = true) {c : Int} (hc : 1 ≤ c) : stepV ((outR d).map V.str) c = (List.range (((((outR d).length : Nat) : Int) + c - 1) / c).toNat).map fun k => V.str (atR d ((k : Nat) * c)) := by
  obtain ⟨h1, h2⟩ := outR_get d hr
  unfold stepV sliceRange
  rw [List.length_map]
  have e : (if c > 0 then (if (0 : Int) < (((outR d).length : Nat) : Int) then ((((outR d).length : Nat) : Int) - 0 + c - 1) / c else 0) else (if (0 : Int) > (((outR d).length : Nat) : Int) then (0 - (((outR d).length : Nat) : Int) - c - 1) / (-c) else 0)) = ((((outR d).length : Nat) : Int) + c - 1) / c := by
    rw [if_pos (by omega)]
    by_cases z : (0 : Int) < (((outR d).length : Nat) : Int)
    · rw [if_pos z, Int.sub_zero]
    · rw [if_neg z]
      have : (((outR d).length : Nat) : Int) = 0 := by omega
      rw [this]
      exact (Int.ediv_eq_zero_of_lt (by omega) (by omega)).symm
  rw [e, List.filterMap_map]
  refine fm_map fun k hk => ?_
  have kl := up_lt hc (List.mem_range.mp hk)
  have k0 : 0 ≤ (k : Int) * c := Int.mul_nonneg (by omega) (by omega)
  show ((outR d).map V.str)[(0 + c * (k : Int)).toNat]? = _
  have e2 : (0 + c * (k : Int)).toNat = ((k : Int) * c).toNat := by rw [Int.mul_comm]; congr 1; omega
  rw [e2, List.getElem?_map, h2 _ (by omega), show ((((k : Int) * c).toNat : Nat) : Int) = (k : Int) * c by omega]
  rfl
mutual
theorem outR_things : ∀ d : PyData, rowD d = true → (outR d).all isThingS = true
  | .list xs, h => outPs_things xs h
  | .tuple xs, h => outPs_things xs h
  | .none, h => by simp [rowD] at h
  | .bool _, h => by simp [rowD] at h
  | .int _, h => by simp [rowD] at h
  | .str _, h => by simp [rowD] at h
  | .dict _, h => by simp [rowD] at h
termination_by d => 2 * wD d
decreasing_by all_goals (simp only [wD]; omega)
theorem outP_things : ∀ d : PyData, partD d = true → (outP d).all isThingS = true
  | .str z, h => by
    have h' : isThingS z = true := h
    simp [outP, h']
  | .tuple [r, .int t], h => by
    simp only [partD, timesOk, Bool.and_eq_true, decide_eq_true_eq, Bool.not_eq_true'] at h
    have hr := outR_things r h.2
    rw [List.all_eq_true] at hr ⊢
    intro z hz
    obtain ⟨l, hl, hz2⟩ := List.mem_flatten.mp (show z ∈ (List.replicate t.toNat (outR r)).flatten from hz)
    rw [(List.mem_replicate.mp hl).2] at hz2
    exact hr z hz2
  | .tuple [], h => by cases (show false = true from h)
  | .tuple [_], h => by cases (show false = true from h)
  | .tuple [_, .none], h => by cases (show false = true from h)
  | .tuple [_, .bool _], h => by cases (show false = true from h)
  | .tuple [_, .str _], h => by cases (show false = true from h)
  | .tuple [_, .list _], h => by cases (show false = true from h)
  | .tuple [_, .tuple _], h => by cases (show false = true from h)
  | .tuple [_, .dict _], h => by cases (show false = true from h)
  | .tuple (_ :: _ :: _ :: _), h => by rcases partD_cases h with ⟨z, e, _⟩ | ⟨r, t, e, _⟩ <;> cases e
  | .none, h => by cases (show false = true from h)
  | .bool _, h => by cases (show false = true from h)
  | .int _, h => by cases (show false = true from h)
  | .list _, h => by cases (show false = true from h)
  | .dict _, h => by cases (show false = true from h)
termination_by d => 2 * wD d
decreasing_by all_goals (simp only [wD, wDs]; omega)
theorem outPs_things : ∀ xs : List PyData, partsD xs = true → (outPs xs).all isThingS = true
  | [], _ => rfl
  | x :: xs, h => by
    simp only [partsD, Bool.and_eq_true] at h
    simp only [outPs, List.all_append, outP_things x h.1, outPs_things xs h.2, Bool.and_self]
termination_by xs => 2 * wDs xs + 1
decreasing_by all_goals (have := wD_pos x; simp only [wDs]; omega)
end
theorem atPs_after {xs : List PyData} (h : partsD xs = true) (ys : List PyData) {p : Int} (hp : manyPs xs ≤ p) : atPs (xs ++ ys) p = atPs ys (p - manyPs xs) := by
  induction xs generalizing p with
  | nil => simp [manyPs]
  | cons x xs ih =>
    simp only [partsD, Bool.and_eq_true] at h
    have h1 := (manyP_bound x h.1).1
    have h2 := (manyPs_bound xs h.2).1
    simp only [manyPs] at hp ⊢
    simp only [List.cons_append, atPs]
    rw [if_neg (by omega), ih h.2 (by omega)]
    congr 1
    omega
theorem dp_strs (K : PySem.W.Frag) (H : Hp) : ∀ zs : List Str, DpAll K H (zs.map V.str) (zs.map PyData.str)
  | [] => .nil
  | z :: zs => .cons (.str z) (dp_strs K H zs)
theorem eqv_strs : ∀ zs : List Str, PyData.eqvAll (zs.map PyData.str) (zs.map PyData.str) = true
  | [] => by simp only [List.map_nil, PyData.eqvAll]
  | z :: zs => by simp only [List.map_cons, PyData.eqvAll, PyData.eqv, eqv_strs zs, beq_self_eq_true, Bool.and_self]
theorem lay_strs : ∀ zs : List Str, zs.all isThingS = true → PyData.canLayAll0 (zs.map PyData.str) = true ∧ PyData.depthAll (zs.map PyData.str) = 0
  | [], _ => ⟨by simp only [List.map_nil, PyData.canLayAll0], by simp only [List.map_nil, PyData.depthAll]⟩
  | z :: zs, h => by
    rw [List.all_cons, Bool.and_eq_true] at h
    obtain ⟨h1, h2⟩ := lay_strs zs h.2
    refine ⟨?_, by simp only [List.map_cons, PyData.depthAll, PyData.depth, h2]; omega⟩
    simp only [List.map_cons, PyData.canLayAll0, PyData.canLay0, h1, Bool.and_true]
    have ht := h.1
    unfold isThingS at ht
    simp only [Bool.and_eq_true, List.all_eq_true] at ht
    show PySem.PyData.strOk z = true
    unfold PySem.PyData.strOk
    rw [← Array.all_toList, List.all_eq_true]
    intro c hc
    have := ht.2 c hc
    unfold isSign at this
    simp only [Bool.and_eq_true, decide_eq_true_eq] at this
    exact decide_eq_true (Nat.lt_of_le_of_lt this.2 (by decide))
theorem shaped_strs {zs : List Str} (h : zs.all isThingS = true) : SeqAt.shaped (.list (zs.map PyData.str)) = true := by
  obtain ⟨h1, h2⟩ := lay_strs zs h
  unfold SeqAt.shaped
  rw [Bool.and_eq_true]
  refine ⟨by simp only [PyData.canLay0]; exact h1, decide_eq_true (by simp only [PyData.depth]; omega)⟩
/-- what stands at places is a thing -/
theorem at_thing {d : PyData} (h : rowD d = true) {p : Int} (h0 : 0 ≤ p) (h1 : p < manyR d) : isThingS (atR d p) = true := by
  have g := (outR_get d h).2 p.toNat (by omega)
  rw [show ((p.toNat : Nat) : Int) = p by omega] at g
  exact List.all_eq_true.mp (outR_things d h) _ (List.mem_of_getElem? g)
end MC

set_option Elab.async false
set_option linter.all false
set_option maxRecDepth 100000
set_option maxHeartbeats 4000000
/-! MG: how often ahead, the place of the so-manieth: on rows laid out. -/
namespace MC
open PySem PySem.Spec L2
/-- how often z stands ahead of place p of l -/
def aheadL (l : List Str) (z : Str) (p : Nat) : Nat := (l.take p).count z
/-- p is the place of the n-th z -/
def IsNth (l : List Str) (z : Str) (n p : Nat) : Prop := l[p]? = some z ∧ aheadL l z p = n
theorem aheadL_le (l : List Str) (z : Str) (p : Nat) : aheadL l z p ≤ l.count z := List.Sublist.count_le z (List.take_sublist p l)
theorem aheadL_all {l : List Str} {z : Str} {p : Nat} (h : l.length ≤ p) : aheadL l z p = l.count z := by
  unfold aheadL; rw [List.take_of_length_le h]
theorem aheadL_append (a b : List Str) (z : Str) (p : Nat) : aheadL (a ++ b) z p = aheadL a z p + aheadL b z (p - a.length) := by
  unfold aheadL; rw [List.take_append, List.count_append]
theorem aheadL_succ {l : List Str} {p : Nat} {x : Str} (h : l[p]? = some x) (z : Str) : aheadL l z (p + 1) = aheadL l z p + (if x = z then 1 else 0) := by
  unfold aheadL
  rw [show l.take (p + 1) = l.take p ++ [x] by rw [List.take_succ, h]; rfl, List.count_append, List.count_singleton]
  by_cases e : x = z
  · simp [e]
  · simp [e]
theorem aheadL_mono (l : List Str) (z : Str) {p q : Nat} (h : p ≤ q) : aheadL l z p ≤ aheadL l z q := by
  unfold aheadL
  exact List.Sublist.count_le z ((List.take_prefix_take_left h).sublist)
/-- there is but one -/
theorem isNth_inj {l : List Str} {z : Str} {n p q : Nat} (h : IsNth l z n p) (k : IsNth l z n q) : p = q := by
  have main : ∀ {p q : Nat}, IsNth l z n p → IsNth l z n q → ¬ p < q := fun {p q} h k lt => by
    have a := aheadL_succ h.1 z
    have b := aheadL_mono l z (show p + 1 ≤ q from lt)
    rw [if_pos rfl, h.2] at a
    rw [k.2] at b
    omega
  have h1 := main h k
  have h2 := main k h
  omega
theorem isNth_lt {l : List Str} {z : Str} {n p : Nat} (h : IsNth l z n p) : p < l.length := (List.getElem?_eq_some_iff.mp h.1).1
theorem rep_take {α : Type} (l : List α) (h : 0 < l.length) (t p : Nat) (hp : p ≤ t * l.length) : (List.replicate t l).flatten.take p = (List.replicate (p / l.length) l).flatten ++ l.take (p % l.length) := by
  induction t generalizing p with
  | zero =>
    have : p = 0 := by omega
    subst this
    simp
  | succ t ih =>
    rw [List.replicate_succ, List.flatten_cons, List.take_append]
    by_cases lt : p < l.length
    · rw [Nat.div_eq_of_lt lt, Nat.mod_eq_of_lt lt, show p - l.length = 0 by omega]
      simp
    · have ge : l.length ≤ p := by omega
      rw [List.take_of_length_le ge, ih (p - l.length) (by rw [Nat.succ_mul] at hp; omega)]
      have e1 : p / l.length = (p - l.length) / l.length + 1 := by rw [Nat.div_eq_sub_div h ge]
      have e2 : p % l.length = (p - l.length) % l.length := by rw [Nat.mod_eq_sub_mod ge]
      rw [e1, e2, List.replicate_succ, List.flatten_cons, List.append_assoc]
theorem rep_count (l : List Str) (z : Str) (t : Nat) : (List.replicate t l).flatten.count z = t * l.count z := by
  induction t with
  | zero => simp
  | succ t ih => rw [List.replicate_succ, List.flatten_cons, List.count_append, ih, Nat.succ_mul]; omega
/-- ahead of a place within what is said over -/
theorem aheadL_rep {l : List Str} {z : Str} (h : 0 < l.length) {t p : Nat} (hp : p ≤ t * l.length) : aheadL (List.replicate t l).flatten z p = p / l.length * l.count z + aheadL l z (p % l.length) := by
  unfold aheadL
  rw [rep_take l h t p hp, List.count_append, rep_count]
/-- the n-th within what is said over -/
theorem isNth_rep {l : List Str} {z : Str} {t k n p : Nat} (hk : k < t) (h : IsNth l z n p) : IsNth (List.replicate t l).flatten z (k * l.count z + n) (k * l.length + p) := by
  have pl := isNth_lt h
  have l0 : 0 < l.length := by omega
  have lt : k * l.length + p < t * l.length := by
    have : (k + 1) * l.length ≤ t * l.length := Nat.mul_le_mul_right _ hk
    rw [Nat.succ_mul] at this
    omega
  have e1 : (k * l.length + p) % l.length = p := by rw [Nat.add_comm, Nat.add_mul_mod_self_right, Nat.mod_eq_of_lt pl]
  have e2 : (k * l.length + p) / l.length = k := by rw [Nat.add_comm, Nat.add_mul_div_right _ _ l0, Nat.div_eq_of_lt pl]; omega
  refine ⟨?_, ?_⟩
  · rw [rep_get _ _ _ lt, e1]; exact h.1
  · rw [aheadL_rep l0 (Nat.le_of_lt lt), e1, e2, h.2]
theorem isNth_after {a b : List Str} {z : Str} {n p : Nat} (h : IsNth b z n p) : IsNth (a ++ b) z (a.count z + n) (a.length + p) := by
  refine ⟨?_, ?_⟩
  · rw [List.getElem?_append_right (by omega), show a.length + p - a.length = p by omega]; exact h.1
  · rw [aheadL_append, aheadL_all (by omega), show a.length + p - a.length = p by omega, h.2]
theorem isNth_before {a b : List Str} {z : Str} {n p : Nat} (h : IsNth a z n p) : IsNth (a ++ b) z n p := by
  have pl := isNth_lt h
  refine ⟨?_, ?_⟩
  · rw [List.getElem?_append_left pl]; exact h.1
  · rw [aheadL_append, h.2, show p - a.length = 0 by omega]; simp [aheadL]
end MC

set_option Elab.async false
set_option linter.all false
set_option maxRecDepth 100000
set_option maxHeartbeats 4000000
/-! MH: lists that hold lists and dicts from texts to numbers: their repr. -/
namespace MC
open PySem PySem.Spec L2
def dctV (kvs : List (Str × Int)) : List (Key × V) := kvs.map fun p => (Sum.inr p.1, V.int p.2)
def dctD (kvs : List (Str × Int)) : List (PyData × PyData) := kvs.map fun p => (PyData.str p.1, PyData.int p.2)
mutual
inductive DE (H : Hp) : V → PyData → Prop
  | of {v : V} {d : PyData} (h : DD H v d) : DE H v d
  | dct {a : Addr} {kvs : List (Str × Int)} (h : H a = some (.dK (dctV kvs))) : DE H (.ref a) (.dict (dctD kvs))
  | lst {a : Addr} {xs : List V} {ds : List PyData} (h : H a = some (.lst xs)) (hs : DEs H xs ds) : DE H (.ref a) (.list ds)
inductive DEs (H : Hp) : List V → List PyData → Prop
  | nil : DEs H [] []
  | cons {v : V} {vs : List V} {d : PyData} {ds : List PyData} (h : DE H v d) (hs : DEs H vs ds) : DEs H (v :: vs) (d :: ds)
end
section
variable {X : Cx} {pins : List (Addr × Obj)} {σ : St} {H : Hp} {s : Shared}
theorem pairs_reads {h : Heap} {P : Program} {w : World} : ∀ {kvs : List (Str × Int)} {vs : List (Key × Value)} {es : List DictEntry}, KV (dctV kvs) vs → Pairs (mixKind P w) es vs →
    ReadsAll h (es.map (·.key)) ((dctD kvs).map (·.1)) [] ∧ ReadsAll h (es.map (·.val)) ((dctD kvs).map (·.2)) []
  | [], _, _, kv, p => by
    cases kv; cases p
    exact ⟨.nil, .nil⟩
  | (x, i) :: kvs, _, _, kv, p => by
    cases kv with
    | cons h1 h2 =>
      cases p with
      | @cons en kw es' kvs' g1 g2 g3 =>
        obtain ⟨a, b⟩ := pairs_reads (h := h) h2 g3
        obtain ⟨e1, t, e2⟩ := h1
        rw [← e1] at g1
        rw [e2] at g2
        have hk : ∃ t', en.key = Value.str x t' := by
          have g : keyIs (Sum.inr x : Key) en.key = true := g1
          rcases keyIs_shape g with ⟨j, t', e, _⟩ | ⟨y, t', e, e'⟩
          · exact nomatch e
          · injection e with e
            subst e
            exact ⟨t', e'⟩
        obtain ⟨t', ek⟩ := hk
        refine ⟨?_, ?_⟩
        · show ReadsAll h (en.key :: es'.map (·.key)) (.str x :: (dctD kvs).map (·.1)) ([] ++ [])
          rw [ek]
          exact .cons (.str x t') a
        · show ReadsAll h (en.val :: es'.map (·.val)) (.int i :: (dctD kvs).map (·.2)) ([] ++ [])
          rw [g2]
          exact .cons (.int i t) b
mutual
theorem DE.reads (I : Inv X pins σ H s) : ∀ {d : PyData} {v : V} {u : Value}, DE H v d → RelV v u → ∃ as, Reads s.heap u d as ∧ ∀ b ∈ as, H b ≠ none
  | _, _, _, .of h, r => DD.reads I _ _ _ h r
  | _, _, _, .dct (kvs := kvs) h, r => by
    cases r
    obtain ⟨_, _, vs, kv, o, es, ep, ho, hx, hd, _, hm, _⟩ := (show ObjOk X.prog X.w H s.heap _ (.dK (dctV kvs)) from I.hok _ _ h)
    obtain ⟨a, b⟩ := pairs_reads (h := s.heap) kv hm
    refine ⟨_, .dict ho hx.1 hd a b, fun b hb => ?_⟩
    rw [List.append_nil] at hb
    rw [List.mem_singleton.mp hb, h]
    exact fun z => nomatch z
  | _, _, _, .lst h hs, r => by
    cases r
    obtain ⟨_, its, n, rv, ho⟩ := (show ObjOk X.prog X.w H s.heap _ (.lst _) from I.hok _ _ h)
    obtain ⟨as, hr, hb⟩ := DEs.reads I hs rv
    refine ⟨_, .list ho rfl rfl (by simpa using hr), fun b hbm => ?_⟩
    rcases List.mem_cons.mp hbm with rfl | hbm
    · rw [h]; exact fun z => nomatch z
    · exact hb b hbm
theorem DEs.reads (I : Inv X pins σ H s) : ∀ {ds : List PyData} {vs : List V} {us : List Value}, DEs H vs ds → Vals vs us → ∃ as, ReadsAll s.heap us ds as ∧ ∀ b ∈ as, H b ≠ none
  | _, _, _, .nil, r => by
    cases r
    exact ⟨_, .nil, fun b hb => nomatch hb⟩
  | _, _, _, .cons h hs, r => by
    cases r with
    | cons r1 r2 =>
      obtain ⟨as, q1, b1⟩ := DE.reads I h r1
      obtain ⟨bs, q2, b2⟩ := DEs.reads I hs r2
      exact ⟨_, .cons q1 q2, fun b hb => (List.mem_append.mp hb).elim (b1 b) (b2 b)⟩
end
def rReprE : List V → Hp → VK → Prop := fun xs H Q => ∃ (a : Addr) (d : PyData), xs = [.ref a] ∧ DE H (.ref a) d ∧ d.showable = true ∧ d.depth ≤ 100 ∧ d.shown.length ≤ sizeLine ∧ Q (.str d.shown) H
theorem call_reprE (hg : X.A.guards = some []) (hu : X.A.units + 200 < cLine) (hn : NoSys X) : CallR X (.builtin "repr") rReprE := by
  intro pins s σ H xs us Q I r h
  obtain ⟨a, d, rfl, hd, hs, hdp, hz, q⟩ := h
  obtain ⟨u, rfl, rx⟩ := vals1 r
  obtain ⟨as, rd, nb⟩ := DE.reads I hd rx
  cases rx
  refine repr_of_reads' rd hs (fun _ hm => ?_) hg (by omega) (fun _ _ e => e) (fun h' u tk hk => ⟨.str _, H, I.kept (h' := h') (t' := tk) hk, ⟨_, rfl⟩, q⟩) hz
  obtain ⟨o, ho⟩ := hn
  exact nb _ hm (I.bs _ _ (I.ok.mod.kin _ _ ho)).2
end
end MC

set_option Elab.async false
set_option linter.all false
set_option maxRecDepth 100000
set_option maxHeartbeats 4000000
/-! MI: the order of first asks. -/
namespace MC
open PySem PySem.Spec L2
def addF (acc : List Str) (z : Str) : List Str := if z ∈ acc then acc else acc ++ [z]
def firstsL (l : List Str) : List Str := l.foldl addF []
theorem firstsL_snoc (l : List Str) (z : Str) : firstsL (l ++ [z]) = addF (firstsL l) z := by
  unfold firstsL; rw [List.foldl_append]; rfl
theorem snoc_ind {P : List Str → Prop} (h0 : P []) (hs : ∀ l z, P l → P (l ++ [z])) : ∀ l, P l := by
  intro l
  have main : ∀ r : List Str, P r.reverse := fun r => by
    induction r with
    | nil => exact h0
    | cons x r ih => rw [List.reverse_cons]; exact hs _ _ ih
  have := main l.reverse
  rwa [List.reverse_reverse] at this
theorem mem_firstsL (z : Str) (l : List Str) : z ∈ firstsL l ↔ z ∈ l := by
  refine snoc_ind (P := fun l => z ∈ firstsL l ↔ z ∈ l) (by simp [firstsL]) (fun l y ih => ?_) l
  rw [firstsL_snoc]
  unfold addF
  by_cases h : y ∈ firstsL l
  · rw [if_pos h, ih]
    constructor
    · intro g; exact List.mem_append_left _ g
    · intro g
      rcases List.mem_append.mp g with g | g
      · exact g
      · rw [List.mem_singleton.mp g] at ih ⊢
        exact ih.mp h
  · rw [if_neg h]
    simp only [List.mem_append, List.mem_singleton, ih]
theorem firstsL_nodup (l : List Str) : (firstsL l).Nodup := by
  refine snoc_ind (P := fun l => (firstsL l).Nodup) (by simp [firstsL]) (fun l y ih => ?_) l
  rw [firstsL_snoc]
  unfold addF
  by_cases h : y ∈ firstsL l
  · rw [if_pos h]; exact ih
  · rw [if_neg h, List.nodup_append]
    refine ⟨ih, by simp, ?_⟩
    intro a ha b hb e
    rw [List.mem_singleton.mp hb] at e
    exact h (e ▸ ha)
theorem fold_add (acc l : List Str) : l.foldl addF acc = acc ++ (firstsL l).filter (fun z => decide (z ∉ acc)) := by
  refine snoc_ind (P := fun l => l.foldl addF acc = acc ++ (firstsL l).filter (fun z => decide (z ∉ acc))) (by simp [firstsL]) (fun l y ih => ?_) l
  rw [List.foldl_append, ih, firstsL_snoc]
  show addF (acc ++ (firstsL l).filter (fun z => decide (z ∉ acc))) y = acc ++ (addF (firstsL l) y).filter (fun z => decide (z ∉ acc))
  unfold addF
  by_cases ha : y ∈ acc
  · rw [if_pos (List.mem_append_left _ ha)]
    by_cases h : y ∈ firstsL l
    · rw [if_pos h]
    · rw [if_neg h, List.filter_append]; simp [ha]
  · by_cases h : y ∈ firstsL l
    · rw [if_pos h, if_pos (List.mem_append_right _ (List.mem_filter.mpr ⟨h, by simpa using ha⟩))]
    · rw [if_neg h, if_neg (fun g => by
        rcases List.mem_append.mp g with g | g
        · exact ha g
        · exact h (List.mem_filter.mp g).1), List.filter_append]
      simp [ha, List.append_assoc]
theorem firstsL_append (a b : List Str) : firstsL (a ++ b) = firstsL a ++ (firstsL b).filter (fun z => decide (z ∉ firstsL a)) := by
  unfold firstsL
  rw [List.foldl_append]
  exact fold_add _ b
/-- what asks nothing new adds nothing -/
theorem firstsL_old {a b : List Str} (h : ∀ z ∈ b, z ∈ a) : firstsL (a ++ b) = firstsL a := by
  rw [firstsL_append, List.filter_eq_nil_iff.mpr, List.append_nil]
  intro z hz
  have := h z ((mem_firstsL z b).mp hz)
  simp [(mem_firstsL z a).mpr this]
theorem firstsL_rep {l : List Str} {t : Nat} (h : 1 ≤ t) : firstsL (List.replicate t l).flatten = firstsL l := by
  obtain ⟨n, rfl⟩ : ∃ n, t = n + 1 := ⟨t - 1, by omega⟩
  rw [List.replicate_succ, List.flatten_cons]
  refine firstsL_old fun z hz => ?_
  obtain ⟨m, hm, hz2⟩ := List.mem_flatten.mp hz
  rw [(List.mem_replicate.mp hm).2] at hz2
  exact hz2
theorem rep_reverse (l : List Str) (t : Nat) : (List.replicate t l).flatten.reverse = (List.replicate t l.reverse).flatten := by
  rw [List.reverse_flatten, List.map_replicate, List.reverse_replicate]
/-- the same first asks, the same last ones -/
def Al (a b : List Str) : Prop := firstsL a = firstsL b ∧ firstsL a.reverse = firstsL b.reverse
theorem Al.append {a a' b b' : List Str} (h : Al a a') (k : Al b b') : Al (a ++ b) (a' ++ b') := by
  refine ⟨?_, ?_⟩
  · rw [firstsL_append, firstsL_append, h.1, k.1]
  · rw [List.reverse_append, List.reverse_append, firstsL_append, firstsL_append, h.2, k.2]
theorem Al.rep {a a' : List Str} (h : Al a a') {t t' : Nat} (ht : 1 ≤ t) (ht' : 1 ≤ t') : Al (List.replicate t a).flatten (List.replicate t' a').flatten := by
  refine ⟨?_, ?_⟩
  · rw [firstsL_rep ht, firstsL_rep ht', h.1]
  · rw [rep_reverse, rep_reverse, firstsL_rep ht, firstsL_rep ht', h.2]
mutual
/-- each again said twice at most, in lists -/
def twR : PyData → PyData
  | .list xs => .list (twPs xs)
  | .tuple xs => .list (twPs xs)
  | d => d
def twP : PyData → PyData
  | .tuple [r, .int t] => .tuple [twR r, .int (min 2 t)]
  | d => d
def twPs : List PyData → List PyData
  | [] => []
  | x :: xs => twP x :: twPs xs
end
mutual
theorem twR_al : ∀ d : PyData, rowD d = true → Al (outR (twR d)) (outR d) ∧ rowD (twR d) = true ∧ dNil (twR d) = dNil d
  | .list xs, h => by
    obtain ⟨h1, h2, h3⟩ := twPs_al xs h
    exact ⟨h1, h2, by cases xs <;> rfl⟩
  | .tuple xs, h => by
    obtain ⟨h1, h2, h3⟩ := twPs_al xs h
    exact ⟨h1, h2, by cases xs <;> rfl⟩
  | .none, h => by simp [rowD] at h
  | .bool _, h => by simp [rowD] at h
  | .int _, h => by simp [rowD] at h
  | .str _, h => by simp [rowD] at h
  | .dict _, h => by simp [rowD] at h
termination_by d => 2 * wD d
decreasing_by all_goals (simp only [wD]; omega)
theorem twP_al : ∀ d : PyData, partD d = true → Al (outP (twP d)) (outP d) ∧ partD (twP d) = true
  | .str z, h => ⟨⟨rfl, rfl⟩, h⟩
  | .tuple [r, .int t], h => by
    simp only [partD, timesOk, Bool.and_eq_true, decide_eq_true_eq, Bool.not_eq_true'] at h
    obtain ⟨⟨⟨t1, t2⟩, hn⟩, hr⟩ := h
    obtain ⟨h1, h2, h3⟩ := twR_al r hr
    refine ⟨?_, ?_⟩
    · show Al (List.replicate (min 2 t).toNat (outR (twR r))).flatten (List.replicate t.toNat (outR r)).flatten
      exact h1.rep (by omega) (by omega)
    · show (timesOk (min 2 t) && !dNil (twR r) && rowD (twR r)) = true
      rw [h3, h2, hn]
      have : timesOk (min 2 t) = true := by
        simp only [timesOk, Bool.and_eq_true, decide_eq_true_eq]
        omega
      rw [this]
      rfl
  | .tuple [], h => by cases (show false = true from h)
  | .tuple [_], h => by cases (show false = true from h)
  | .tuple [_, .none], h => by cases (show false = true from h)
  | .tuple [_, .bool _], h => by cases (show false = true from h)
  | .tuple [_, .str _], h => by cases (show false = true from h)
  | .tuple [_, .list _], h => by cases (show false = true from h)
  | .tuple [_, .tuple _], h => by cases (show false = true from h)
  | .tuple [_, .dict _], h => by cases (show false = true from h)
  | .tuple (_ :: _ :: _ :: _), h => by rcases partD_cases h with ⟨z, e, _⟩ | ⟨r, t, e, _⟩ <;> cases e
  | .none, h => by cases (show false = true from h)
  | .bool _, h => by cases (show false = true from h)
  | .int _, h => by cases (show false = true from h)
  | .list _, h => by cases (show false = true from h)
  | .dict _, h => by cases (show false = true from h)
termination_by d => 2 * wD d
decreasing_by all_goals (simp only [wD, wDs]; omega)
theorem twPs_al : ∀ xs : List PyData, partsD xs = true → Al (outPs (twPs xs)) (outPs xs) ∧ partsD (twPs xs) = true ∧ (twPs xs).length = xs.length
  | [], _ => ⟨⟨rfl, rfl⟩, rfl, rfl⟩
  | x :: xs, h => by
    simp only [partsD, Bool.and_eq_true] at h
    obtain ⟨h1, h2⟩ := twP_al x h.1
    obtain ⟨k1, k2, k3⟩ := twPs_al xs h.2
    refine ⟨?_, ?_, ?_⟩
    · simp only [twPs, outPs]; exact h1.append k1
    · simp only [twPs, partsD, h2, k2, Bool.and_self]
    · simp only [twPs, List.length_cons, k3]
termination_by xs => 2 * wDs xs + 1
decreasing_by all_goals (have := wD_pos x; simp only [wDs]; omega)
end
end MC

set_option Elab.async false
set_option linter.all false
set_option maxRecDepth 100000
set_option maxHeartbeats 4000000
/-! MJ: a list or a tuple from its end. -/
namespace MC
open PySem PySem.Spec PyProof.Rows
section
variable {prog : Program} {w : World} {A : Around} {E : Value → Shared → Prop} {s : Shared}
theorem rev_bounds (n : Nat) : Builtin.Slice.sliceAdjust none none (-1) (n : Int) = ((n : Int) - 1, -1) := by
  simp [Builtin.Slice.sliceAdjust]
theorem rev_places (n : Nat) : Builtin.Slice.slicePlaces ((n : Int) - 1) (-1) (-1) = n := by
  unfold Builtin.Slice.slicePlaces
  by_cases h : n = 0
  · subst h; decide
  · simp
    omega
theorem rev_pick (xs : Array Value) : ((List.range xs.size).filterMap fun (k : Nat) => xs[((xs.size : Int) - 1 + (k : Int) * -1).toNat]?).toArray = xs.toList.reverse.toArray := by
  have e : (fun (k : Nat) => xs[((xs.size : Int) - 1 + (k : Int) * -1).toNat]?) = (xs[·]?) ∘ fun k => xs.size - 1 - k := by
    funext k
    show xs[((xs.size : Int) - 1 + (k : Int) * -1).toNat]? = xs[xs.size - 1 - k]?
    rw [show ((xs.size : Int) - 1 + (k : Int) * -1).toNat = xs.size - 1 - k by omega]
  rw [e, ← List.filterMap_map, PySem.W.krv_range, List.filterMap_reverse, PySem.W.krv_all]
theorem rev_applied {sl : Addr} {vl vu vs : Value} {n : Nat} {Q : Int × Int × Nat → Shared → Prop} (hs : s.heap.IsSliceOf sl vl vu vs) (pl : IsPart vl none) (pu : IsPart vu none) (ps : IsPart vs (some (-1)))
    (h : Q ((n : Int) - 1, -1, n) s) : wpAny (model prog w) A (Builtin.Slice.sliceApplied (.ref sl) (pure (n : Int))) Q E s := by
  obtain ⟨o, ho, hc, hd⟩ := id hs
  unfold Builtin.Slice.sliceApplied; unfold Builtin.Slice.sliceFields
  refine wpAny_bind (wpAny_bind (wpAny_field ho hd (x := vl) rfl (wpAny_bind (wpAny_field ho hd (x := vu) rfl (wpAny_bind (wpAny_field ho hd (x := vs) rfl (wpAny_pure ?_)))))))
  refine wpAny_bind (HT.slicePart_ ps ?_)
  show wpAny _ _ (if ((-1 : Int) == 0) = true then _ else _) _ _ s
  rw [if_neg (by decide)]
  refine wpAny_bind (HT.slicePart_ pl (wpAny_bind (HT.slicePart_ pu (wpAny_bind (wpAny_pure ?_)))))
  show wpAny _ _ (match Builtin.Slice.sliceAdjust none none (-1) (n : Int) with | (a, b) => pure (a, (-1 : Int), Builtin.Slice.slicePlaces a b (-1))) _ _ s
  rw [rev_bounds n]
  show wpAny _ _ (pure ((n : Int) - 1, (-1 : Int), Builtin.Slice.slicePlaces ((n : Int) - 1) (-1) (-1))) _ _ s
  rw [rev_places]
  exact wpAny_pure h
theorem tup_rev {t sl : Addr} {items : Array Value} {vl vu vs : Value} {Q : Value → Shared → Prop} (ht : IsTup s.heap t items) (hs : s.heap.IsSliceOf sl vl vu vs) (pl : IsPart vl none) (pu : IsPart vu none) (ps : IsPart vs (some (-1)))
    (h : Q (.ref s.heap.objs.size) { s with heap := s.heap.push { cls := .type "tuple", data := .seq items.toList.reverse.toArray } }) (hz : items.size ≤ sizeLine) : wpAny (model prog w) A (getItem (.ref t) (.ref sl)) Q E s := by
  have ok : sizeOk (.seq items.toList.reverse.toArray) := by
    (show items.toList.reverse.toArray.size ≤ sizeLine); skip
    rw [List.size_toArray, List.length_reverse, Array.length_toList]
    exact hz
  obtain ⟨o, ho, hc, hd⟩ := id hs
  have ty : s.TypeIs (.ref sl) "slice" := ⟨o, ho, hc⟩
  unfold getItem; (try with_reducible refine wpAny_holding ?_); (first | refine wpAny_bind (wpAny_pure ?_) | skip); refine wpAny_bind (wpAny_sequenceKey ht.typeIs (by decide) ?_)
  refine wpAny_bind (wpAny_callSpecial?_slot (name := Str.ofString "__getitem__") ht.typeIs PyProof.Rows.slot_tuple_getitem (wpAny_call_entry PyProof.Rows.slot_tuple_getitem ht.typeIs entry_tuple_getitem ?_ (args_tuple_getitem _ _)))
  (show wpAny _ _ (Builtin.Tuple.tupleItemsOf (.ref t) >>= _) _ _ s); refine wpAny_bind (tupleItemsOf_ ht (wpAny_bind (wpAny_typeOf ty ?_))); rw [if_pos (by decide)]
  refine wpAny_bind (rev_applied hs pl pu ps ?_)
  have no : ¬ ((((items.size : Int) - 1) == 0 && (-1 : Int) == 1 && items.size == items.size) = true) := by simp
  show wpAny _ _ (if (((items.size : Int) - 1) == 0 && (-1 : Int) == 1 && items.size == items.size) = true then _ else _) _ _ s
  rw [if_neg no, rev_pick]
  (first | (exact wpAny_bind (m := Builtin.Tuple.tupleExact _) (wpAny_newObj_type (wpAny_pure ⟨_, rfl, wpAny_pure h⟩) ok)) | (exact wpAny_bind (m := Builtin.Tuple.tupleExact _) (wpAny_newObj_type (wpAny_bind (wpAny_pure (wpAny_pure ⟨_, rfl, wpAny_pure h⟩))) ok)) | (exact wpAny_bind (wpAny_bind (m := Builtin.Tuple.tupleExact _) (wpAny_newObj_type (wpAny_pure (wpAny_pure ⟨_, rfl, wpAny_pure h⟩)) ok))) | (exact wpAny_bind (wpAny_bind (m := Builtin.Tuple.tupleExact _) (wpAny_newObj_type (wpAny_pure ⟨_, rfl, wpAny_pure h⟩) ok))))
end
end MC
namespace MC
open PySem PySem.Spec L2
open PyProof.Rows hiding St
/-- xs[::-1] of a list or a tuple -/
def tRevX (te : TE) : TE := fun σ H Q => te σ H fun x H1 => ∃ a xs, x = .ref a ∧ SqX H1 a xs ∧ ∀ b H2, Same H1 H2 → SqX H2 b xs.reverse → Q (.ref b) H2
theorem pe_revX {X : Cx} {e : Expr} {te : TE} {k : Nat} {p1 p2 p3 pos : Pos} (he : PE X e te)
    (ho : ∀ a b, subscripted (.Slice none none (some (.UnaryOp .USub (.Constant (.int 1) k p1) p2)) p3) false (.ref a) (.ref b) = operate [.ref a, .ref b] (getItem (.ref a) (.ref b)) := by intro a b; with_unfolding_all rfl)
    : PE X (.Subscript e (.Slice none none (some (.UnaryOp .USub (.Constant (.int 1) k p1) p2)) p3) pos) (tRevX te) := by
  refine ⟨fun pins s σ H Q I h => ?_⟩
  have minus : PO X (some (.UnaryOp .USub (.Constant (.int 1) k p1) p2)) (tPart (tUn (rU fun j => .int (-j)) (tC (.int 1)))) := po_some (pe_un un_neg pe_int)
  refine Subscript_ (thn (he.run pins s σ H _ I h) fun v s1 z => ?_)
  obtain ⟨x, H1, I1, r1, a, xs, rfl, hx, q⟩ := z
  refine wpAny_Slice (thn (po_none.run pins s1 σ H1 (fun o H' => o = none ∧ H' = H1) I1 ⟨rfl, rfl⟩) fun vl s2 z => ?_)
  obtain ⟨_, _, I2, pl, rfl, rfl⟩ := z
  refine thn (po_none.run pins s2 σ _ (fun o H' => o = none ∧ H' = _) I2 ⟨rfl, rfl⟩) fun vu s3 z => ?_
  obtain ⟨_, H3, I3, pu, rfl, e3⟩ := z
  subst e3
  refine thn (minus.run pins s3 σ _ (fun o H' => o = some (-1) ∧ H' = _) I3 ⟨1, rfl, -1, rfl, rfl, rfl⟩) fun vs s4 z => ?_
  obtain ⟨_, H4, I4, ps, rfl, e4⟩ := z
  subst e4
  cases r1
  have I5 := I4.kept (h' := s4.heap.push { cls := .type "slice", data := .fields #[vl, vu, vs] }) (t' := s4.toks) fun b ob q => Heap.get?_push_of_some _ q
  have fresh := I5.hok.fresh (Nat.le_refl _)
  rcases hx with hx | hx
  · obtain ⟨its, r, ht, hz⟩ := I5.list (SqL.of hx)
    have hl := r.length
    refine tail_any (ops := [.ref a, .ref s4.heap.objs.size]) ht.isList.typeIs (PySem.slot_list_getitem.lookup) ?_ (ho _ _)
    have il : its.toArray.size ≤ sizeLine := by rw [List.size_toArray]; omega
    refine wpAny_getItem_list_slice ht.isList (Heap.IsSliceOf.new _ vl vu vs) pl pu ps (by decide) ?_ il; rw [PySem.W.krv_pick]
    exact ⟨.ref _, _, I5.laid (o := .lst xs.reverse) (t' := s4.toks) (fun b ob q => Heap.get?_push_of_some _ q) (Nat.le_refl _) ⟨by rw [List.length_reverse]; exact hz, _, 0, r.reverse, Heap.get?_push_size _ rfl⟩, rfl, q _ _ (fun b o e => by rw [upd_ne (ne_of_none e fresh)]; exact e) (.inl upd_same)⟩
  · obtain ⟨its, r, ht, hz⟩ := I5.tuple (SqT.of hx)
    have hl := r.length
    refine tail_any (ops := [.ref a, .ref s4.heap.objs.size]) ht.typeIs (PyProof.Rows.slot_tuple_getitem.lookup) ?_ (ho _ _)
    refine tup_rev ht (Heap.IsSliceOf.new _ vl vu vs) pl pu ps ?_ (by rw [List.size_toArray]; omega)
    exact ⟨.ref _, _, I5.laid (o := .tup xs.reverse) (t' := s4.toks) (fun b ob q => Heap.get?_push_of_some _ q) (Nat.le_refl _) ⟨by rw [List.length_reverse]; exact hz, _, r.reverse, IsTup.new _ _⟩, rfl, q _ _ (fun b o e => by rw [upd_ne (ne_of_none e fresh)]; exact e) (.inr upd_same)⟩
end MC

set_option Elab.async false
set_option linter.all false
set_option maxRecDepth 100000
set_option maxHeartbeats 4000000
/-! MK: tables of counts, in the order of first asks. -/
namespace MC
open PySem PySem.Spec L2
def tabL (ks : List Str) (f : Str → Int) : List (Str × Int) := ks.map fun z => (z, f z)
def cntsL (l : List Str) : List (Str × Int) := tabL (firstsL l) fun z => (l.count z : Nat)
theorem valV_tab (ks : List Str) (f : Str → Int) (z : Str) : valV (dctV (tabL ks f)) (.inr z) = if z ∈ ks then some (.int (f z)) else none := by
  induction ks with
  | nil => rfl
  | cons k ks ih =>
    show valV ((Sum.inr k, V.int (f k)) :: dctV (tabL ks f)) (.inr z) = _
    by_cases e : k = z
    · subst e
      rw [valV_pos rfl, if_pos (by simp)]
    · rw [valV_neg (fun u : (Sum.inr k : Key) = .inr z => e (by injection u)), ih]
      simp [show ¬ z = k from fun u => e u.symm]
theorem put_tab {ks : List Str} (f : Str → Int) (z : Str) (v : Int) : putK (dctV (tabL ks f)) (.inr z) (.int v) = dctV (tabL (addF ks z) fun y => if y = z then v else f y) := by
  unfold putK
  rw [valV_any, valV_tab]
  unfold addF
  by_cases h : z ∈ ks
  · rw [if_pos h, if_pos h]
    show (if true = true then _ else _) = _
    rw [if_pos rfl]
    unfold dctV tabL
    rw [List.map_map, List.map_map, List.map_map]
    apply List.map_congr_left
    intro y hy
    show (if (Sum.inr y : Key) = .inr z then (Sum.inr y, V.int v) else (Sum.inr y, V.int (f y))) = (Sum.inr y, V.int (if y = z then v else f y))
    by_cases e : y = z
    · rw [if_pos e, if_pos (by rw [e])]
    · rw [if_neg e, if_neg (fun u => e (by injection u))]
  · rw [if_neg h, if_neg h]
    show (if false = true then _ else _) = _
    rw [if_neg (by decide)]
    unfold dctV tabL
    rw [List.map_append, List.map_append, List.map_map, List.map_map]
    congr 1
    · apply List.map_congr_left
      intro y hy
      have : y ≠ z := fun e => h (e ▸ hy)
      show (Sum.inr y, V.int (f y)) = (Sum.inr y, V.int (if y = z then v else f y))
      rw [if_neg this]
    · simp
theorem tab_congr {ks : List Str} {f g : Str → Int} (h : ∀ z ∈ ks, f z = g z) : tabL ks f = tabL ks g := List.map_congr_left fun z hz => by rw [h z hz]
/-- one ask more -/
theorem put_count (l : List Str) (z : Str) : putK (dctV (cntsL l)) (.inr z) (.int (((l.count z : Nat) : Int) + 1)) = dctV (cntsL (l ++ [z])) := by
  unfold cntsL
  rw [put_tab, firstsL_snoc]
  congr 1
  refine tab_congr fun y _ => ?_
  rw [List.count_append, List.count_singleton]
  by_cases e : y = z
  · subst e; simp
  · rw [if_neg e]; simp [show ¬ z = y from fun u => e u.symm]
theorem get_count (l : List Str) (z : Str) : (valV (dctV (cntsL l)) (.inr z)).getD (.int 0) = .int (l.count z : Nat) := by
  unfold cntsL
  rw [valV_tab]
  by_cases h : z ∈ firstsL l
  · rw [if_pos h]; rfl
  · rw [if_neg h]
    have : l.count z = 0 := List.count_eq_zero.mpr (fun g => h ((mem_firstsL z l).mpr g))
    rw [this]
    rfl
theorem drop_split {α : Type} {xs : List α} (j : Nat) {x : α} (h : xs[j]? = some x) : xs = xs.take j ++ x :: xs.drop (j + 1) := by
  rw [← drop_at h, List.take_append_drop]
/-! what an again adds, thing by thing -/
def midL (l m : List Str) (t : Int) (j : Nat) : List (Str × Int) := tabL (((firstsL m).take j).foldl addF (firstsL l)) fun y => ((l.count y : Nat) : Int) + if y ∈ (firstsL m).take j then (m.count y : Nat) * t else 0
theorem mem_fold (z : Str) : ∀ (zs acc : List Str), z ∈ zs.foldl addF acc ↔ z ∈ acc ∨ z ∈ zs
  | [], acc => by simp
  | y :: zs, acc => by
    rw [List.foldl_cons, mem_fold z zs]
    unfold addF
    by_cases h : y ∈ acc
    · rw [if_pos h]
      constructor
      · intro g; exact g.imp id (List.mem_cons_of_mem _)
      · intro g
        rcases g with g | g
        · exact .inl g
        · rcases List.mem_cons.mp g with rfl | g
          · exact .inl h
          · exact .inr g
    · rw [if_neg h]
      simp [or_assoc]
theorem mid_zero (l m : List Str) (t : Int) : midL l m t 0 = cntsL l := by
  unfold midL cntsL
  exact tab_congr fun y _ => by simp
theorem mid_get {l m : List Str} {t : Int} {j : Nat} {z : Str} (h : (firstsL m)[j]? = some z) : (valV (dctV (midL l m t j)) (.inr z)).getD (.int 0) = .int (l.count z : Nat) := by
  have nd := firstsL_nodup m
  have no : z ∉ (firstsL m).take j := fun g => by
    rw [drop_split j h] at nd
    exact (List.nodup_append.mp nd).2.2 z g z (by simp) rfl
  unfold midL
  rw [valV_tab]
  by_cases k : z ∈ ((firstsL m).take j).foldl addF (firstsL l)
  · rw [if_pos k]
    show V.int _ = _
    rw [if_neg no, Int.add_zero]
  · rw [if_neg k]
    have : z ∉ l := fun g => k ((mem_fold z _ _).mpr (.inl ((mem_firstsL z l).mpr g)))
    rw [List.count_eq_zero.mpr this]
    rfl
theorem mid_put {l m : List Str} {t : Int} {j : Nat} {z : Str} (h : (firstsL m)[j]? = some z) : putK (dctV (midL l m t j)) (.inr z) (.int (((l.count z : Nat) : Int) + (m.count z : Nat) * t)) = dctV (midL l m t (j + 1)) := by
  have tk : (firstsL m).take (j + 1) = (firstsL m).take j ++ [z] := by rw [List.take_succ, h]; rfl
  unfold midL
  rw [put_tab, tk, List.foldl_append]
  congr 1
  refine tab_congr fun y _ => ?_
  by_cases e : y = z
  · subst e; simp
  · rw [if_neg e]
    simp [e]
theorem mid_end {l m : List Str} {t : Nat} (h : 1 ≤ t) : midL l m t (firstsL m).length = cntsL (l ++ (List.replicate t m).flatten) := by
  unfold midL cntsL
  rw [List.take_of_length_le (Nat.le_refl _), firstsL_append, firstsL_rep h, fold_add]
  have e : (firstsL (firstsL m)) = firstsL m := by
    have main : ∀ zs acc : List Str, (acc ++ zs).Nodup → zs.foldl addF acc = acc ++ zs := by
      intro zs
      induction zs with
      | nil => intro acc _; simp
      | cons y zs ih =>
        intro acc nd
        rw [List.foldl_cons]
        have ny : y ∉ acc := fun g => (List.nodup_append.mp nd).2.2 y g y (by simp) rfl
        unfold addF
        rw [if_neg ny]
        have := ih (acc ++ [y]) (by simpa [List.append_assoc] using nd)
        unfold addF at this
        rw [this, List.append_assoc]
        rfl
    have := main (firstsL m) [] (by simpa using firstsL_nodup m)
    simpa [firstsL] using this
  rw [e]
  refine tab_congr fun y _ => ?_
  rw [List.count_append, rep_count]
  by_cases k : y ∈ firstsL m
  · rw [if_pos k, Int.natCast_add, Int.natCast_mul, Int.mul_comm]
  · rw [if_neg k, List.count_eq_zero.mpr (fun g => k ((mem_firstsL y m).mpr g))]
    simp
end MC

set_option Elab.async false
set_option linter.all false
set_option maxRecDepth 100000
set_option maxHeartbeats 4000000
namespace K02
open PySem PySem.Spec L2 MC
open PyProof.Rows hiding St
def top (i : Nat) : Stmt := PySem.Challenge.pw_missclock_k02_things_in_order.main.body.getD i (.Pass ⟨0, 0, 0, 0⟩)
abbrev s_is_whole : Stmt := top 1
theorem sc_is_whole : FnScope ["value"] ["value"] (defScope s_is_whole) := ⟨rfl, rfl, rfl, by decide +kernel, rfl, by decide +kernel, by decide +kernel⟩
abbrev s_are_things : Stmt := top 9
theorem sc_are_things : FnScope ["values", "texts", "text"] ["values"] (defScope s_are_things) := ⟨rfl, rfl, rfl, by decide +kernel, rfl, by decide +kernel, by decide +kernel⟩
abbrev s_are_small : Stmt := top 10
theorem sc_are_small : FnScope ["signs"] ["signs"] (defScope s_are_small) := ⟨rfl, rfl, rfl, by decide +kernel, rfl, by decide +kernel, by decide +kernel⟩
abbrev s_is_row : Stmt := top 11
theorem sc_is_row : FnScope ["thing", "waiting", "row", "deep", "agains", "part"] ["thing"] (defScope s_is_row) := ⟨rfl, rfl, rfl, by decide +kernel, rfl, by decide +kernel, by decide +kernel⟩
abbrev s_looks_again : Stmt := top 12
theorem sc_looks_again : FnScope ["part", "row", "times"] ["part"] (defScope s_looks_again) := ⟨rfl, rfl, rfl, by decide +kernel, rfl, by decide +kernel, by decide +kernel⟩
abbrev s_things_of : Stmt := top 13
theorem sc_things_of : FnScope ["row"] ["row"] (defScope s_things_of) := ⟨rfl, rfl, rfl, by decide +kernel, rfl, by decide +kernel, by decide +kernel⟩
abbrev s_last_of : Stmt := top 14
theorem sc_last_of : FnScope ["row"] ["row"] (defScope s_last_of) := ⟨rfl, rfl, rfl, by decide +kernel, rfl, by decide +kernel, by decide +kernel⟩
abbrev s_often : Stmt := top 15
theorem sc_often : FnScope ["row"] ["row"] (defScope s_often) := ⟨rfl, rfl, rfl, by decide +kernel, rfl, by decide +kernel, by decide +kernel⟩
abbrev s_check_row : Stmt := top 16
theorem sc_check_row : FnScope ["row"] ["row"] (defScope s_check_row) := ⟨rfl, rfl, rfl, by decide +kernel, rfl, by decide +kernel, by decide +kernel⟩
abbrev s_counts : Stmt := top 17
theorem sc_counts : FnScope ["row", "counts", "part", "inner", "times", "within", "thing"] ["row"] (defScope s_counts) := ⟨rfl, rfl, rfl, by decide +kernel, rfl, by decide +kernel, by decide +kernel⟩
abbrev s_latest_first : Stmt := top 18
theorem sc_latest_first : FnScope ["row", "found", "part", "thing"] ["row"] (defScope s_latest_first) := ⟨rfl, rfl, rfl, by decide +kernel, rfl, by decide +kernel, by decide +kernel⟩
abbrev s_l_dice : Stmt := top 20
theorem sc_l_dice : FnScope ["_law_script", "_law_great", "_law_mixed", "_law_cell"] ["_law_script"] (defScope s_l_dice) := ⟨rfl, rfl, rfl, by decide +kernel, rfl, by decide +kernel, by decide +kernel⟩
abbrev s_l_roll : Stmt := top 21
theorem sc_l_roll : FnScope ["_law_dice_here", "_law_many_here", "_law_found", "_law_pips"] ["_law_dice_here", "_law_many_here"] (defScope s_l_roll) := ⟨rfl, rfl, rfl, by decide +kernel, rfl, by decide +kernel, by decide +kernel⟩
abbrev s_l_names : Stmt := top 22
theorem sc_l_names : FnScope ["_law_dice_here", "_law_many_here", "_law_letters", "_law_left", "_law_sign", "_law_k"] ["_law_dice_here", "_law_many_here"] (defScope s_l_names) := ⟨rfl, rfl, rfl, by decide +kernel, rfl, by decide +kernel, by decide +kernel⟩
abbrev s_l_row : Stmt := top 23
theorem sc_l_row : FnScope ["_law_dice_here", "_law_names_here", "_law_plan", "_law_layers", "_law_found", "_law_k", "_law_name", "_law_again", "_law_inner", "_law_times"] ["_law_dice_here", "_law_names_here", "_law_plan", "_law_layers"] (defScope s_l_row) := ⟨rfl, rfl, rfl, by decide +kernel, rfl, by decide +kernel, by decide +kernel⟩
abbrev s_l_dressed : Stmt := top 24
theorem sc_l_dressed : FnScope ["_law_dice_here", "_law_line", "_law_found", "_law_part"] ["_law_dice_here", "_law_line"] (defScope s_l_dressed) := ⟨rfl, rfl, rfl, by decide +kernel, rfl, by decide +kernel, by decide +kernel⟩
abbrev s_l_many : Stmt := top 25
theorem sc_l_many : FnScope ["_law_line", "_law_found", "_law_part"] ["_law_line"] (defScope s_l_many) := ⟨rfl, rfl, rfl, by decide +kernel, rfl, by decide +kernel, by decide +kernel⟩
abbrev s_l_out : Stmt := top 26
theorem sc_l_out : FnScope ["_law_line", "_law_found", "_law_part"] ["_law_line"] (defScope s_l_out) := ⟨rfl, rfl, rfl, by decide +kernel, rfl, by decide +kernel, by decide +kernel⟩
abbrev s_l_twice : Stmt := top 27
theorem sc_l_twice : FnScope ["_law_line", "_law_part"] ["_law_line"] (defScope s_l_twice) := ⟨rfl, rfl, rfl, by decide +kernel, rfl, by decide +kernel, by decide +kernel⟩
abbrev s_l_firsts : Stmt := top 28
theorem sc_l_firsts : FnScope ["_law_asks", "_law_found", "_law_name"] ["_law_asks"] (defScope s_l_firsts) := ⟨rfl, rfl, rfl, by decide +kernel, rfl, by decide +kernel, by decide +kernel⟩
abbrev s_l_counted : Stmt := top 29
theorem sc_l_counted : FnScope ["_law_line", "_law_name", "_law_found", "_law_part"] ["_law_line", "_law_name"] (defScope s_l_counted) := ⟨rfl, rfl, rfl, by decide +kernel, rfl, by decide +kernel, by decide +kernel⟩
abbrev s_l_right : Stmt := top 30
theorem sc_l_right : FnScope ["_law_handed", "_law_line", "_law_asks", "_law_firsts_here", "_law_due", "_law_again", "_law_told", "_law_name"] ["_law_handed", "_law_line"] (defScope s_l_right) := ⟨rfl, rfl, rfl, by decide +kernel, rfl, by decide +kernel, by decide +kernel⟩
abbrev s_law : Stmt := top 31
theorem sc_law : FnScope ["_law_script", "_law_dice_here", "_law_turn", "_law_names_here", "_law_far", "_law_line", "_law_handed", "_law_kept"] ["_law_script"] (defScope s_law) := ⟨rfl, rfl, rfl, by decide +kernel, rfl, by decide +kernel, by decide +kernel⟩
/-- a def of the text, as it is called -/
structure Own (K : PySem.W.Frag) (mg : Str → Option Value) (x : Str) (st : Stmt) (f : Addr) (fd : FuncData) (ps : List Str) : Prop where
  F : Fun K x x st f fd
  m : mg x = some (.ref f)
  b : Binds K fd ps []
structure Txt (K : PySem.W.Frag) (mg : Str → Option Value) : Prop where
  n_isinstance : mg "isinstance" = none
  n_int : mg "int" = none
  n_bool : mg "bool" = none
  n_str : mg "str" = none
  n_list : mg "list" = none
  n_tuple : mg "tuple" = none
  n_len : mg "len" = none
  n_all : mg "all" = none
  n_range : mg "range" = none
  n_min : mg "min" = none
  n_repr : mg "repr" = none
  n_enumerate : mg "enumerate" = none
  n_sum : mg "sum" = none
  n_zip : mg "zip" = none
  n_dict : mg "dict" = none
  c_LONGEST_THING : ∃ t, mg "LONGEST_THING" = some (.int 8 t)
  c_MOST_TIMES : ∃ t, mg "MOST_TIMES" = some (.int 1000000000000000000000000000000 t)
  c_DEEPEST_ROW : ∃ t, mg "DEEPEST_ROW" = some (.int 2000000 t)
  sys : ∃ o, K.lookup sysModules = some o

/-! ### promises -/
theorem weak {P : Program} {w : World} {K : PySem.W.Frag} {mg : Str → Option Value} {base : Heap} {k : Nat} {f : Addr} {fd : FuncData} {ps : List Str} {sp sp' : Sp} (F : FnOk P w K mg base CX0 k f fd ps sp) (h : ∀ vs H Q E, sp' vs H Q E → sp vs H Q E) : FnOk P w K mg base CX0 k f fd ps sp' :=
  ⟨fun vs H Q E z => F.len vs H Q E (h vs H Q E z), fun A outer s H args us vs Q E a b c d z => F.run A outer s H args us vs Q E a b c d (h vs H Q E z)⟩
def spD0 (g : PyData → Bool) : Sp := fun vs H Q _ => ∃ x d, vs = [x] ∧ DD H x d ∧ ∀ H', Same H H' → Q (.bl (g d)) H'
theorem spD0_len {g : PyData → Bool} : ∀ vs H Q E, spD0 g vs H Q E → vs.length = 1 := fun vs H Q E h => by
  obtain ⟨x, d, rfl, _⟩ := h
  rfl
/-- all that was tracked stays, the answer is the data's -/
def spD (g : PyData → Bool) : Sp := fun vs H Q _ => ∃ x d, vs = [x] ∧ DD H x d ∧ okD d = true ∧ d.depth ≤ 60 ∧ wD d ≤ 2000 ∧ ∀ H', Same H H' → Q (.bl (g d)) H'
theorem spD_len {g : PyData → Bool} : ∀ vs H Q E, spD g vs H Q E → vs.length = 1 := fun vs H Q E h => by
  obtain ⟨x, d, rfl, _⟩ := h
  rfl
section
variable {P : Program} {w : World} {K : PySem.W.Frag} {mg : Str → Option Value} {base : Heap}
variable {f_is_whole f_is_thing f_is_row f_looks_again f_are_small f_are_things : Addr} {fd_is_whole fd_is_thing fd_is_row fd_looks_again fd_are_small fd_are_things : FuncData}

theorem ok_is_whole0 (T : Txt K mg) (O_is_whole : Own K mg "is_whole" s_is_whole f_is_whole fd_is_whole ["value"]) : FnOk P w K mg base CX0 1 f_is_whole fd_is_whole ["value"] (spD0 wholeD) := by
  refine O_is_whole.F.ok sc_is_whole spD0_len (fun cdv A outer s H vs Q E hr h => ?_)
  obtain ⟨x, d, rfl, hd, q⟩ := h
  refine ⟨_, (pss_one (ps_ret (pe_and (pe_callB (k_isi (K := K) rfl) (by rfl) T.n_isinstance (by decide +kernel) (pa_cons (pv 0) (pa_cons (pe_bltn (v := .ty "int") (by rfl) T.n_int (by decide +kernel) rfl) pa_nil))) (pe_one (pe_not (pe_callB (k_isi (K := K) rfl) (by rfl) T.n_isinstance (by decide +kernel) (pa_cons (pv 0) (pa_cons (pe_bltn (v := .ty "bool") (by rfl) T.n_bool (by decide +kernel) rfl) pa_nil)))))))), ?_⟩
  refine ⟨_, rfl, _, _, _, _, _, rfl, .ty _, ty_of hd, kI_int, _, rfl, ?_⟩
  refine ite2 (fun c => ?_) (fun c => ?_)
  · refine ⟨_, rfl, _, _, _, _, _, rfl, .ty _, ty_of hd, kI_bool, _, rfl, ?_⟩
    have e : (!dBool d) = wholeD d := by cases d <;> simp [dInt, dBool, wholeD] at c ⊢
    rw [e]
    exact q H (Same.refl H)
  · have e : wholeD d = false := by cases d <;> simp [dInt, wholeD] at c ⊢
    have q := q H (Same.refl H)
    rw [e] at q
    exact q

theorem ok_is_whole (T : Txt K mg) (O_is_whole : Own K mg "is_whole" s_is_whole f_is_whole fd_is_whole ["value"]) : FnOk P w K mg base CX0 1 f_is_whole fd_is_whole ["value"] (spD wholeD) :=
  weak (ok_is_whole0 T O_is_whole) fun vs H Q E h => by
    obtain ⟨x, d, rfl, hd, hok, hdp, hwd, q⟩ := h
    exact ⟨x, d, rfl, hd, q⟩
theorem ok_looks_again (T : Txt K mg) (G_is_whole : FnOk P w K mg base CX0 1 f_is_whole fd_is_whole ["value"] (spD wholeD)) (O_is_whole : Own K mg "is_whole" s_is_whole f_is_whole fd_is_whole ["value"]) (O_looks_again : Own K mg "_looks_again" s_looks_again f_looks_again fd_looks_again ["part"]) : FnOk P w K mg base CX0 2 f_looks_again fd_looks_again ["part"] (spD againD) := by
  refine O_looks_again.F.ok sc_looks_again spD_len (fun cdv A outer s H vs Q E hr h => ?_)
  obtain ⟨x, d, rfl, hd, hok, hdp, hwd, q⟩ := h
  obtain ⟨tmt, c_MOST_TIMES⟩ := T.c_MOST_TIMES
  refine ⟨_, (pss_cons (ps_if (PW.pt (pw_or (pt_not (pt_val (pe_callB (k_isi (K := K) rfl) (by rfl) T.n_isinstance (by decide +kernel) (pa_cons (pv 0) (pa_cons (pe_bltn (v := .ty "tuple") (by rfl) T.n_tuple (by decide +kernel) rfl) pa_nil))))) (pw_or1 (pt_cmpR op_ne (pe_callB (k_len_seq (K := K) rfl) (by rfl) T.n_len (by decide +kernel) (pa_cons (pv 0) pa_nil)) pe_int (nomark _)))))
    (pss_one (ps_ret pe_bl))
    pss_nil)
    (pss_cons (ps_asg (pv 0) (pg_tup rfl (pgs_cons (pg_name (i := 1) sc_looks_again.nd rfl (Or.inl rfl)) (pgs_cons (pg_name (i := 2) sc_looks_again.nd rfl (Or.inl rfl)) pgs_nil))))
    (pss_cons (ps_if (PW.pt (pw_or (pt_not (pt_val (pe_callB (k_isiT (K := K) rfl) (by rfl) T.n_isinstance (by decide +kernel) (pa_cons (pv 1) (pa_cons (pe_tup (pa_cons (pe_bltn (v := .ty "list") (by rfl) T.n_list (by decide +kernel) rfl) (pa_cons (pe_bltn (v := .ty "tuple") (by rfl) T.n_tuple (by decide +kernel) rfl) pa_nil))) pa_nil))))) (pw_or1 (pt_cmpR op_eq (pe_callB (k_len_seq (K := K) rfl) (by rfl) T.n_len (by decide +kernel) (pa_cons (pv 1) pa_nil)) pe_int (nomark _)))))
    (pss_one (ps_ret pe_bl))
    pss_nil)
    (pss_one (ps_ret (pe_and (pe_call G_is_whole (hr.mono (by omega)) rfl O_is_whole.m O_is_whole.F.kp O_is_whole.b .nil pass0 (pa_cons (pv 2) pa_nil)) (pe_one (pe_chain op_le op_le pe_int (pv 2) (pe_glob (v := .int 1000000000000000000000000000000) rfl c_MOST_TIMES ⟨_, rfl⟩))))))))), ?_⟩
  have no : dTup d = false → againD d = false := fun e => by cases d <;> first | rfl | cases e
  refine ⟨_, rfl, _, _, _, _, _, rfl, .ty _, ty_of hd, kI_tuple, _, rfl, ?_⟩
  refine ite2 (fun c => ?_) (fun c => ?_)
  · have q := q H (Same.refl H)
    rw [no (by simpa using c)] at q
    exact iteT q
  have ct : dTup d = true := by simpa using c
  cases hd with
  | @tup a xs ds ha hs =>
    refine ⟨_, rfl, _, _, rfl, .inr (SqT.of ha), rfl, _, rfl, ?_⟩
    refine ite2 (fun c2 => ?_) (fun c2 => ?_)
    · have q := q H (Same.refl H)
      have e : againD (.tuple ds) = false := by
        unfold againD
        split
        · rename_i r t e
          injection e with e
          rw [e] at hs
          have l := hs.length
          simp [l] at c2
        · rfl
      rw [e] at q
      exact q
    have l2 : xs.length = 2 := by
      simp only [Bool.not_eq_true', decide_eq_false_iff_not, Decidable.not_not, V.int.injEq] at c2
      omega
    match xs, ds, hs, l2 with
    | [v1, v2], [d1, d2], .cons h1 (.cons h2 .nil), _ =>
      refine ⟨_, rfl, a, _, rfl, SqT.of ha, rfl, _, _, rfl, _, _, rfl, rfl, ?_⟩
      have hok2 : okD d1 = true ∧ okD d2 = true := by simpa [okD, oksD] using hok
      have hdp2 : d2.depth ≤ 60 := by simp only [PyData.depth, PyData.depthAll] at hdp; omega
      refine ⟨_, rfl, by decide, fun p hp => ?_⟩
      have s1 : Same H (upd H p (.tup [.ty "list", .ty "tuple"])) := fun b o e => by rw [upd_ne (ne_of_none e hp)]; exact e
      refine ⟨_, _, _, _, _, _, rfl, upd_same, cl_seq, ty_of (h1.mono s1), kit_seq, _, rfl, ?_⟩
      refine ite2 (fun c3 => ?_) (fun c3 => ?_)
      · have e : againD (.tuple [d1, d2]) = false := by
          have z : dSeq d1 = false := by simpa using c3
          cases d2 <;> first | rfl | simp [againD, z]
        have q := q _ s1
        rw [e] at q
        exact iteT q
      have k1 : dSeq d1 = true := by simpa using c3
      obtain ⟨a1, xs1, rfl, hx, hs1⟩ := h1.seq k1
      refine ⟨_, rfl, _, _, rfl, (hx.mono s1).lt, rfl, _, rfl, ?_⟩
      refine ite2 (fun c4 => ?_) (fun c4 => ?_)
      · have z : xs1 = [] := by
          simp only [decide_eq_true_eq, V.int.injEq] at c4
          exact List.length_eq_zero_iff.mp (by omega)
        have e : againD (.tuple [d1, d2]) = false := by
          have z3 : elemsD d1 = [] := List.length_eq_zero_iff.mp (by rw [← hs1.length, z]; rfl)
          have z2 : dNil d1 = true := by rw [dNil_elems k1, z3]; rfl
          cases d2 <;> first | rfl | simp [againD, z2]
        have q := q _ s1
        rw [e] at q
        exact q
      have k2 : dNil d1 = false := by
        rw [dNil_elems k1]
        cases e : elemsD d1 with
        | nil =>
          have l := hs1.length
          rw [e] at l
          simp [l] at c4
        | cons _ _ => rfl
      refine ⟨_, rfl, v2, d2, rfl, h2.mono s1, hok2.2, hdp2, by simp only [wD, wDs] at hwd; omega, fun H2 s2 => ⟨_, rfl, ?_⟩⟩
      have q := q H2 (s1.trans s2)
      refine ite2 (fun c5 => ?_) (fun c5 => ?_)
      · cases h2 with
        | int t =>
          refine ⟨_, rfl, _, _, rfl, rfl, _, rfl, ?_⟩
          refine ite2 (fun c6 => ?_) (fun c6 => ?_)
          · refine ⟨_, _, rfl, rfl, ?_⟩
            have e : againD (.tuple [d1, .int t]) = decide (t ≤ 1000000000000000000000000000000) := by
              have c6 : (1 : Int) ≤ t := by simpa using c6
              simp [againD, k1, k2, timesOk, c6]
            rw [e] at q
            exact q
          · have e : againD (.tuple [d1, .int t]) = false := by
              have c6 : ¬ (1 : Int) ≤ t := by simpa using c6
              simp [againD, k1, k2, timesOk, c6]
            rw [e] at q
            exact q
        | _ => cases c5
      · have e : againD (.tuple [d1, d2]) = false := by
          cases d2 <;> first | rfl | simp [wholeD] at c5
        rw [e] at q
        exact q
  | _ => cases ct
end
end K02

set_option Elab.async false
set_option linter.all false
set_option maxRecDepth 100000
set_option maxHeartbeats 4000000
namespace MC
open PySem PySem.Spec L2
theorem same_new {H : Hp} {p : Addr} (h : H p = none) (o : HO) : Same H (upd H p o) := fun b u e => by rw [upd_ne (ne_of_none e h)]; exact e
theorem same_mut {H H' : Hp} {p : Addr} (e : Same H H') (h : H p = none) (o : HO) : Same H (upd H' p o) := fun b u q => by rw [upd_ne (ne_of_none q h)]; exact e b u q
theorem take_more {α : Type} {l : List α} {i : Nat} {x : α} (h : l[i]? = some x) : l.take (i + 1) = l.take i ++ [x] := by
  rw [List.take_succ, h]; rfl
theorem lt1 (a b : Nat) : decide ([a] < [b]) = decide (a < b) := by
  have : ([a] < [b]) ↔ a < b := by
    constructor
    · intro h
      cases h with
      | rel h => exact h
      | cons h => cases h
    · intro h; exact .rel h
  simp [this]
end MC
namespace K02
open PySem PySem.Spec L2 MC
open PyProof.Rows hiding St
def spSm : Sp := fun vs H Q _ => ∃ z : Str, vs = [.str z] ∧ z.length ≤ 5592405 ∧ Q (.bl (z.cps.toList.all isSign)) H
/-- a dict of texts: each of them a thing -/
def spTh : Sp := fun vs H Q _ => ∃ (D : Addr) (zs : List Str), vs = [.ref D] ∧ H D = some (.dK (setK zs)) ∧ zs.length ≤ 2000 ∧ (∀ z ∈ zs, z.length ≤ 9) ∧ ∀ H', Same H H' → Q (.bl (zs.all isThingS)) H'
def midZ (z : Str) : Bool := decide (1 ≤ z.length) && decide (z.length ≤ 8)
theorem mid_all (zs : List Str) : zs.all isThingS = (decide ((zs.filter midZ).length = zs.length) && (zs.filter midZ).all fun z => z.cps.toList.all isSign) := by
  induction zs with
  | nil => rfl
  | cons z zs ih =>
    have e : isThingS z = (midZ z && z.cps.toList.all isSign) := by unfold isThingS midZ; rfl
    have h := List.length_filter_le midZ zs
    rw [List.all_cons, ih, e, List.filter_cons]
    cases midZ z with
    | true =>
      simp only [if_true, List.length_cons, List.all_cons, Bool.true_and, Nat.add_right_cancel_iff]
      cases z.cps.toList.all isSign <;> simp
    | false =>
      simp only [Bool.false_and, Bool.false_eq_true, if_false, List.length_cons]
      rw [decide_eq_false (by omega), Bool.false_and]
section
variable {P : Program} {w : World} {K : PySem.W.Frag} {mg : Str → Option Value} {base : Heap}
variable {f_is_whole f_is_thing f_is_row f_looks_again f_are_small f_are_things : Addr} {fd_is_whole fd_is_thing fd_is_row fd_looks_again fd_are_small fd_are_things : FuncData}
theorem ok_are_small (T : Txt K mg) (O_are_small : Own K mg "are_small" s_are_small f_are_small fd_are_small ["signs"]) : FnOk P w K mg base CX0 1 f_are_small fd_are_small ["signs"] spSm := by
  refine O_are_small.F.ok sc_are_small (fun vs H Q E h => by obtain ⟨z, rfl, _⟩ := h; rfl) (fun cdv A outer s H vs Q E hr h => ?_)
  obtain ⟨z, rfl, hz, q⟩ := h
  refine ⟨_, (pss_one (ps_ret (pe_or (pe_cmpR op_eq (pv 0) pe_str (nomark _)) (pe_one (pe_and (pe_m0 PySem.F.slot_str_isascii PySem.F.type_str_isascii mt_isascii (pv 0)) (pe_and (pe_m0 PySem.F.slot_str_isalpha PySem.F.type_str_isalpha mt_isalpha (pv 0)) (pe_one (pe_cmpR op_eq (pv 0) (pe_lower (pv 0)) (nomark _))))))))), ?_⟩
  rw [← small_look] at q
  have e0 : decide (V.str z = V.str (Str.ofString "")) = decide (z = Str.empty) := by
    have : Str.ofString "" = Str.empty := by decide +kernel
    rw [this]
    simp
  refine ⟨_, rfl, rfl, _, rfl, ?_⟩
  rw [e0]
  refine ite2 (fun c => ?_) (fun c => ?_)
  · rw [c, Bool.true_or] at q
    exact q
  have c : decide (z = Str.empty) = false := by simpa using c
  rw [c, Bool.false_or] at q
  refine ⟨_, rfl, ⟨_, rfl⟩, z, rfl, rfl, trivial, _, rfl, ?_⟩
  refine ite2 (fun c1 => ?_) (fun c1 => ?_)
  · rw [c1, Bool.true_and] at q
    refine ⟨_, rfl, ⟨_, rfl⟩, z, rfl, rfl, trivial, _, rfl, ?_⟩
    refine ite2 (fun c2 => ?_) (fun c2 => ?_)
    · rw [c2, Bool.true_and] at q
      have e1 : decide (V.str z = V.str (Txt.lower z)) = decide (z = Txt.lower z) := by simp
      refine ⟨_, rfl, _, rfl, ⟨_, rfl⟩, z, rfl, rfl, hz, rfl, ?_⟩
      rw [e1]
      exact q
    · have c2 : Txt.isalpha z = false := by simpa using c2
      rw [c2, Bool.false_and] at q
      exact q
  · have c1 : Txt.isascii z = false := by simpa using c1
    rw [c1, Bool.false_and] at q
    exact q
theorem ok_are_things (T : Txt K mg) (G_are_small : FnOk P w K mg base CX0 1 f_are_small fd_are_small ["signs"] spSm) (O_are_small : Own K mg "are_small" s_are_small f_are_small fd_are_small ["signs"]) (O_are_things : Own K mg "are_things" s_are_things f_are_things fd_are_things ["values"]) : FnOk P w K mg base CX0 2 f_are_things fd_are_things ["values"] spTh := by
  refine O_are_things.F.ok sc_are_things (fun vs H Q E h => by obtain ⟨D, zs, rfl, _⟩ := h; rfl) (fun cdv A outer s H vs Q E hr h => ?_)
  obtain ⟨D, zs, rfl, hD, hn, hz, q⟩ := h
  obtain ⟨tmt, c_LONGEST_THING⟩ := T.c_LONGEST_THING
  refine ⟨_, (pss_cons (ps_lock (ps_setLc (i := 1) (own := [("text", 2)]) rfl sc_are_things.nd rfl rfl (sw_true rfl rfl rfl (by decide +kernel)) (pi_keys (pv 0)) (blkOk_by (own := [("text", 2)]) (N := ["values", "texts", "text"]) (sc := defScope s_are_things) (by decide +kernel)) (fun _ _ _ _ _ => (pg_name (i := 2) sc_are_things.nd rfl (Or.inl rfl))) (fun _ _ _ _ _ => pts_one (PW.pt (pw_and (pt_val (pe_callB (k_isi (K := K) rfl) (by rfl) T.n_isinstance (by decide +kernel) (pa_cons (pv 2) (pa_cons (pe_bltn (v := .ty "str") (by rfl) T.n_str (by decide +kernel) rfl) pa_nil)))) (pw_and1 (pt_chain op_le op_le pe_int (pe_callB (k_len_str (K := K) rfl) (by rfl) T.n_len (by decide +kernel) (pa_cons (pv 2) pa_nil)) (pe_glob (v := .int 8) rfl c_LONGEST_THING ⟨_, rfl⟩)))))) (fun _ _ _ _ _ => (pv 2))))
    (pss_one (ps_ret (pe_and (pe_cmpR op_eq (pe_callB (k_len_seq (K := K) rfl) (by rfl) T.n_len (by decide +kernel) (pa_cons (pv 1) pa_nil)) (pe_callB call_lenD (by rfl) T.n_len (by decide +kernel) (pa_cons (pv 0) pa_nil)) (nomark _)) (pe_one (pe_call G_are_small (hr.mono (by omega)) rfl O_are_small.m O_are_small.F.kp O_are_small.b .nil pass0 (pa_cons (pe_join pe_str (pv 1)) pa_nil))))))), ?_⟩
  refine ⟨D, _, hD, trivial, fun od => ?_⟩
  refine ⟨_, rfl, D, od, rfl, .inl ⟨_, upd_same, fun L hL => lc_it (walk_keys (o := od)) (fun i H' => H' D = some (.frz od (.dK (setK zs))) ∧ (∀ b o, b ≠ D → H b = some o → H' b = some o) ∧ H' L = some (.lst (((zs.take i).filter midZ).map V.str))) ?_ (fun i H' _ p => p.1) ?_ ?_⟩⟩
  · have LD : L ≠ D := fun z => by rw [z, upd_same] at hL; cases hL
    refine ⟨by rw [upd_ne LD.symm, upd_same], fun b o hb e => ?_, by rw [upd_same]; rfl⟩
    rw [upd_ne (ne_of_none (by rw [upd_ne hb]; exact e) hL), upd_ne hb]
    exact e
  · rintro i x _ H1 hi ⟨h1, h2, h3⟩ ⟨rfl, k, v, hk, rfl⟩
    have hkz : ∃ z, zs[i]? = some z ∧ k = Sum.inr z := by
      unfold setK at hk
      rw [List.getElem?_map] at hk
      cases e : zs[i]? with
      | none => rw [e] at hk; cases hk
      | some z => rw [e] at hk; cases hk; exact ⟨z, rfl, rfl⟩
    obtain ⟨z, ez, rfl⟩ := hkz
    have hz9 := hz z (List.mem_of_getElem? ez)
    have hz2 : z.length ≤ sizeLine := Nat.le_trans hz9 (by decide)
    have LD : L ≠ D := fun z => by rw [z, h1] at h3; cases h3
    have tk : zs.take (i + 1) = zs.take i ++ [z] := take_more ez
    have len : ((zs.take i).filter midZ).length ≤ 2000 := by
      have h1 := List.length_filter_le midZ (zs.take i)
      rw [List.length_take] at h1
      omega
    have yes : midZ z = true → ∃ acc, H1 L = some (HO.lst acc) ∧ acc.length < sizeLine ∧ upd H1 L (HO.lst (acc ++ [V.str z])) D = some (HO.frz od (HO.dK (setK zs))) ∧
        (∀ (b : Addr) (o : HO), b ≠ D → H b = some o → upd H1 L (HO.lst (acc ++ [V.str z])) b = some o) ∧ upd H1 L (HO.lst (acc ++ [V.str z])) L = some (HO.lst (List.map V.str (List.filter midZ (List.take (i + 1) zs)))) := fun m => by
      refine ⟨_, h3, by rw [List.length_map]; exact Nat.lt_of_le_of_lt len (by decide), by rw [upd_ne LD.symm]; exact h1, fun b o hb e => ?_, ?_⟩
      · have LH : b ≠ L := fun q => by rw [q] at e hb; rw [upd_ne hb, e] at hL; cases hL
        rw [upd_ne LH]; exact h2 b o hb e
      · rw [upd_same, tk, List.filter_append, List.map_append]
        simp [m]
    have no : midZ z = false → H1 D = some (HO.frz od (HO.dK (setK zs))) ∧ (∀ (b : Addr) (o : HO), b ≠ D → H b = some o → H1 b = some o) ∧ H1 L = some (HO.lst (List.map V.str (List.filter midZ (List.take (i + 1) zs)))) := fun m => by
      refine ⟨h1, h2, ?_⟩
      rw [tk, List.filter_append]
      simpa [m] using h3
    refine ⟨rfl, _, rfl, _, _, _, _, _, rfl, .ty _, .base (.str z), kit_ty (by decide +kernel), _, rfl, iteT ?_⟩
    refine ⟨_, rfl, z, rfl, hz2, _, _, rfl, rfl, _, rfl, ?_⟩
    refine ite2 (fun c1 => ?_) (fun c1 => ?_)
    · refine ⟨_, _, rfl, rfl, _, rfl, ?_⟩
      refine ite2 (fun c2 => ?_) (fun c2 => ?_)
      · exact ⟨_, rfl, yes (by unfold midZ; simp at c1 c2 ⊢; omega)⟩
      · exact no (by unfold midZ; simp at c1 c2 ⊢; omega)
    · exact ⟨_, rfl, iteF (no (by unfold midZ; simp at c1 ⊢; omega))⟩
  · rintro H1 ⟨h1, h2, h3⟩
    have full : zs.take (setK zs).length = zs := List.take_of_length_le (by simp [setK])
    rw [full] at h3
    have LD : L ≠ D := fun z => by rw [z, h1] at h3; cases h3
    have sm : Same H (upd H1 D (.dK (setK zs))) := fun b o e => by
      by_cases hb : b = D
      · subst hb; rw [upd_same]; rw [hD] at e; exact e
      · rw [upd_ne hb]; exact h2 b o hb e
    have hL2 : upd H1 D (.dK (setK zs)) L = some (.lst ((zs.filter midZ).map V.str)) := by rw [upd_ne LD]; exact h3
    refine ⟨h1, ?_⟩
    have q := q _ sm
    rw [mid_all] at q
    have ll : ((zs.filter midZ).map V.str).length = (zs.filter midZ).length := by simp
    have lk : (setK zs).length = zs.length := by simp [setK]
    have e1 : decide (V.int ((zs.filter midZ).map V.str).length = V.int (setK zs).length) = decide ((zs.filter midZ).length = zs.length) := by
      rw [ll, lk, Bool.eq_iff_iff, decide_eq_true_eq, decide_eq_true_eq, V.int.injEq, Int.natCast_inj]
    refine ⟨_, rfl, L, _, rfl, .inl (SqL.of hL2), _, rfl, D, _, rfl, upd_same, rfl, _, rfl, ?_⟩
    rw [e1]
    refine ite2 (fun c => ?_) (fun c => ?_)
    · rw [c, Bool.true_and] at q
      have sum8 : ∀ l : List Str, (∀ z ∈ l, z.length ≤ 9) → (l.map (·.length)).sum ≤ 9 * l.length := by
        intro l
        induction l with
        | nil => intro _; simp
        | cons z l ih =>
          intro h
          have h1 := h z (by simp)
          have h2 := ih fun y hy => h y (by simp [hy])
          simp only [List.map_cons, List.sum_cons, List.length_cons]
          omega
      have s9 := sum8 (zs.filter midZ) fun z hz' => hz z (List.mem_filter.mp hz').1
      have lf := List.length_filter_le midZ zs
      refine ⟨⟨_, rfl⟩, _, rfl, Str.ofString "", L, zs.filter midZ, rfl, rfl, .inl (SqL.of hL2), ?_, ?_⟩
      · have : (Str.ofString "").length = 0 := by decide +kernel
        rw [this]; omega
      · have ee : Str.ofString "" = Str.empty := by decide +kernel
        rw [TL.join_eq, ee]
        refine ⟨_, rfl, ?_, ?_⟩
        · rw [joined_len]; omega
        · rw [joined_all]
          exact q
    · have c : decide ((zs.filter midZ).length = zs.length) = false := by simpa using c
      rw [c, Bool.false_and] at q
      exact q
end
end K02

set_option Elab.async false
set_option linter.all false
set_option maxRecDepth 100000
set_option maxHeartbeats 4000000
namespace K02
open PySem PySem.Spec L2 MC
open PyProof.Rows hiding St
/-- what waits: a tuple of a row (over H0) and how deep it lies -/
def Ent (H0 H : Hp) (v : V) (d : PyData) : Prop := ∃ t x k, v = .ref t ∧ H t = some (.tup [x, .int k]) ∧ DD H0 x d ∧ dSeq d = true ∧ okD d = true ∧ 0 ≤ k ∧ d.depth + k.toNat ≤ 60
theorem Ent.mono {H0 H H' : Hp} {v : V} {d : PyData} (h : Ent H0 H v d) (e : ∀ t xs, H t = some (.tup xs) → H' t = some (.tup xs)) : Ent H0 H' v d := by
  obtain ⟨t, x, k, h1, h2, r⟩ := h
  exact ⟨t, x, k, h1, e _ _ h2, r⟩
def wsum (es : List (V × PyData)) : Nat := wDs (es.map (·.2))
theorem wsum_append (a b : List (V × PyData)) : wsum (a ++ b) = wsum a + wsum b := by unfold wsum; rw [List.map_append, wDs_append]
theorem keep_upd {H : Hp} {w : Addr} {xs : List V} (h : H w = some (.lst xs)) (ys : List V) : ∀ t zs, H t = some (.tup zs) → upd H w (.lst ys) t = some (.tup zs) := fun t zs e => by
  rw [upd_ne (ne_of e h (fun z => nomatch z))]; exact e
theorem last_split {α : Type} {l : List α} (h : l ≠ []) : ∃ a b, l = a ++ [b] := ⟨_, _, (List.dropLast_concat_getLast h).symm⟩
section
variable {P : Program} {w : World} {K : PySem.W.Frag} {mg : Str → Option Value} {base : Heap}
variable {f_is_whole f_is_thing f_is_row f_looks_again f_are_small f_are_things : Addr} {fd_is_whole fd_is_thing fd_is_row fd_looks_again fd_are_small fd_are_things : FuncData}
theorem ok_is_row (T : Txt K mg) (G_are_things : FnOk P w K mg base CX0 2 f_are_things fd_are_things ["values"] spTh) (G_looks_again : FnOk P w K mg base CX0 2 f_looks_again fd_looks_again ["part"] (spD againD))
    (O_are_things : Own K mg "are_things" s_are_things f_are_things fd_are_things ["values"]) (O_looks_again : Own K mg "_looks_again" s_looks_again f_looks_again fd_looks_again ["part"]) (O_is_row : Own K mg "is_row" s_is_row f_is_row fd_is_row ["thing"]) : FnOk P w K mg base CX0 3 f_is_row fd_is_row ["thing"] (spD rowD) := by
  refine O_is_row.F.ok sc_is_row spD_len (fun cdv A outer s H vs Q E hr h => ?_)
  obtain ⟨x, d, rfl, hd, hok, hdp, hwd, q⟩ := h
  obtain ⟨tmt, c_DEEPEST_ROW⟩ := T.c_DEEPEST_ROW
  refine ⟨_, (pss_cons (ps_if (pt_not (pt_val (pe_callB (k_isiT (K := K) rfl) (by rfl) T.n_isinstance (by decide +kernel) (pa_cons (pv 0) (pa_cons (pe_tup (pa_cons (pe_bltn (v := .ty "list") (by rfl) T.n_list (by decide +kernel) rfl) (pa_cons (pe_bltn (v := .ty "tuple") (by rfl) T.n_tuple (by decide +kernel) rfl) pa_nil))) pa_nil)))))
    (pss_one (ps_ret pe_bl))
    pss_nil)
    (pss_cons (ps_set (i := 1) sc_is_row.nd rfl (Or.inl rfl) (pe_lst (pa_cons (pe_tup (pa_cons (pv 0) (pa_cons pe_int pa_nil))) pa_nil)))
    (pss_cons (ps_while PassesOwn.never (pt_truth (pv 1) (by intro _; rfl))
    (pss_cons (ps_asg (k_bm0 (K := K) rfl (pe_bm0 PySem.F.plainAttrs_list PySem.F.slot_list_pop PySem.F.type_list_pop mt_pop (pv 1))) (pg_tup rfl (pgs_cons (pg_name (i := 2) sc_is_row.nd rfl (Or.inl rfl)) (pgs_cons (pg_name (i := 3) sc_is_row.nd rfl (Or.inl rfl)) pgs_nil))))
    (pss_cons (ps_if (pt_cmpR op_gt (pv 3) (pe_glob (v := .int 2000000) rfl c_DEEPEST_ROW ⟨_, rfl⟩) (nomark _))
    (pss_one (ps_ret pe_bl))
    pss_nil)
    (pss_cons (ps_setLc (i := 4) (own := [("part", 5)]) rfl sc_is_row.nd rfl rfl (sw_true rfl rfl rfl (by decide +kernel)) (k_seq (K := K) rfl (pv 2)) (blkOk_by (own := [("part", 5)]) (N := ["thing", "waiting", "row", "deep", "agains", "part"]) (sc := defScope s_is_row) (by decide +kernel)) (fun _ _ _ _ _ => (pg_name (i := 5) sc_is_row.nd rfl (Or.inl rfl))) (fun _ _ _ _ _ => pts_one (pt_not (pt_val (pe_callB (k_isi (K := K) rfl) (by rfl) T.n_isinstance (by decide +kernel) (pa_cons (pv 5) (pa_cons (pe_bltn (v := .ty "str") (by rfl) T.n_str (by decide +kernel) rfl) pa_nil)))))) (fun _ _ _ _ _ => (pv 5)))
    (pss_cons (ps_for PassesOwn.never rfl (k_list (K := K) rfl (pv 4)) (pg_name (i := 5) sc_is_row.nd rfl (Or.inl rfl))
    (pss_cons (ps_if (pt_not (pt_val (pe_call G_looks_again (hr.mono (by omega)) rfl O_looks_again.m O_looks_again.F.kp O_looks_again.b .nil pass0 (pa_cons (pv 5) pa_nil))))
    (pss_one (ps_ret pe_bl))
    pss_nil)
    (pss_one (ps_expr (k_bm (K := K) rfl (pe_bm PySem.F.plainAttrs_list PySem.F.slot_list_append PySem.F.type_list_append mt_append (pv 1) (pa_cons (pe_tup (pa_cons (pe_ix (k_ix_tup (K := K) rfl) (pv 5) pe_int (fun _ _ => rfl)) (pa_cons (pe_op op_add (pv 3) pe_int) pa_nil))) pa_nil)))))))
    (pss_one (ps_if (PW.pt (pw_and (pt_cmpR op_lt (pe_callB (k_len_seq (K := K) rfl) (by rfl) T.n_len (by decide +kernel) (pa_cons (pv 4) pa_nil)) (pe_callB (k_len_seq (K := K) rfl) (by rfl) T.n_len (by decide +kernel) (pa_cons (pv 2) pa_nil)) (nomark _)) (pw_and1 (pt_not (pt_val (pe_call G_are_things (hr.mono (by omega)) rfl O_are_things.m O_are_things.F.kp O_are_things.b .nil pass0 (pa_cons (pe_dc (own := [("part", 5)]) rfl sc_is_row.nd (k_seq (K := K) rfl (pv 2)) (blkOk_by (own := [("part", 5)]) (N := ["thing", "waiting", "row", "deep", "agains", "part"]) (sc := defScope s_is_row) (by decide +kernel)) (fun _ _ _ _ _ => (pg_name (i := 5) sc_is_row.nd rfl (Or.inl rfl))) (fun _ _ _ _ _ => pts_one (pt_val (pe_callB (k_isi (K := K) rfl) (by rfl) T.n_isinstance (by decide +kernel) (pa_cons (pv 5) (pa_cons (pe_bltn (v := .ty "str") (by rfl) T.n_str (by decide +kernel) rfl) pa_nil))))) (fun _ _ _ _ _ => (pv 5)) (fun _ _ _ _ _ => pe_bl)) pa_nil)))))))
    (pss_one (ps_ret pe_bl))
    pss_nil)))))))
    (pss_one (ps_ret pe_bl))))), ?_⟩
  refine ⟨_, rfl, by decide, fun p hp => ?_⟩
  have s0 := same_new hp (.tup [.ty "list", .ty "tuple"])
  refine ⟨_, _, _, _, _, _, rfl, upd_same, cl_seq, ty_of (hd.mono s0), kit_seq, _, rfl, ?_⟩
  refine ite2 (fun c => ?_) (fun c => ?_)
  · have q := q _ s0
    rw [rowD_seq (by simpa using c)] at q
    exact q
  have k0 : dSeq d = true := by simpa using c
  -- waiting = [(thing, 0)]
  refine ⟨_, rfl, (by show 2 ≤ sizeLine; decide), fun t0 ht0 => ⟨(by show 1 ≤ sizeLine; decide), fun w0 hw0 => ?_⟩⟩
  have hw : H w0 = none := (s0.trans (same_new ht0 _)).free hw0
  have s1 : Same H (upd (upd (upd H p (.tup [.ty "list", .ty "tuple"])) t0 (.tup [x, .int 0])) w0 (.lst [.ref t0])) := (s0.trans (same_new ht0 _)).trans (same_new hw0 _)
  refine ⟨fun m σ H' => ∃ (es : List (V × PyData)) (a b c e : Option V), m = wsum es ∧ σ = [some x, some (.ref w0), a, b, c, e] ∧ Same H H' ∧ H' w0 = some (.lst (es.map (·.1))) ∧
      (∀ e ∈ es, Ent H H' e.1 e.2) ∧ rowD d = (es.all fun e => rowD e.2) ∧ wsum es ≤ wD d, ⟨_, [(.ref t0, d)], _, _, _, _, rfl, rfl, s1, upd_same, ?_, ?_, ?_⟩, ?_⟩
  · intro e he
    rw [List.mem_singleton.mp he]
    refine ⟨t0, x, 0, rfl, ?_, hd, k0, hok, Int.le_refl 0, by simpa using hdp⟩
    rw [upd_ne (ne_of_none upd_same hw0), upd_same]
  · simp
  · simp [wsum, wDs]
  rintro m σ H1 ⟨es, a, b, c, e, rfl, rfl, s2, hl, hes, hrow, hwe⟩
  refine ⟨_, rfl, _, .inl ⟨_, SqL.of hl, rfl⟩, ?_⟩
  refine ite2 (fun c1 => ?yes) (fun c1 => ?no)
  case no =>
    have z : es = [] := by
      cases es with
      | nil => rfl
      | cons _ _ => simp at c1
    subst z
    have q := q H1 s2
    rw [hrow] at q
    exact q
  have ne : es ≠ [] := by rintro rfl; simp at c1
  obtain ⟨es1, ⟨v, r⟩, rfl⟩ := last_split ne
  obtain ⟨t, y, k, rfl, ht, hy, ky, oky, k0', dky⟩ : Ent H H1 v r := hes (v, r) (by simp)
  have hes1 : ∀ e ∈ es1, Ent H H1 e.1 e.2 := fun e he => hes e (by simp [he])
  obtain ⟨ar, xs, rfl, hx, hxs⟩ := hy.seq ky
  have ety : (List.map (·.1) (es1 ++ [(V.ref t, r)])) = es1.map (·.1) ++ [V.ref t] := by simp
  rw [ety] at hl
  refine ⟨fun σ' H' => ∃ m', m' < wsum (es1 ++ [(V.ref t, r)]) ∧ _, fun _ _ z => z, ?_⟩
  have nw : ∀ zs, Same H (upd H1 w0 (.lst zs)) := fun zs => same_mut s2 hw _
  have hl2 := keep_upd hl (es1.map (·.1) ++ [V.ref t]).dropLast
  refine ⟨_, rfl, .inl ⟨rfl, _, SqL.of hl⟩, w0, _, .ref t, rfl, rfl, hl, by simp, t, _, rfl, SqT.of (hl2 _ _ ht), rfl, _, _, rfl, _, _, rfl, rfl, ?_⟩
  refine ⟨_, rfl, _, _, rfl, rfl, _, rfl, ?_⟩
  refine ite2 (fun c2 => ?_) (fun c2 => ?_)
  · exfalso
    have : (2000000 : Int) < k := by simpa using c2
    omega
  have sP := nw (es1.map (·.1) ++ [V.ref t]).dropLast
  have hlP : upd H1 w0 (.lst (es1.map (·.1) ++ [V.ref t]).dropLast) w0 = some (.lst (es1.map (·.1))) := by rw [upd_same]; simp
  have heP : ∀ e ∈ es1, Ent H (upd H1 w0 (.lst (es1.map (·.1) ++ [V.ref t]).dropLast)) e.1 e.2 := fun e he => (hes1 e he).mono hl2
  generalize upd H1 w0 (.lst (es1.map (·.1) ++ [V.ref t]).dropLast) = HP at sP hlP heP ⊢
  have wr : wsum [(V.ref t, r)] = wD r := by simp [wsum, wDs]
  have we : wDs (elemsD r) ≤ wD r := wD_elems r
  have we2 : wDs (elemsD r) < wD r := by cases r <;> first | (simp only [elemsD, wD]; omega) | cases ky
  have w20 : wsum es1 + wDs (elemsD r) ≤ 2000 := by
    rw [wsum_append] at hwe
    omega
  have lenx : xs.length ≤ 2000 := by
    have h1 := hxs.length
    have h2 := len_wDs (elemsD r)
    omega
  have hps := okD_elems oky
  have full : (elemsD r).take xs.length = elemsD r := List.take_of_length_le (by rw [hxs.length]; exact Nat.le_refl _)
  -- agains = [part for part in row if not isinstance(part, str)]
  refine ⟨_, rfl, lc_seqD (K := K) (xs := xs) (hx.mono sP) (fun A i H' => Same HP H' ∧ ∃ acc, H' A = some (.lst acc) ∧ DDs H acc (((elemsD r).take i).filter nStr)) (fun A hA => ⟨same_new hA _, [], upd_same, .nil⟩) ?_ ?_ ?_⟩
  · rintro A i H' hA _ ⟨s3, _⟩
    rcases hx.mono sP with h | h
    · exact (s3 _ _ h).trans h.symm
    · exact (s3 _ _ h).trans h.symm
  · rintro A i xv H' hA e ⟨s3, acc, hA', hacc⟩
    obtain ⟨dv, hdv, hdd⟩ := hxs.get e
    have tk : (elemsD r).take (i + 1) = (elemsD r).take i ++ [dv] := take_more hdv
    refine ⟨rfl, _, rfl, _, _, _, _, _, rfl, .ty _, ty_of (hdd.mono (sP.trans s3)), kI_str, _, rfl, ?_⟩
    have al : acc.length < sizeLine := by
      rw [hacc.length]
      have h1 := List.length_filter_le nStr ((elemsD r).take i)
      rw [List.length_take, ← hxs.length] at h1
      exact Nat.lt_of_le_of_lt (show _ ≤ 2000 by omega) (by decide)
    refine ite2 (fun c3 => ?_) (fun c3 => ?_)
    · refine ⟨_, rfl, acc, hA', al, same_mut s3 hA _, _, upd_same, ?_⟩
      rw [tk, List.filter_append]
      have : nStr dv = true := c3
      simp only [List.filter_cons, this, if_true, List.filter_nil]
      exact hacc.append (.cons hdd .nil)
    · refine ⟨s3, acc, hA', ?_⟩
      rw [tk, List.filter_append]
      have : nStr dv = false := by simpa [nStr] using c3
      simp only [List.filter_cons, this, Bool.false_eq_true, if_false, List.filter_nil, List.append_nil]
      exact hacc
  rintro A H2 hA ⟨s3, ag, hA2, hag⟩
  rw [full] at hag
  have hAH : H A = none := sP.free hA
  have Aw : A ≠ w0 := fun z => by rw [z, hlP] at hA; cases hA
  have sH2 := sP.trans s3
  have lag : ag.length ≤ xs.length := by
    rw [hag.length, hxs.length]
    exact List.length_filter_le _ _
  -- for part in agains
  refine ⟨_, rfl, A, rfl, ⟨_, SqL.of hA2⟩, for_list (K := K) (a := A) (xs := ag) (fun i σ' H' => ∃ (ps : List (V × PyData)) (c : Option V), σ' = [some x, some (.ref w0), some (.ref ar), some (.int k), some (.ref A), c] ∧ Same H H' ∧ H' A = some (.lst ag) ∧
      H' w0 = some (.lst ((es1 ++ ps).map (·.1))) ∧ (∀ e ∈ es1 ++ ps, Ent H H' e.1 e.2) ∧ wsum ps ≤ wDs (((elemsD r).filter nStr).take i) ∧ partsD (((elemsD r).filter nStr).take i) = ps.all fun e => rowD e.2)
      ⟨[], _, rfl, sH2, hA2, by rw [List.append_nil]; exact s3 _ _ hlP, fun e he => (heP e (by simpa using he)).mono fun t zs z => s3 _ _ z, Nat.zero_le _, by simp [partsD]⟩ ?_ ?_ ?_⟩
  · rintro i σ' H' hi ⟨ps, c, rfl, s4, hA4, _⟩
    exact SqL.of hA4
  · rintro i xv σ' H2 hi ⟨ps, c, rfl, s4, hA4, hl4, he4, hw4, hp4⟩
    obtain ⟨dv, hdv, hdd⟩ := hag.get hi
    have mem := List.mem_of_getElem? hdv
    rw [List.mem_filter] at mem
    obtain ⟨memE, nst⟩ := mem
    have nst : dStr dv = false := by simpa [nStr] using nst
    obtain ⟨j, hj⟩ := List.getElem?_of_mem memE
    have okv := oksD_get hps hj
    have wv : wD dv ≤ 2000 := by
      have h1 := wD_le hj
      omega
    have dpv : dv.depth < r.depth := by rw [depth_elems ky]; exact Nat.lt_succ_of_le (depth_le hj)
    refine ⟨_, rfl, xv, dv, rfl, hdd.mono s4, okv, by omega, wv, fun H3 s5 => ⟨_, rfl, ?_⟩⟩
    have hl5 := s5 _ _ hl4
    have hA5 := s5 _ _ hA4
    have he5 : ∀ e ∈ es1 ++ ps, Ent H H3 e.1 e.2 := fun e he => (he4 e he).mono fun t zs z => s5 _ _ z
    have tk : ((elemsD r).filter nStr).take (i + 1) = ((elemsD r).filter nStr).take i ++ [dv] := take_more hdv
    refine ite2 (fun c3 => ?_) (fun c3 => ?_)
    · have q := q H3 (s4.trans s5)
      have z : rowD d = false := by
        rw [hrow, List.all_append]
        have : (elemsD r).all partD = false := by
          rw [List.all_eq_false]
          exact ⟨dv, memE, by rw [part_nstr nst (by simpa using c3)]; simp⟩
        simp [rowD_elems ky, partsD_eq, this]
      rw [z] at q
      exact q
    · -- its row waits
      have c3 : againD dv = true := by simpa using c3
      match dv, hdd, c3 with
      | .tuple [rr, .int tt], @DD.tup _ _ [v1, v2] _ ha2 (.cons h1 (.cons h2 .nil)), c3 =>
        have ha3 := (s4.trans s5) _ _ ha2
        have okr : okD rr = true := by simp only [okD, oksD, Bool.and_eq_true] at okv; exact okv.1
        have kr : dSeq rr = true := by simp only [againD, Bool.and_eq_true] at c3; exact c3.1.1
        have dpr : rr.depth < (PyData.tuple [rr, .int tt]).depth := by simp only [PyData.depth, PyData.depthAll]; omega
        refine ⟨_, rfl, .inl ⟨rfl, _, SqL.of hl5⟩, _, rfl, _, _, _, _, rfl, rfl, SqT.of ha3, atI_nat (j := 0) rfl, _, rfl, _, _, rfl, rfl, (by show 2 ≤ sizeLine; decide), fun t2 ht2 => ?_⟩
        have hw2 : upd H3 t2 (.tup [v1, .int (k + 1)]) w0 = some (.lst ((es1 ++ ps).map (·.1))) := by rw [upd_ne (ne_of_none hl5 ht2)]; exact hl5
        refine ⟨w0, _, _, rfl, rfl, hw2, ?_, ?_⟩
        · rw [List.length_map]
          have h1 : (es1 ++ ps).length ≤ wsum (es1 ++ ps) := by
            have := len_wDs ((es1 ++ ps).map (·.2))
            rw [List.length_map] at this
            exact this
          have h2 : wDs (((elemsD r).filter nStr).take i) ≤ wDs ((elemsD r).filter nStr) := by
            have e := wDs_append (((elemsD r).filter nStr).take i) (((elemsD r).filter nStr).drop i)
            rw [List.take_append_drop] at e
            omega
          have h3 := wDs_filter nStr (elemsD r)
          rw [wsum_append] at h1
          exact Nat.lt_of_le_of_lt (show _ ≤ 2000 by omega) (by decide)
        refine ⟨ps ++ [(.ref t2, rr)], _, rfl, ?_, ?_, ?_, ?_, ?_, ?_⟩
        · exact same_mut (s4.trans (s5.trans (same_new ht2 _))) hw _
        · rw [upd_ne Aw, upd_ne (ne_of_none hA5 ht2)]; exact hA5
        · rw [upd_same]; simp
        · intro e he
          have he : e ∈ es1 ++ ps ∨ e = (.ref t2, rr) := by simpa [or_assoc] using he
          rcases he with he | rfl
          · exact (he5 e he).mono fun t zs z => keep_upd hw2 _ _ _ (by rw [upd_ne (ne_of_none z ht2)]; exact z)
          · refine ⟨t2, _, k + 1, rfl, keep_upd hw2 _ _ _ upd_same, h1, kr, okr, by omega, (show rr.depth + (k + 1).toNat ≤ 60 by omega)⟩
        · rw [wsum_append, tk, wDs_append]
          have : wsum [(V.ref t2, rr)] ≤ wDs [PyData.tuple [rr, .int tt]] := by simp only [wsum, List.map, wDs, wD]; omega
          omega
        · rw [tk, partsD_eq, List.all_append, ← partsD_eq, hp4, List.all_append]
          have : partD (.tuple [rr, .int tt]) = rowD rr := by rw [partD_eq, if_pos c3]; rfl
          simp [this]
  · rintro σ' H4 ⟨ps, c, rfl, s4, hA4, hl4, he4, hw4, hp4⟩
    have fullF : ((elemsD r).filter nStr).take ag.length = (elemsD r).filter nStr := List.take_of_length_le (by rw [hag.length]; exact Nat.le_refl _)
    rw [fullF] at hw4 hp4
    have wf := wDs_filter nStr (elemsD r)
    -- the turn's end: right so far
    have fin : ∀ H', Same H H' → H' w0 = some (.lst ((es1 ++ ps).map (·.1))) → (∀ e ∈ es1 ++ ps, Ent H H' e.1 e.2) → partsD (elemsD r) = (ps.all fun e => rowD e.2) → ∃ m', m' < wsum (es1 ++ [(V.ref t, r)]) ∧
        ∃ (es : List (V × PyData)) (a' b' c' e' : Option V), m' = wsum es ∧ [some x, some (.ref w0), some (.ref ar), some (.int k), some (.ref A), c] = [some x, some (V.ref w0), a', b', c', e'] ∧ Same H H' ∧ H' w0 = some (.lst (es.map (·.1))) ∧
      (∀ e ∈ es, Ent H H' e.1 e.2) ∧ rowD d = (es.all fun e => rowD e.2) ∧ wsum es ≤ wD d := by
      intro H' s5 hl5 he5 e5
      refine ⟨wsum (es1 ++ ps), ?_, es1 ++ ps, _, _, _, _, rfl, rfl, s5, hl5, he5, ?_, ?_⟩
      · rw [wsum_append, wsum_append]
        omega
      · rw [hrow, List.all_append, List.all_append, ← e5]
        simp [rowD_elems ky]
      · rw [wsum_append] at hwe ⊢
        omega
    refine ⟨_, rfl, _, _, rfl, .inl (SqL.of hA4), _, rfl, _, _, rfl, (hx.mono s4).lt, _, _, rfl, rfl, _, rfl, ?_⟩
    refine ite2 (fun c5 => ?_) (fun c5 => ?_)
    · -- texts, too
      refine ⟨_, rfl, dc_seqD (K := K) (xs := xs) (hx.mono s4) (fun D i H' => Same H4 H' ∧ ∃ zs, H' D = some (.dK (setK zs)) ∧ zs.length ≤ i ∧ ∀ z, z ∈ zs ↔ PyData.str z ∈ (elemsD r).take i) (fun D hD => ⟨same_new hD _, [], upd_same, Nat.le_refl _, by simp⟩) ?_ ?_ ?_⟩
      · rintro D i H' hD _ ⟨s5, _⟩
        rcases hx.mono s4 with h | h
        · exact (s5 _ _ h).trans h.symm
        · exact (s5 _ _ h).trans h.symm
      · rintro D i xv H' hD e ⟨s5, zs, hD', hl', hm'⟩
        obtain ⟨dv, hdv, hdd⟩ := hxs.get e
        have tk : (elemsD r).take (i + 1) = (elemsD r).take i ++ [dv] := take_more hdv
        have ilt : i < xs.length := (List.getElem?_eq_some_iff.mp e).1
        refine ⟨rfl, _, rfl, _, _, _, _, _, rfl, .ty _, ty_of (hdd.mono (s4.trans s5)), kI_str, _, rfl, ?_⟩
        refine ite2 (fun c6 => ?_) (fun c6 => ?_)
        · cases hdd with
          | str z =>
            refine ⟨_, rfl, setK zs, Sum.inr z, rfl, hD', ?_, same_mut s5 hD _, _, upd_same.trans (by rw [setK_put]), ?_, fun y => ?_⟩
            · have : (setK zs).length = zs.length := by simp [setK]
              rw [this]
              exact Nat.lt_of_le_of_lt (show _ ≤ 2000 by omega) (by decide)
            · split
              · omega
              · simp; omega
            · rw [tk]
              by_cases hz : z ∈ zs
              · rw [if_pos hz, hm', List.mem_append]
                constructor
                · exact .inl
                · rintro (h | h)
                  · exact h
                  · simp at h
                    subst h
                    exact (hm' _).mp hz
              · rw [if_neg hz, List.mem_append, List.mem_append, hm']
                simp
          | _ => cases c6
        · refine ⟨s5, zs, hD', by omega, fun y => ?_⟩
          rw [hm', tk, List.mem_append]
          constructor
          · exact .inl
          · rintro (h | h)
            · exact h
            · simp at h
              subst h
              exact absurd rfl c6
      · rintro D H5 hD ⟨s5, zs, hD', hl', hm'⟩
        rw [full] at hm'
        refine ⟨D, zs, rfl, hD', by omega, fun z hz => ?_, fun H6 s6 => ⟨_, rfl, ?_⟩⟩
        · have mem := (hm' z).mp hz
          obtain ⟨j, hj⟩ := List.getElem?_of_mem mem
          have := oksD_get hps hj
          simp only [okD, Bool.and_eq_true, decide_eq_true_eq] at this
          exact this.1
        have ps2 := parts_strs hm'
        have s46 := s5.trans s6
        refine ite2 (fun c7 => ?_) (fun c7 => ?_)
        · have q := q H6 (s4.trans s46)
          have z : rowD d = false := by
            rw [hrow, List.all_append]
            have : zs.all isThingS = false := by simpa using c7
            simp [rowD_elems ky, ps2, this]
          rw [z] at q
          exact q
        · have : zs.all isThingS = true := by simpa using c7
          rw [this, Bool.and_true, hp4] at ps2
          exact fin H6 (s4.trans s46) (s46 _ _ hl4) (fun e he => (he4 e he).mono fun t zs z => s46 _ _ z) ps2
    · -- agains alone
      refine iteF (fin H4 s4 hl4 he4 ?_)
      rw [← hp4]
      congr 1
      have c5 : ¬ ag.length < xs.length := by simpa using c5
      rw [hag.length, hxs.length] at c5
      exact (List.length_filter_eq_length_iff.mp (Nat.le_antisymm (List.length_filter_le _ _) (by omega)) |> List.filter_eq_self.mpr).symm
end
end K02

set_option Elab.async false
set_option linter.all false
set_option maxRecDepth 100000
set_option maxHeartbeats 4000000
namespace MC
open PySem PySem.Spec L2
/-- all that is tracked stays but the two of the dice -/
def Chg (d d0 : Addr) (H H' : Hp) : Prop := ∀ b o, b ≠ d → b ≠ d0 → H b = some o → H' b = some o
theorem Chg.refl (d d0 : Addr) (H : Hp) : Chg d d0 H H := fun _ _ _ _ h => h
theorem Chg.trans {d d0 : Addr} {H H1 H2 : Hp} (a : Chg d d0 H H1) (b : Chg d d0 H1 H2) : Chg d d0 H H2 := fun x o h1 h2 h => b x o h1 h2 (a x o h1 h2 h)
theorem Chg.same {d d0 : Addr} {H H1 H2 : Hp} (a : Chg d d0 H H1) (b : Same H1 H2) : Chg d d0 H H2 := fun x o h1 h2 h => b x o (a x o h1 h2 h)
theorem Chg.of {d d0 : Addr} {H H2 : Hp} (b : Same H H2) : Chg d d0 H H2 := fun x o _ _ h => b x o h
theorem Chg.updd {d d0 : Addr} {H H1 : Hp} (a : Chg d d0 H H1) (o : HO) : Chg d d0 H (upd H1 d o) := fun x u h1 h2 h => by rw [upd_ne h1]; exact a x u h1 h2 h
theorem Chg.updd0 {d d0 : Addr} {H H1 : Hp} (a : Chg d d0 H H1) (o : HO) : Chg d d0 H (upd H1 d0 o) := fun x u h1 h2 h => by rw [upd_ne h2]; exact a x u h1 h2 h
theorem Chg.updn {d d0 : Addr} {H H1 : Hp} (a : Chg d d0 H H1) {p : Addr} (hp : H p = none) (o : HO) : Chg d d0 H (upd H1 p o) := fun x u h1 h2 h => by rw [upd_ne (ne_of_none h hp)]; exact a x u h1 h2 h
def Dice (H : Hp) (d d0 : Addr) (N : Nat) : Prop := ∃ (gs : List Int) (m n : Int), H d = some (.lst [.ref d0, .int m, .int n]) ∧ H d0 = some (.lst (gs.map V.int)) ∧ 0 ≤ m ∧ m < 2 ^ 129 ∧ 0 ≤ n ∧ n ≤ (N : Int)
theorem dice_ne {H : Hp} {d d0 : Addr} {gs : List Int} {r : List V} (h1 : H d = some (.lst (.ref d0 :: r))) (h2 : H d0 = some (.lst (gs.map V.int))) : d ≠ d0 := ne_of h1 h2 (fun z => by
  injection z with z
  cases gs with
  | nil => cases z
  | cons g gs => cases z)
theorem Dice.mono {H : Hp} {d d0 : Addr} {N M : Nat} (h : Dice H d d0 N) (hm : N ≤ M) : Dice H d d0 M := by
  obtain ⟨gs, m, n, h1, h2, h3, h4, h5, h6⟩ := h
  exact ⟨gs, m, n, h1, h2, h3, h4, h5, by omega⟩
theorem Dice.same {H H' : Hp} {d d0 : Addr} {N : Nat} (h : Dice H d d0 N) (e : Same H H') : Dice H' d d0 N := by
  obtain ⟨gs, m, n, h1, h2, r⟩ := h
  exact ⟨gs, m, n, e _ _ h1, e _ _ h2, r⟩
theorem Dice.at {H : Hp} {d d0 : Addr} {N : Nat} (h : Dice H d d0 N) : H d ≠ none ∧ H d0 ≠ none ∧ d ≠ d0 := by
  obtain ⟨gs, m, n, h1, h2, r⟩ := h
  exact ⟨by rw [h1]; exact (fun z => (nomatch z)), by rw [h2]; exact (fun z => (nomatch z)), dice_ne h1 h2⟩
/-- another object is written or laid -/
theorem Dice.upd {H : Hp} {d d0 p : Addr} {N : Nat} {o : HO} (h : Dice H d d0 N) (h1 : p ≠ d) (h2 : p ≠ d0) : Dice (L2.upd H p o) d d0 N := by
  obtain ⟨gs, m, n, k1, k2, r⟩ := h
  exact ⟨gs, m, n, by rw [upd_ne h1.symm]; exact k1, by rw [upd_ne h2.symm]; exact k2, r⟩
theorem log2_of {i : Int} {n : Nat} (h : i.natAbs < 2 ^ n) (h0 : 0 < n) : i.natAbs.log2 < n := by
  by_cases z : i.natAbs = 0
  · rw [z]; exact h0
  · exact (Nat.log2_lt z).mpr h
/-- a number from 0 on below k, however great -/
def spRollW : Sp := fun vs H Q _ => ∃ (d d0 : Addr) (N : Nat) (k : Int), vs = [.ref d, .int k] ∧ Dice H d d0 N ∧ N ≤ 10 ^ 12 ∧ 1 ≤ k ∧ k.natAbs.log2 < 9000 ∧
  ∀ r H', 0 ≤ r → r < k → Chg d d0 H H' → Dice H' d d0 (N + 1) → Q (.int r) H'
theorem spRollW_len : ∀ vs H Q E, spRollW vs H Q E → vs.length = 2 := fun vs H Q E h => by
  obtain ⟨d, d0, N, k, rfl, _⟩ := h
  rfl
/-- a number from 0 on below k -/
def spRoll : Sp := fun vs H Q _ => ∃ (d d0 : Addr) (N : Nat) (k : Int), vs = [.ref d, .int k] ∧ Dice H d d0 N ∧ N ≤ 10 ^ 12 ∧ 1 ≤ k ∧ k ≤ 10 ^ 31 ∧
  ∀ r H', 0 ≤ r → r < k → Chg d d0 H H' → Dice H' d d0 (N + 1) → Q (.int r) H'
theorem spRoll_len : ∀ vs H Q E, spRoll vs H Q E → vs.length = 2 := fun vs H Q E h => by
  obtain ⟨d, d0, N, k, rfl, _⟩ := h
  rfl
end MC
namespace K02
open PySem PySem.Spec L2 MC
open PyProof.Rows hiding St
section
variable {P : Program} {w : World} {K : PySem.W.Frag} {mg : Str → Option Value} {base : Heap} {f_l_roll : Addr} {fd_l_roll : FuncData}
theorem ok_rollW (T : Txt K mg) (O_l_roll : Own K mg "_law_roll" s_l_roll f_l_roll fd_l_roll ["_law_dice_here", "_law_many_here"]) : FnOk P w K mg base CX0 1 f_l_roll fd_l_roll ["_law_dice_here", "_law_many_here"] spRollW := by
  refine O_l_roll.F.ok sc_l_roll spRollW_len (fun cdv A outer s H vs Q E hr h => ?_)
  obtain ⟨d, d0, N, k, rfl, ⟨gs0, m0, n0, hd, hd0, m1, m2, n1, n2⟩, hN, k1, k2, q⟩ := h
  have hu1 : (A.deeper (envOfC "_law_roll" (defScope s_l_roll) s.heap.objs.size f_l_roll cdv)).units < cLine := by have := hr.un; omega
  refine ⟨_, (pss_cons (ps_while PassesOwn.never (PW.pt (pw_and (pt_cmpR (k_neNil (K := K) rfl hu1) (pe_ix (k_ix_list (K := K) rfl) (pv 0) pe_int (fun _ _ => rfl)) (pe_lst pa_nil) (nomark _)) (pw_and1 (pt_cmpR op_lt (pe_ix (k_ix_list (K := K) rfl) (pe_ix (k_ix_list (K := K) rfl) (pv 0) pe_int (fun _ _ => rfl)) pe_int (fun _ _ => rfl)) pe_int (nomark _)))))
    (pss_one (ps_expr (k_bm (K := K) rfl (pe_bm PySem.F.plainAttrs_list PySem.F.slot_list_pop PySem.F.type_list_pop mt_popAt (pe_ix (k_ix_list (K := K) rfl) (pv 0) pe_int (fun _ _ => rfl)) (pa_cons pe_int pa_nil))))))
    (pss_cons (ps_if (pt_cmpR (k_neNil (K := K) rfl hu1) (pe_ix (k_ix_list (K := K) rfl) (pv 0) pe_int (fun _ _ => rfl)) (pe_lst pa_nil) (nomark _))
    (pss_cons (ps_set (i := 2) sc_l_roll.nd rfl (Or.inl rfl) (pe_op op_mod (pe_ix (k_ix_list (K := K) rfl) (pe_ix (k_ix_list (K := K) rfl) (pv 0) pe_int (fun _ _ => rfl)) pe_int (fun _ _ => rfl)) (pv 1)))
    (pss_cons (ps_asg (pe_op op_fdivW (pe_ix (k_ix_list (K := K) rfl) (pe_ix (k_ix_list (K := K) rfl) (pv 0) pe_int (fun _ _ => rfl)) pe_int (fun _ _ => rfl)) (pv 1)) (pg_sub (pe_ix (k_ix_list (K := K) rfl) (pv 0) pe_int (fun _ _ => rfl)) pe_int set_list))
    (pss_one (ps_ret (pv 2)))))
    pss_nil)
    (pss_cons (ps_asg (pe_op op_add (pe_ix (k_ix_list (K := K) rfl) (pv 0) pe_int (fun _ _ => rfl)) pe_int) (pg_sub (pv 0) pe_int set_list))
    (pss_cons (ps_set (i := 3) sc_l_roll.nd rfl (Or.inl rfl) (pe_op op_add (pe_op op_mulW (pe_ix (k_ix_list (K := K) rfl) (pv 0) pe_int (fun _ _ => rfl)) (pe_ix (k_ix_list (K := K) rfl) (pv 0) pe_int (fun _ _ => rfl))) (pe_op op_mulW (pe_op op_mul pe_int (pe_ix (k_ix_list (K := K) rfl) (pv 0) pe_int (fun _ _ => rfl))) (pe_ix (k_ix_list (K := K) rfl) (pv 0) pe_int (fun _ _ => rfl)))))
    (pss_cons (ps_set (i := 3) sc_l_roll.nd rfl (Or.inl rfl) (pe_op op_add (pe_op op_add (pv 3) (pe_op op_mul pe_int (pe_ix (k_ix_list (K := K) rfl) (pv 0) pe_int (fun _ _ => rfl)))) pe_int))
    (pss_cons (ps_asg (pe_op op_mod (pv 3) pe_int) (pg_sub (pv 0) pe_int set_list))
    (pss_one (ps_ret (pe_op op_mod (pe_op op_fdivW (pe_ix (k_ix_list (K := K) rfl) (pv 0) pe_int (fun _ _ => rfl)) (pe_op op_pow pe_int pe_int)) (pv 1)))))))))), ?_⟩
  refine ⟨fun m σ H' => ∃ (gs : List Int), m = gs.length ∧ σ = [some (.ref d), some (.int k), none, none] ∧ Chg d d0 H H' ∧ H' d = some (.lst [.ref d0, .int m0, .int n0]) ∧ H' d0 = some (.lst (gs.map V.int)),
    ⟨_, gs0, rfl, rfl, Chg.refl _ _ _, hd, hd0⟩, ?_⟩
  rintro m σ H1 ⟨gs, rfl, rfl, c1, e1, e2⟩
  have hne := dice_ne e1 e2
  have kl := k2
  cases gs with
  | nil =>
    -- nothing is left of the great ones
    refine ⟨_, rfl, _, _, _, _, rfl, rfl, SqL.of e1, atI_nat (j := 0) rfl, Nat.zero_le _, fun p hp => ⟨_, _, _, rfl, rfl, SqL.of (same_new hp _ _ _ e2), upd_same, _, rfl, ?_⟩⟩
    have s1 := same_new (H := H1) hp (.lst [])
    refine ⟨_, rfl, _, _, _, _, rfl, rfl, SqL.of (s1 _ _ e1), atI_nat (j := 0) rfl, Nat.zero_le _, fun p2 hp2 => ⟨_, _, _, rfl, rfl, SqL.of (same_new hp2 _ _ _ (s1 _ _ e2)), upd_same, _, rfl, ?_⟩⟩
    have s2 := s1.trans (same_new hp2 (.lst []))
    have c2 := c1.same s2
    have e3 := s2 _ _ e1
    have e4 := s2 _ _ e2
    generalize upd (upd H1 p (.lst [])) p2 (.lst []) = H2 at c2 e3 e4
    have nl : n0.natAbs.log2 < 100 := log2_of (Nat.lt_of_le_of_lt (show n0.natAbs ≤ 10 ^ 12 by omega) (by decide)) (by decide)
    have n1l : (n0 + 1).natAbs.log2 < 100 := log2_of (Nat.lt_of_le_of_lt (show (n0 + 1).natAbs ≤ 10 ^ 12 + 1 by omega) (by decide)) (by decide)
    have n2l : (69621 * (n0 + 1)).natAbs.log2 < 200 := log2_of (Nat.lt_of_le_of_lt (show (69621 * (n0 + 1)).natAbs ≤ 69621 * (10 ^ 12 + 1) by omega) (by decide)) (by decide)
    have ml : m0.natAbs.log2 < 200 := log2_of (Nat.lt_of_lt_of_le (show m0.natAbs < 2 ^ 129 by omega) (by decide)) (by decide)
    -- d[2] = d[2] + 1
    refine ⟨_, rfl, _, _, _, _, rfl, rfl, SqL.of e3, atI_nat (j := 2) rfl, _, _, rfl, rfl, _, rfl, _, _, _, 2, rfl, rfl, e3, rfl, ?_⟩
    have e5 : upd H2 d (.lst ([.ref d0, .int m0, .int n0].set 2 (.int (n0 + 1)))) d = some (.lst [.ref d0, .int m0, .int (n0 + 1)]) := upd_same
    refine ⟨_, rfl, _, _, _, _, rfl, rfl, SqL.of e5, atI_nat (j := 1) rfl, _, rfl, _, _, _, _, rfl, rfl, SqL.of e5, atI_nat (j := 1) rfl, _, _, rfl, rfl, (show CMulW _ _ by unfold CMulW; omega),
      _, rfl, _, _, _, _, rfl, rfl, SqL.of e5, atI_nat (j := 2) rfl, _, _, rfl, rfl, .inl (by decide), _, rfl, _, _, _, _, rfl, rfl, SqL.of e5, atI_nat (j := 2) rfl, _, _, rfl, rfl, (show CMulW _ _ by unfold CMulW; omega), _, _, rfl, rfl, ?_⟩
    refine ⟨_, rfl, _, rfl, _, _, _, _, rfl, rfl, SqL.of e5, atI_nat (j := 1) rfl, _, _, rfl, rfl, .inl (by decide), _, _, rfl, rfl, _, _, rfl, rfl, ?_⟩
    refine ⟨_, rfl, _, _, rfl, rfl, (by show (0 : Int) < 340282366920938463463374607431768211297; decide), _, rfl, _, _, _, 1, rfl, rfl, e5, rfl, ?_⟩
    have e6 : ∀ m' : Int, upd (upd H2 d (.lst ([.ref d0, .int m0, .int n0].set 2 (.int (n0 + 1))))) d (.lst ([.ref d0, .int m0, .int (n0 + 1)].set 1 (.int m'))) d = some (.lst [.ref d0, .int m', .int (n0 + 1)]) := fun _ => upd_same
    refine ⟨_, rfl, _, _, _, _, rfl, rfl, SqL.of (e6 _), atI_nat (j := 1) rfl, _, _, rfl, rfl, ⟨by decide, by decide, by decide⟩, _, _, rfl, rfl, ⟨by decide, by decide⟩, _, rfl, _, _, rfl, rfl, k1, ?_⟩
    refine q _ _ (Int.emod_nonneg _ (by omega)) (Int.emod_lt_of_pos _ (by omega)) ((c2.updd _).updd _) ⟨[], _, n0 + 1, e6 _, ?_, Int.emod_nonneg _ (by decide), ?_, by omega, by omega⟩
    · rw [upd_ne hne.symm, upd_ne hne.symm]; exact e4
    · exact Int.lt_of_lt_of_le (Int.emod_lt_of_pos _ (by decide)) (by decide)
  | cons g gs =>
    refine ⟨_, rfl, _, _, _, _, rfl, rfl, SqL.of e1, atI_nat (j := 0) rfl, Nat.zero_le _, fun p hp => ⟨_, _, _, rfl, rfl, SqL.of (same_new hp _ _ _ e2), upd_same, _, rfl, ?_⟩⟩
    have s1 := same_new (H := H1) hp (.lst [])
    have c2 := c1.same s1
    have e3 := s1 _ _ e1
    have e4 := s1 _ _ e2
    generalize upd H1 p (.lst []) = H2 at c2 e3 e4
    refine ⟨_, rfl, _, _, _, _, rfl, rfl, SqL.of e3, atI_nat (j := 0) rfl, _, _, _, _, rfl, rfl, SqL.of e4, atI_nat (j := 0) rfl, _, _, rfl, rfl, _, rfl, ?_⟩
    refine ite2 (fun b => ?_) (fun b => ?_)
    · -- one that is used up goes
      refine ⟨fun σ' H' => ∃ m', m' < (g :: gs).length ∧ _, fun _ _ z => z, ?_⟩
      refine ⟨_, rfl, _, _, _, _, rfl, rfl, SqL.of e3, atI_nat (j := 0) rfl, .inl ⟨rfl, _, SqL.of e4⟩, _, _, _, 0, _, rfl, rfl, e4, by decide, by decide, by simp [seqIndex?], rfl, ?_⟩
      refine ⟨gs.length, by simp, gs, rfl, rfl, c2.updd0 _, ?_, upd_same⟩
      rw [upd_ne hne]; exact e3
    · have g1 : 1 ≤ g := by
        have : ¬ g < 1 := by simpa using b
        omega
      refine ⟨_, rfl, _, _, _, _, rfl, rfl, SqL.of e3, atI_nat (j := 0) rfl, Nat.zero_le _, fun p2 hp2 => ⟨_, _, _, rfl, rfl, SqL.of (same_new hp2 _ _ _ e4), upd_same, _, rfl, ?_⟩⟩
      have s2 := same_new (H := H2) hp2 (.lst [])
      have c3 := c2.same s2
      have e5 := s2 _ _ e3
      have e6 := s2 _ _ e4
      generalize upd H2 p2 (.lst []) = H3 at c3 e5 e6
      refine ⟨_, rfl, _, _, _, _, rfl, rfl, SqL.of e5, atI_nat (j := 0) rfl, _, _, _, _, rfl, rfl, SqL.of e6, atI_nat (j := 0) rfl, _, rfl, _, _, rfl, rfl, k1, ?_⟩
      refine ⟨_, rfl, _, _, _, _, rfl, rfl, SqL.of e5, atI_nat (j := 0) rfl, _, _, _, _, rfl, rfl, SqL.of e6, atI_nat (j := 0) rfl, _, rfl, _, _, rfl, rfl, ⟨k1, kl⟩,
        _, rfl, _, _, _, _, rfl, rfl, SqL.of e5, atI_nat (j := 0) rfl, _, _, _, 0, rfl, rfl, e6, (by simp [ixN]), ?_⟩
      refine ⟨_, rfl, q _ _ (Int.emod_nonneg _ (by omega)) (Int.emod_lt_of_pos _ (by omega)) (c3.updd0 _) ⟨(g / k) :: gs, m0, n0, ?_, upd_same, m1, m2, n1, by omega⟩⟩
      rw [upd_ne hne]; exact e5
theorem ok_roll (T : Txt K mg) (O_l_roll : Own K mg "_law_roll" s_l_roll f_l_roll fd_l_roll ["_law_dice_here", "_law_many_here"]) : FnOk P w K mg base CX0 1 f_l_roll fd_l_roll ["_law_dice_here", "_law_many_here"] spRoll :=
  weak (ok_rollW T O_l_roll) fun vs H Q E h => by
    obtain ⟨d, d0, N, k, rfl, hD, hN, k1, k2, q⟩ := h
    exact ⟨d, d0, N, k, rfl, hD, hN, k1, log2_of (n := 9000) (Nat.lt_of_lt_of_le (show k.natAbs < 2 ^ 200 from Nat.lt_of_le_of_lt (show k.natAbs ≤ 10 ^ 31 by omega) (by decide)) (Nat.pow_le_pow_right (by decide) (by decide))) (by decide), q⟩
end
end K02

set_option Elab.async false
set_option linter.all false
set_option maxRecDepth 100000
set_option maxHeartbeats 4000000
namespace MC
open PySem PySem.Spec L2
/-- the heap without what may change -/
def Hid (S : List Addr) (H : Hp) : Hp := fun a => if a ∈ S then none else H a
theorem hid_in {S : List Addr} {H : Hp} {a : Addr} (h : a ∈ S) : Hid S H a = none := if_pos h
theorem hid_out {S : List Addr} {H : Hp} {a : Addr} (h : a ∉ S) : Hid S H a = H a := if_neg h
theorem hid_some {S : List Addr} {H : Hp} {a : Addr} {o : HO} (h : Hid S H a = some o) : a ∉ S ∧ H a = some o := by
  by_cases q : a ∈ S
  · rw [hid_in q] at h; cases h
  · rw [hid_out q] at h; exact ⟨q, h⟩
theorem hid_same {S : List Addr} {H : Hp} : Same (Hid S H) H := fun b o h => (hid_some h).2
theorem hid_less {S S' : List Addr} {H : Hp} (h : ∀ a ∈ S, a ∈ S') : Same (Hid S' H) (Hid S H) := fun b o e => by
  obtain ⟨h1, h2⟩ := hid_some e
  rw [hid_out (fun z => h1 (h _ z))]; exact h2
theorem hid_more {S S' : List Addr} {H : Hp} (h : ∀ a ∈ S', a ∈ S ∨ H a = none) : Same (Hid S H) (Hid S' H) := fun b o e => by
  obtain ⟨h1, h2⟩ := hid_some e
  rw [hid_out (fun z => (h _ z).elim h1 fun n => by rw [n] at h2; cases h2)]; exact h2
theorem Same.hid {S : List Addr} {H H' : Hp} (e : Same H H') : Same (Hid S H) (Hid S H') := fun b o h => by
  obtain ⟨h1, h2⟩ := hid_some h
  rw [hid_out h1]; exact e _ _ h2
theorem Chg.hid {S : List Addr} {d d0 : Addr} {H H' : Hp} (e : Chg d d0 H H') (h1 : d ∈ S) (h2 : d0 ∈ S) : Same (Hid S H) (Hid S H') := fun b o h => by
  obtain ⟨n, q⟩ := hid_some h
  rw [hid_out n]; exact e _ _ (fun z => n (z ▸ h1)) (fun z => n (z ▸ h2)) q
/-- one of the hidden ones is written -/
theorem hid_upd {S : List Addr} {H H' : Hp} {p : Addr} (e : Same (Hid S H) (Hid S H')) (hp : p ∈ S) (o : HO) : Same (Hid S H) (Hid S (upd H' p o)) := fun b u h => by
  have n := (hid_some h).1
  have q := e _ _ h
  rw [hid_out n] at q ⊢
  rw [upd_ne (fun z => n (by rw [z]; exact hp))]; exact q
/-- a new one is laid, or one that H doesn't know is written -/
theorem hid_new {S : List Addr} {H H' : Hp} {p : Addr} (e : Same (Hid S H) (Hid S H')) (hp : Hid S H p = none) (o : HO) : Same (Hid S H) (Hid S (upd H' p o)) := fun b u h => by
  have n := (hid_some h).1
  have q := e _ _ h
  rw [hid_out n] at q ⊢
  rw [upd_ne (fun z => by rw [z, hp] at h; cases h)]; exact q
theorem hid_none {S : List Addr} {H : Hp} {p : Addr} (h : H p = none) : Hid S H p = none := by
  by_cases q : p ∈ S
  · exact hid_in q
  · rw [hid_out q]; exact h
theorem hid_free {S : List Addr} {H H' : Hp} {p : Addr} (e : Same (Hid S H) (Hid S H')) (h : H' p = none) (hp : p ∉ S) : H p = none := by
  cases q : H p with
  | none => rfl
  | some o =>
    have z := e p o (by rw [hid_out hp]; exact q)
    rw [hid_out hp, h] at z; cases z
end MC
namespace K02
open PySem PySem.Spec L2 MC
open PyProof.Rows hiding St
section
variable {P : Program} {w : World} {K : PySem.W.Frag} {mg : Str → Option Value} {base : Heap}
def spDice (K : PySem.W.Frag) : Sp := fun vs H Q _ => ∃ (a : Addr) (ns : List Int), vs = [.ref a] ∧ SqL K H a (ns.map V.int) ∧ ns.length ≤ 63 ∧
  ∀ d d0 H', Same H H' → H d = none → H d0 = none → Dice H' d d0 0 → Q (.ref d) H'
theorem cut_ints (ns : List Int) (lo hi : Option Int) : ∃ cs : List Int, cutV (ns.map V.int) lo hi = cs.map V.int ∧ cs.length ≤ ns.length := by
  refine ⟨(ns.drop (HT.sIx ns.length 0 lo)).take (HT.sIx ns.length ns.length hi - HT.sIx ns.length 0 lo), ?_, ?_⟩
  · unfold cutV
    rw [List.length_map, List.map_take, List.map_drop]
  · rw [List.length_take, List.length_drop]; omega
variable {f_l_dice : Addr} {fd_l_dice : FuncData}
theorem ok_dice (T : Txt K mg) (O_l_dice : Own K mg "_law_dice" s_l_dice f_l_dice fd_l_dice ["_law_script"]) : FnOk P w K mg base CX0 1 f_l_dice fd_l_dice ["_law_script"] (spDice K) := by
  refine O_l_dice.F.ok sc_l_dice (fun vs H Q E h => by obtain ⟨a, ns, rfl, _⟩ := h; rfl) (fun cdv A outer s H vs Q E hr h => ?_)
  obtain ⟨a, ns, rfl, hS, hl, q⟩ := h
  refine ⟨_, (pss_cons (ps_setLc (i := 1) (own := [("_law_cell", 3)]) rfl sc_l_dice.nd rfl rfl (sw_true rfl rfl rfl (by decide +kernel)) (k_list (K := K) rfl (pe_slice (k_sl_list (K := K) rfl) (pv 0) po_none (po_some pe_int))) (blkOk_by (own := [("_law_cell", 3)]) (N := ["_law_script", "_law_great", "_law_mixed", "_law_cell"]) (sc := defScope s_l_dice) (by decide +kernel)) (fun _ _ _ _ _ => (pg_name (i := 3) sc_l_dice.nd rfl (Or.inl rfl))) (fun _ _ _ _ _ => pts_one (pt_cmpR op_ge (pv 3) (pe_op op_pow pe_int pe_int) (nomark _))) (fun _ _ _ _ _ => (pe_op op_sub (pv 3) (pe_op op_pow pe_int pe_int))))
    (pss_cons (ps_set (i := 2) sc_l_dice.nd rfl (Or.inl rfl) (pe_op op_pow pe_int pe_int))
    (pss_cons (ps_for PassesOwn.never rfl (k_list (K := K) rfl (pe_slice (k_sl_list (K := K) rfl) (pv 0) po_none (po_some pe_int))) (pg_name (i := 3) sc_l_dice.nd rfl (Or.inl rfl))
    (pss_one (ps_set (i := 2) sc_l_dice.nd rfl (Or.inl rfl) (pe_op op_mod (pe_op op_add (pe_op op_add (pe_op op_mulW (pv 2) (pv 2)) (pe_op op_mul (pv 3) pe_int)) pe_int) pe_int))))
    (pss_one (ps_ret (pe_lst (pa_cons (pv 1) (pa_cons (pv 2) (pa_cons pe_int pa_nil))))))))), ?_⟩
  obtain ⟨cs, ecs, lcs⟩ := cut_ints ns none (some 48)
  refine ⟨_, rfl, _, rfl, _, _, rfl, hS, fun p hp => ⟨p, rfl, ⟨_, SqL.of upd_same⟩, fun D hD => ?_⟩⟩
  rw [ecs] at hD ⊢
  have s1 := same_new (H := H) hp (.lst (cs.map V.int))
  have hpD : upd H p (.lst (cs.map V.int)) p = some (.lst (cs.map V.int)) := upd_same
  generalize upd H p (.lst (cs.map V.int)) = H1 at s1 hpD hD
  refine lc_list (K := K) (a := p) (xs := cs.map V.int) (fun i H' => Same H1 H' ∧ ∃ gs : List Int, H' D = some (.lst (gs.map V.int)) ∧ gs.length ≤ i) ⟨same_new hD _, [], upd_same, Nat.le_refl _⟩ (fun i H' _ z => SqL.of (z.1 _ _ hpD)) ?_ ?_
  · rintro i x H2 hi ⟨s2, gs, hg, lg⟩
    have il : i < 63 := by have := (List.getElem?_eq_some_iff.mp hi).1; rw [List.length_map] at this; omega
    obtain ⟨z, rfl⟩ : ∃ z, x = V.int z := by
      rw [List.getElem?_map] at hi
      cases e : cs[i]? with
      | none => rw [e] at hi; cases hi
      | some z => rw [e] at hi; exact ⟨z, (Option.some.inj hi).symm⟩
    refine ⟨rfl, _, rfl, _, _, rfl, rfl, ⟨by decide, by decide, by decide⟩, _, _, rfl, rfl, _, rfl, ?_⟩
    refine ite2 (fun c => ?_) (fun c => ?_)
    · refine ⟨_, rfl, _, _, rfl, rfl, ⟨by decide, by decide, by decide⟩, _, _, rfl, rfl, _, hg, ?_, same_mut s2 hD _, gs ++ [z - 10 ^ Int.toNat 18], ?_, ?_⟩
      · rw [List.length_map]; exact Nat.lt_of_le_of_lt (show _ ≤ 100 by omega) (by decide)
      · rw [upd_same, List.map_append]; rfl
      · simp; omega
    · exact ⟨s2, gs, hg, by omega⟩
  · rintro H2 ⟨s2, gs, hg, lg⟩
    have hD0 : H D = none := s1.free hD
    refine ⟨_, _, rfl, rfl, ⟨by decide, by decide, by decide⟩, ?_⟩
    refine ⟨_, rfl, _, rfl, _, _, rfl, (s1.trans s2).seq hS, fun p2 hp2 => ⟨p2, rfl, ⟨_, SqL.of upd_same⟩, ?_⟩⟩
    rw [ecs]
    have s3 := same_new (H := H2) hp2 (.lst (cs.map V.int))
    have hq : upd H2 p2 (.lst (cs.map V.int)) p2 = some (.lst (cs.map V.int)) := upd_same
    generalize upd H2 p2 (.lst (cs.map V.int)) = H3 at s3 hq
    have s4 := (s1.trans s2).trans s3
    have hg3 := s3 _ _ hg
    refine for_list (K := K) (a := p2) (xs := cs.map V.int) (fun i σ H' => H' = H3 ∧ ∃ (m : Int) (c : Option V), σ = [some (.ref a), some (.ref D), some (.int m), c] ∧ 0 ≤ m ∧ m < 2 ^ 129) ⟨rfl, _, _, rfl, by decide, by decide⟩ (fun i σ H' _ z => SqL.of (by rw [z.1]; exact hq)) ?_ ?_
    · rintro i x σ H' hi ⟨rfl, m, c, rfl, m1, m2⟩
      obtain ⟨z, rfl⟩ : ∃ z, x = V.int z := by
        rw [List.getElem?_map] at hi
        cases e : cs[i]? with
        | none => rw [e] at hi; cases hi
        | some z => rw [e] at hi; exact ⟨z, (Option.some.inj hi).symm⟩
      have ml : m.natAbs.log2 < 200 := log2_of (Nat.lt_of_lt_of_le (show m.natAbs < 2 ^ 129 by omega) (by decide)) (by decide)
      refine ⟨_, rfl, _, rfl, _, _, rfl, rfl, (show CMulW _ _ by unfold CMulW; omega), _, rfl, _, _, rfl, rfl, .inr (by decide), _, _, rfl, rfl, _, _, rfl, rfl, _, _, rfl, rfl, (by show (0 : Int) < 340282366920938463463374607431768211297; decide), ?_⟩
      exact ⟨rfl, _, _, rfl, Int.emod_nonneg _ (by decide), Int.lt_of_lt_of_le (Int.emod_lt_of_pos _ (by decide)) (by decide)⟩
    · rintro σ H' ⟨rfl, m, c, rfl, m1, m2⟩
      refine ⟨_, rfl, _, rfl, (by show 3 ≤ sizeLine; decide), fun d hd => ?_⟩
      exact q d D _ (s4.trans (same_new hd _)) (s4.free hd) hD0 ⟨gs, m, 0, upd_same, same_new hd _ _ _ hg3, m1, m2, by decide, by decide⟩
end
end K02

set_option Elab.async false
set_option linter.all false
set_option maxRecDepth 100000
set_option maxHeartbeats 4000000
namespace MC
open PySem PySem.Spec L2
theorem map_erase {α β : Type} (f : α → β) : ∀ (l : List α) (i : Nat), (l.map f).eraseIdx i = (l.eraseIdx i).map f
  | [], _ => rfl
  | _ :: _, 0 => rfl
  | x :: l, i + 1 => by simp [List.eraseIdx_cons_succ, map_erase f l i]
theorem perm_erase {α : Type} : ∀ {l : List α} {i : Nat} (h : i < l.length), (l[i] :: l.eraseIdx i).Perm l
  | x :: l, 0, _ => List.Perm.refl _
  | x :: l, i + 1, h => by
    have q := perm_erase (l := l) (i := i) (by simpa using h)
    exact (List.Perm.swap x _ _).trans (q.cons x)
def lets : Str := "abcdefghijklmnopqrstuvwxyz"
def sgn (c : Nat) : Str := ⟨#[c]⟩
def nms1 : List Str := lets.cps.toList.map sgn
def nms2 : List Str := lets.cps.toList.map fun c => sgn c ++ "zz"
def nms3 : List Str := lets.cps.toList.map fun c => "m" ++ sgn c ++ "abcdef"
def nmsAll : List Str := nms1 ++ nms2 ++ nms3
/-- a thing, but for the last one that the law puts behind -/
def lastS : Str := "last"
def goodS (z : Str) : Bool := isThingS z && !decide (z = lastS)
theorem goodS_is {z : Str} (h : goodS z = true) : isThingS z = true := by unfold goodS at h; rw [Bool.and_eq_true] at h; exact h.1
theorem goodS_ne {z : Str} (h : goodS z = true) : z ≠ lastS := by unfold goodS at h; rw [Bool.and_eq_true] at h; simpa using h.2
theorem nmsAll_ok : nmsAll.all goodS = true := by decide +kernel
theorem nmsAll_nodup : nmsAll.Nodup := by decide +kernel
theorem nmsAll_len : nmsAll.length = 78 := by decide +kernel
theorem lets_len : lets.cps.size = 26 := by decide +kernel
end MC
namespace K02
open PySem PySem.Spec L2 MC
open PyProof.Rows hiding St
section
variable {P : Program} {w : World} {K : PySem.W.Frag} {mg : Str → Option Value} {base : Heap}
def spNames : Sp := fun vs H Q _ => ∃ (d d0 : Addr) (N : Nat) (k : Int), vs = [.ref d, .int k] ∧ Dice H d d0 N ∧ N ≤ 10 ^ 11 ∧ 0 ≤ k ∧ k ≤ 78 ∧
  ∀ p H' (ys : List Str), (ys.length : Int) = k → ys.all goodS = true → ys.Nodup → H p = none → Chg d d0 H H' → H' p = some (.lst (ys.map V.str)) → p ≠ d → p ≠ d0 → Dice H' d d0 (N + 78) → Q (.ref p) H'
theorem ne_dice {H H' : Hp} {d d0 p : Addr} (h : H d ≠ none) (hp : H p = none) : p ≠ d := fun z => h (z ▸ hp)
variable {f_l_dice f_l_roll f_l_names : Addr} {fd_l_dice fd_l_roll fd_l_names : FuncData}
theorem ok_names (T : Txt K mg) (G_l_roll : FnOk P w K mg base CX0 1 f_l_roll fd_l_roll ["_law_dice_here", "_law_many_here"] spRoll) (O_l_roll : Own K mg "_law_roll" s_l_roll f_l_roll fd_l_roll ["_law_dice_here", "_law_many_here"]) (O_l_names : Own K mg "_law_names" s_l_names f_l_names fd_l_names ["_law_dice_here", "_law_many_here"]) : FnOk P w K mg base CX0 2 f_l_names fd_l_names ["_law_dice_here", "_law_many_here"] spNames := by
  refine O_l_names.F.ok sc_l_names (fun vs H Q E h => by obtain ⟨d, d0, N, k, rfl, _⟩ := h; rfl) (fun cdv A outer s H vs Q E hr h => ?_)
  obtain ⟨d, d0, N, k, rfl, hD, hN, k1, k2, q⟩ := h
  refine ⟨_, (pss_cons (ps_set (i := 2) sc_l_names.nd rfl (Or.inl rfl) pe_str)
    (pss_cons (ps_set (i := 3) sc_l_names.nd rfl (Or.inr rfl) (pe_op op_cat (pe_op op_cat (pe_callTy (call_list_text rfl) (by rfl) T.n_list (by decide +kernel) (pa_cons (pv 2) pa_nil)) (pe_lc (own := [("_law_sign", 4)]) rfl sc_l_names.nd (pi_str (pv 2)) (blkOk_by (own := [("_law_sign", 4)]) (N := ["_law_dice_here", "_law_many_here", "_law_letters", "_law_left", "_law_sign", "_law_k"]) (sc := defScope s_l_names) (by decide +kernel)) (fun _ _ _ _ _ => (pg_name (i := 4) sc_l_names.nd rfl (Or.inl rfl))) (fun _ _ _ _ _ => pts_nil) (fun _ _ _ _ _ => (pe_op op_add_str (pv 4) pe_str)))) (pe_lc (own := [("_law_sign", 4)]) rfl sc_l_names.nd (pi_str (pv 2)) (blkOk_by (own := [("_law_sign", 4)]) (N := ["_law_dice_here", "_law_many_here", "_law_letters", "_law_left", "_law_sign", "_law_k"]) (sc := defScope s_l_names) (by decide +kernel)) (fun _ _ _ _ _ => (pg_name (i := 4) sc_l_names.nd rfl (Or.inl rfl))) (fun _ _ _ _ _ => pts_nil) (fun _ _ _ _ _ => (pe_op op_add_str (pe_op op_add_str pe_str (pv 4)) pe_str)))))
    (pss_one (ps_ret (pe_lc (own := [("_law_k", 5)]) rfl sc_l_names.nd (pi_range1 (by rfl) T.n_range (pa_cons (pv 1) pa_nil)) (blkOk_by (own := [("_law_k", 5)]) (N := ["_law_dice_here", "_law_many_here", "_law_letters", "_law_left", "_law_sign", "_law_k"]) (sc := defScope s_l_names) (by decide +kernel)) (fun _ _ _ _ _ => (pg_name (i := 5) sc_l_names.nd rfl (Or.inl rfl))) (fun _ _ _ _ _ => pts_nil) (fun _ _ _ _ _ => (k_bm (K := K) rfl (pe_bm PySem.F.plainAttrs_list PySem.F.slot_list_pop PySem.F.type_list_pop mt_popAt (pv 3) (pa_cons (pe_call G_l_roll (hr.mono (by omega)) rfl O_l_roll.m O_l_roll.F.kp O_l_roll.b .nil pass0 (pa_cons (pv 0) (pa_cons (pe_callB (k_len_seq (K := K) rfl) (by rfl) T.n_len (by decide +kernel) (pa_cons (pv 3) pa_nil)) pa_nil))) pa_nil))))))))), ?_⟩
  have ll : lets.length ≤ sizeLine := by show lets.cps.size ≤ sizeLine; rw [lets_len]; decide
  -- the letters
  refine ⟨_, rfl, lets, rfl, ll, fun p1 hp1 => ⟨_, rfl, lets, rfl, fun D2 hD2 => ?_⟩⟩
  have e1 : upd H p1 (.lst (signV lets)) p1 = some (.lst (nms1.map V.str)) := by rw [upd_same]; simp [signV, nms1, sgn]
  have s1 := same_new hp1 (.lst (signV lets))
  generalize upd H p1 (.lst (signV lets)) = H1 at e1 s1 hD2
  refine lc_str (fun i H' => Same H1 H' ∧ H' D2 = some (.lst ((lets.cps.toList.take i).map fun c => V.str (sgn c ++ "zz")))) ⟨same_new hD2 _, upd_same⟩ ?_ ?_
  · rintro i c H2 e ⟨s2, h2⟩
    have il : i < 26 := by have := (Array.getElem?_eq_some_iff.mp e).1; rw [lets_len] at this; exact this
    refine ⟨rfl, _, rfl, _, _, rfl, rfl, ?_, _, h2, ?_, same_mut s2 hD2 _, ?_⟩
    · show 1 + 2 ≤ sizeLine; decide
    · rw [List.length_map, List.length_take]; exact Nat.lt_of_le_of_lt (Nat.le_trans (Nat.min_le_left _ _) (Nat.le_of_lt il)) (by decide)
    · rw [upd_same, take_more (x := c) (by simpa using e), List.map_append]; rfl
  rintro H2 ⟨s2, h2⟩
  have e2 : H2 D2 = some (.lst (nms2.map V.str)) := by
    rw [h2, List.take_of_length_le (by simp), nms2, List.map_map]; rfl
  refine ⟨p1, D2, _, _, rfl, rfl, s2 _ _ e1, e2, by simp [nms1, nms2, lets_len]; decide, fun p3 hp3 => ⟨_, rfl, lets, rfl, fun D4 hD4 => ?_⟩⟩
  have e3 : upd H2 p3 (.lst (nms1.map V.str ++ nms2.map V.str)) p3 = some (.lst ((nms1 ++ nms2).map V.str)) := by rw [upd_same, List.map_append]
  have s3 := same_new hp3 (.lst (nms1.map V.str ++ nms2.map V.str))
  generalize upd H2 p3 (.lst (nms1.map V.str ++ nms2.map V.str)) = H3 at e3 s3 hD4
  refine lc_str (fun i H' => Same H3 H' ∧ H' D4 = some (.lst ((lets.cps.toList.take i).map fun c => V.str ("m" ++ sgn c ++ "abcdef")))) ⟨same_new hD4 _, upd_same⟩ ?_ ?_
  · rintro i c H4 e ⟨s4, h4⟩
    have il : i < 26 := by have := (Array.getElem?_eq_some_iff.mp e).1; rw [lets_len] at this; exact this
    refine ⟨rfl, _, rfl, _, _, rfl, rfl, (by show 1 + 1 ≤ sizeLine; decide), _, _, rfl, rfl, ?_, _, h4, ?_, same_mut s4 hD4 _, ?_⟩
    · show 2 + 6 ≤ sizeLine; decide
    · rw [List.length_map, List.length_take]; exact Nat.lt_of_le_of_lt (Nat.le_trans (Nat.min_le_left _ _) (Nat.le_of_lt il)) (by decide)
    · rw [upd_same, take_more (x := c) (by simpa using e), List.map_append]; rfl
  rintro H4 ⟨s4, h4⟩
  have e4 : H4 D4 = some (.lst (nms3.map V.str)) := by
    rw [h4, List.take_of_length_le (by simp), nms3, List.map_map]; rfl
  refine ⟨p3, D4, _, _, rfl, rfl, s4 _ _ e3, e4, by simp [nms1, nms2, nms3, lets_len]; decide, fun l hl => ?_⟩
  have e5 : upd H4 l (.lst ((nms1 ++ nms2).map V.str ++ nms3.map V.str)) l = some (.lst (nmsAll.map V.str)) := by rw [upd_same, ← List.map_append]; rfl
  have s5 : Same H (upd H4 l (.lst ((nms1 ++ nms2).map V.str ++ nms3.map V.str))) := (((s1.trans s2).trans s3).trans s4).trans (same_new hl _)
  have hl0 : H l = none := (((s1.trans s2).trans s3).trans s4).free hl
  generalize upd H4 l (.lst ((nms1 ++ nms2).map V.str ++ nms3.map V.str)) = H5 at e5 s5
  have hD5 := hD.same s5
  obtain ⟨nd, nd0, ndd⟩ := hD.at
  have ld : l ≠ d := fun z => nd (z ▸ hl0)
  have ld0 : l ≠ d0 := fun z => nd0 (z ▸ hl0)
  -- so many are drawn
  refine ⟨_, rfl, _, rfl, by omega, by omega, fun D hD' => ?_⟩
  have DH : H D = none := s5.free hD'
  have Dd : D ≠ d := fun z => nd (z ▸ DH)
  have Dd0 : D ≠ d0 := fun z => nd0 (z ▸ DH)
  have lD : l ≠ D := ne_of_none e5 hD'
  refine lc_range (lo := 0) (n := k.toNat) (fun i H' => ∃ left ys : List Str, H' l = some (.lst (left.map V.str)) ∧ H' D = some (.lst (ys.map V.str)) ∧ ys.length = i ∧ left.length + i = 78 ∧ (left ++ ys).all goodS = true ∧ (left ++ ys).Nodup ∧
      Chg d d0 H H' ∧ Dice H' d d0 (N + i)) ⟨nmsAll, [], ?_, upd_same, rfl, nmsAll_len, by rw [List.append_nil]; exact nmsAll_ok, by rw [List.append_nil]; exact nmsAll_nodup, (Chg.of s5).updn DH _, hD5.upd Dd Dd0⟩ ?_ ?_
  · rw [upd_ne lD]; exact e5
  · rintro i H6 hi ⟨left, ys, h1, h2, h3, h4, h5, h6, h7, h8⟩
    have lp : left.length = 78 - i := by omega
    refine ⟨rfl, _, rfl, .inl ⟨rfl, _, SqL.of h1⟩, _, rfl, _, rfl, _, _, rfl, .inl (SqL.of h1), d, d0, N + i, _, rfl, h8, by omega, ?_, ?_, fun r H7 r1 r2 c7 d7 => ?_⟩
    · rw [List.length_map]; omega
    · rw [List.length_map]; omega
    rw [List.length_map] at r2
    have h17 := c7 _ _ ld ld0 h1
    have h27 := c7 _ _ Dd Dd0 h2
    have rl : r.toNat < left.length := by omega
    refine ⟨l, _, r, r.toNat, .str left[r.toNat], rfl, rfl, h17, by omega, by omega, ?_, by simp [rl], ?_⟩
    · rw [List.length_map]
      unfold seqIndex?
      have a1 : ¬ r < 0 := by omega
      have a2 : r < (left.length : Int) := by omega
      simp [a1, a2, r1]
    refine ⟨_, by rw [upd_ne lD.symm]; exact h27, ?_, left.eraseIdx r.toNat, ys ++ [left[r.toNat]], ?_, ?_, by simp [h3], ?_, ?_, ?_, ?_, ?_⟩
    · rw [List.length_map]; exact Nat.lt_of_le_of_lt (show _ ≤ 100 by omega) (by decide)
    · rw [upd_ne lD, upd_same, map_erase]
    · rw [upd_same, List.map_append]; rfl
    · rw [List.length_eraseIdx, if_pos rl]; omega
    · have pm : (left.eraseIdx r.toNat ++ (ys ++ [left[r.toNat]])).Perm (left ++ ys) := by
        refine List.Perm.trans (List.perm_append_comm.trans ?_) (List.Perm.append_right ys (perm_erase rl))
        simp only [List.append_assoc, List.singleton_append, List.cons_append]
        exact (List.perm_append_comm (l₁ := ys) (l₂ := left[r.toNat] :: left.eraseIdx r.toNat)).trans (by simp)
      rw [List.all_eq_true] at h5 ⊢
      exact fun x hx => h5 x (pm.mem_iff.mp hx)
    · have pm : (left.eraseIdx r.toNat ++ (ys ++ [left[r.toNat]])).Perm (left ++ ys) := by
        refine List.Perm.trans (List.perm_append_comm.trans ?_) (List.Perm.append_right ys (perm_erase rl))
        simp only [List.append_assoc, List.singleton_append, List.cons_append]
        exact (List.perm_append_comm (l₁ := ys) (l₂ := left[r.toNat] :: left.eraseIdx r.toNat)).trans (by simp)
      exact pm.nodup_iff.mpr h6
    · exact ((h7.trans c7).updn hl0 _).updn DH _
    · exact (d7.upd ld ld0).upd Dd Dd0
  · rintro H6 ⟨left, ys, h1, h2, h3, h4, h5, h6, h7, h8⟩
    rw [List.all_append, Bool.and_eq_true] at h5
    exact q D H6 ys (by omega) h5.2 (List.nodup_append.mp h6).2.1 DH h7 h2 Dd Dd0 (h8.mono (by omega))
end
end K02

set_option Elab.async false
set_option linter.all false
set_option maxRecDepth 100000
set_option maxHeartbeats 4000000
namespace MC
open PySem PySem.Spec L2
mutual
/-- a part of a row in lists, said at most B times -/
def lineP (B : Int) : PyData → Bool
  | .str z => goodS z
  | .tuple [.list ys, .int t] => decide (1 ≤ t) && decide (t ≤ B) && !ys.isEmpty && lineL B ys
  | _ => false
def lineL (B : Int) : List PyData → Bool
  | [] => true
  | x :: xs => lineP B x && lineL B xs
end
theorem lineL_append (B : Int) (xs ys : List PyData) : lineL B (xs ++ ys) = (lineL B xs && lineL B ys) := by
  induction xs with
  | nil => simp [lineL]
  | cons x xs ih => simp only [List.cons_append, lineL, ih, Bool.and_assoc]
theorem okS {z : Str} (h : isThingS z = true) : okD (.str z) = true := by
  unfold isThingS at h
  simp only [Bool.and_eq_true, decide_eq_true_eq, List.all_eq_true] at h
  simp only [okD, Bool.and_eq_true, decide_eq_true_eq, List.all_eq_true]
  refine ⟨by omega, fun c hc => ?_⟩
  have q := h.2 c hc
  unfold isSign at q
  simp only [Bool.and_eq_true, decide_eq_true_eq] at q
  exact Nat.lt_of_le_of_lt q.2 (by decide)
/-- how many rolls a row wants -/
def rolls : Nat → Nat
  | 0 => 40
  | l + 1 => 6 * rolls l
theorem rolls_ge (l : Nat) : 40 ≤ rolls l := by
  induction l with
  | zero => exact Nat.le_refl _
  | succ l ih => show 40 ≤ 6 * rolls l; omega
def cost : Nat → Nat
  | 0 => 2
  | l + 1 => 5 + rolls l
theorem cost_ok (l : Nat) : 1 + 5 * cost l ≤ rolls l := by
  cases l with
  | zero => decide
  | succ l =>
    have := rolls_ge l
    show 1 + 5 * (5 + rolls l) ≤ 6 * rolls l
    omega
/-- what is new in H beside H0 -/
def New (H0 H : Hp) : Hp := fun a => if H0 a = none then H a else none
theorem new_some {H0 H : Hp} {a : Addr} {o : HO} (h : New H0 H a = some o) : H0 a = none ∧ H a = some o := by
  unfold New at h
  by_cases q : H0 a = none
  · rw [if_pos q] at h; exact ⟨q, h⟩
  · rw [if_neg q] at h; cases h
theorem new_at {H0 H : Hp} {a : Addr} (h : H0 a = none) : New H0 H a = H a := if_pos h
theorem new_same {H0 H : Hp} : Same (New H0 H) H := fun b o h => (new_some h).2
theorem new_step {S : List Addr} {H0 H H' : Hp} (hS : ∀ a ∈ S, H0 a ≠ none) (e : Same (Hid S H) (Hid S H')) : Same (New H0 H) (New H0 H') := fun b o h => by
  obtain ⟨h1, h2⟩ := new_some h
  have n : b ∉ S := fun z => hS b z h1
  have q := e b o (by rw [hid_out n]; exact h2)
  rw [hid_out n] at q
  rw [new_at h1]; exact q
theorem new_of {H0 H H' : Hp} (e : Same H H') : Same (New H0 H) (New H0 H') := fun b o h => by
  obtain ⟨h1, h2⟩ := new_some h
  rw [new_at h1]; exact e _ _ h2
theorem new_dom {H0 H1 H' : Hp} (h : ∀ a, H1 a = none → H0 a = none) : Same (New H1 H') (New H0 H') := fun b o e => by
  obtain ⟨h1, h2⟩ := new_some e
  rw [new_at (h _ h1)]; exact h2
/-- .. but what stands at f -/
theorem newf_dom {H0 H1 H' : Hp} {f : Addr} (h : ∀ a, H1 a = none → H0 a = none) (hf : H1 f ≠ none) : Same (New H1 H') (Hid [f] (New H0 H')) := fun b o e => by
  obtain ⟨h1, h2⟩ := new_some e
  rw [hid_out (fun z => hf (by rw [← List.mem_singleton.mp z]; exact h1)), new_at (h _ h1)]; exact h2
theorem newf_upd {H0 H : Hp} {f : Addr} (o : HO) : Same (Hid [f] (New H0 H)) (Hid [f] (New H0 (upd H f o))) := fun b u h => by
  obtain ⟨h1, h2⟩ := hid_some h
  obtain ⟨h3, h4⟩ := new_some h2
  rw [hid_out h1, new_at h3, upd_ne (fun z => h1 (by rw [z]; simp))]; exact h4
theorem dom_of {S : List Addr} {H H' : Hp} (e : Same (Hid S H) (Hid S H')) (hS : ∀ a ∈ S, H' a ≠ none) : ∀ a, H' a = none → H a = none := fun a h => hid_free e h (fun z => hS a z h)
end MC
namespace K02
open PySem PySem.Spec L2 MC
open PyProof.Rows hiding St
def spRow (n : Nat) : Sp := fun vs H Q _ => ∃ (d d0 nm pl : Addr) (N l : Nat) (ys : List Str) (a B : Int), vs = [.ref d, .ref nm, .ref pl, .int l] ∧ pl ≠ d0 ∧ Dice H d d0 N ∧ N + rolls l ≤ 10 ^ 11 ∧ l < n ∧ l ≤ 4 ∧
  H nm = some (.lst (ys.map V.str)) ∧ ys ≠ [] ∧ ys.length ≤ 78 ∧ ys.all goodS = true ∧ H pl = some (.lst [.int a, .int B]) ∧ 0 ≤ a ∧ a ≤ 100 ∧ 2 ≤ B ∧ B ≤ 10 ^ 30 ∧
  ∀ p H' ds (a' : Int), Same (Hid [d, d0, pl] H) (Hid [d, d0, pl] H') → Dice H' d d0 (N + rolls l) → H' pl = some (.lst [.int a', .int B]) → 0 ≤ a' → a' ≤ a → (∃ xs, New H H' p = some (.lst xs) ∧ DDs (Hid [p] (New H H')) xs ds) →
    lineL (max B 5) ds = true → oksD ds = true → (wDs ds : Int) ≤ 4 * (a - a') → PyData.depthAll ds ≤ 2 * l → ds.length ≤ 5 → (1 ≤ a → 1 ≤ ds.length) → Q (.ref p) H'
section
variable {P : Program} {w : World} {K : PySem.W.Frag} {mg : Str → Option Value} {base : Heap}
variable {f_l_roll f_l_row : Addr} {fd_l_roll fd_l_row : FuncData}
theorem row_none : FnOk P w K mg base CX0 1 f_l_row fd_l_row ["_law_dice_here", "_law_names_here", "_law_plan", "_law_layers"] (spRow 0) := by
  have no : ∀ vs H Q E, ¬ spRow 0 vs H Q E := fun vs H Q E h => by
    obtain ⟨d, d0, nm, pl, N, l, ys, a, B, _, _, _, _, h0, _⟩ := h
    exact absurd h0 (Nat.not_lt_zero _)
  exact ⟨fun vs H Q E h => absurd h (no vs H Q E), fun A outer s H args us vs Q E _ _ _ _ h => absurd h (no vs H Q E)⟩
theorem row_step {n : Nat} (T : Txt K mg) (G_l_roll : FnOk P w K mg base CX0 1 f_l_roll fd_l_roll ["_law_dice_here", "_law_many_here"] spRoll) (O_l_roll : Own K mg "_law_roll" s_l_roll f_l_roll fd_l_roll ["_law_dice_here", "_law_many_here"]) (O_l_row : Own K mg "_law_row" s_l_row f_l_row fd_l_row ["_law_dice_here", "_law_names_here", "_law_plan", "_law_layers"])
    (G_l_row : FnOk P w K mg base CX0 (n + 1) f_l_row fd_l_row ["_law_dice_here", "_law_names_here", "_law_plan", "_law_layers"] (spRow n)) : FnOk P w K mg base CX0 (n + 1 + 1) f_l_row fd_l_row ["_law_dice_here", "_law_names_here", "_law_plan", "_law_layers"] (spRow (n + 1)) := by
  refine O_l_row.F.ok sc_l_row (fun vs H Q E h => by obtain ⟨d, d0, nm, pl, N, l, ys, a, B, rfl, _⟩ := h; rfl) (fun cdv A outer s H vs Q E hr h => ?_)
  obtain ⟨d, d0, nm, pl, N, l, ys, a, B, rfl, npd0, hD, hN, ln, l4, hnm, hne, hyl, hys, hpl, a0, a1, B2, B3, q⟩ := h
  have hu1 : (A.deeper (envOfC "_law_row" (defScope s_l_row) s.heap.objs.size f_l_row cdv)).units < cLine := by have := hr.un; omega
  refine ⟨_, (pss_cons (ps_set (i := 4) sc_l_row.nd rfl (Or.inl rfl) (pe_lst pa_nil))
    (pss_cons (ps_for PassesOwn.never rfl (pi_range1 (by rfl) T.n_range (pa_cons (pe_op op_add pe_int (pe_call G_l_roll (hr.mono (by omega)) rfl O_l_roll.m O_l_roll.F.kp O_l_roll.b .nil pass0 (pa_cons (pv 0) (pa_cons pe_int pa_nil)))) pa_nil)) (pg_name (i := 5) sc_l_row.nd rfl (Or.inl rfl))
    (pss_cons (ps_set (i := 6) sc_l_row.nd rfl (Or.inl rfl) (pe_ix (k_ix_list (K := K) rfl) (pv 1) (pe_call G_l_roll (hr.mono (by omega)) rfl O_l_roll.m O_l_roll.F.kp O_l_roll.b .nil pass0 (pa_cons (pv 0) (pa_cons (pe_callB (k_len_seq (K := K) rfl) (by rfl) T.n_len (by decide +kernel) (pa_cons (pv 1) pa_nil)) pa_nil))) (fun _ _ => rfl)))
    (pss_cons (ps_set (i := 7) sc_l_row.nd rfl (Or.inl rfl) (pe_and (pe_cmpR op_gt (pv 3) pe_int (nomark _)) (pe_one (pe_cmpR op_eq (pe_call G_l_roll (hr.mono (by omega)) rfl O_l_roll.m O_l_roll.F.kp O_l_roll.b .nil pass0 (pa_cons (pv 0) (pa_cons pe_int pa_nil))) pe_int (nomark _)))))
    (pss_one (ps_if (PW.pt (pw_and (pt_cmpR op_gt (pe_ix (k_ix_list (K := K) rfl) (pv 2) pe_int (fun _ _ => rfl)) pe_int (nomark _)) (pw_and1 (pt_val (pv 7)))))
    (pss_cons (ps_asg (pe_op op_sub (pe_ix (k_ix_list (K := K) rfl) (pv 2) pe_int (fun _ _ => rfl)) pe_int) (pg_sub (pv 2) pe_int set_list))
    (pss_cons (ps_set (i := 8) sc_l_row.nd rfl (Or.inl rfl) (pe_call G_l_row (hr.mono (by omega)) rfl O_l_row.m O_l_row.F.kp O_l_row.b .nil pass0 (pa_cons (pv 0) (pa_cons (pv 1) (pa_cons (pv 2) (pa_cons (pe_op op_sub (pv 3) pe_int) pa_nil))))))
    (pss_cons (ps_set (i := 9) sc_l_row.nd rfl (Or.inl rfl) (pe_ix (k_ix_list (K := K) rfl) (pe_lst (pa_cons pe_int (pa_cons pe_int (pa_cons (pe_op op_add pe_int (pe_call G_l_roll (hr.mono (by omega)) rfl O_l_roll.m O_l_roll.F.kp O_l_roll.b .nil pass0 (pa_cons (pv 0) (pa_cons pe_int pa_nil)))) (pa_cons (pe_op op_add pe_int (pe_call G_l_roll (hr.mono (by omega)) rfl O_l_roll.m O_l_roll.F.kp O_l_roll.b .nil pass0 (pa_cons (pv 0) (pa_cons (pe_ix (k_ix_list (K := K) rfl) (pv 2) pe_int (fun _ _ => rfl)) pa_nil)))) pa_nil))))) (pe_call G_l_roll (hr.mono (by omega)) rfl O_l_roll.m O_l_roll.F.kp O_l_roll.b .nil pass0 (pa_cons (pv 0) (pa_cons pe_int pa_nil))) (fun _ _ => rfl)))
    (pss_one (ps_expr (k_bm (K := K) rfl (pe_bm PySem.F.plainAttrs_list PySem.F.slot_list_append PySem.F.type_list_append mt_append (pv 4) (pa_cons (pe_tup (pa_cons (pe_ifExp (pt_cmpR (k_neNil (K := K) rfl hu1) (pv 8) (pe_lst pa_nil) (nomark _)) (pv 8) (pe_lst (pa_cons (pv 6) pa_nil))) (pa_cons (pv 9) pa_nil))) pa_nil))))))))
    (pss_one (ps_if (pt_cmpR op_gt (pe_ix (k_ix_list (K := K) rfl) (pv 2) pe_int (fun _ _ => rfl)) pe_int (nomark _))
    (pss_cons (ps_asg (pe_op op_sub (pe_ix (k_ix_list (K := K) rfl) (pv 2) pe_int (fun _ _ => rfl)) pe_int) (pg_sub (pv 2) pe_int set_list))
    (pss_one (ps_expr (k_bm (K := K) rfl (pe_bm PySem.F.plainAttrs_list PySem.F.slot_list_append PySem.F.type_list_append mt_append (pv 4) (pa_cons (pv 6) pa_nil))))))
    pss_nil)))))))
    (pss_one (ps_ret (pv 4))))), ?_⟩
  obtain ⟨nd, nd0, ndd⟩ := hD.at
  have npd : pl ≠ d := fun z => by
    obtain ⟨gs, m, k, h1, _⟩ := hD
    rw [← z, hpl] at h1; cases h1
  have hS : ∀ x ∈ [d, d0, pl], H x ≠ none := by
    intro x hx
    simp only [List.mem_cons, List.not_mem_nil, or_false] at hx
    rcases hx with rfl | rfl | rfl
    · exact nd
    · exact nd0
    · rw [hpl]; exact fun z => nomatch z
  obtain ⟨y0, yr, rfl⟩ := List.exists_cons_of_ne_nil hne
  have nnd : nm ≠ d := fun z => by
    obtain ⟨gs, m, k, h1, _⟩ := hD
    rw [← z, hnm] at h1; cases h1
  have nnd0 : nm ≠ d0 := fun z => by
    obtain ⟨gs, m, k, _, h1, _⟩ := hD
    rw [← z, hnm] at h1
    injection h1 with h1
    injection h1 with h1
    cases gs <;> cases h1
  have nnp : nm ≠ pl := fun z => by rw [← z, hnm] at hpl; cases hpl
  have nmS : nm ∉ [d, d0, pl] := by simp [nnd, nnd0, nnp]
  generalize hys' : y0 :: yr = ys at hnm hne hyl hys
  have yl1 : 1 ≤ ys.length := by rw [← hys']; simp
  -- found = []
  refine ⟨Nat.zero_le _, fun f hf => ?_⟩
  have fd : f ≠ d := fun z => nd (z ▸ hf)
  have fd0 : f ≠ d0 := fun z => nd0 (z ▸ hf)
  have fp : f ≠ pl := fun z => by rw [← z, hf] at hpl; cases hpl
  have fS : f ∉ [d, d0, pl] := by simp [fd, fd0, fp]
  have s0 := same_new hf (.lst [])
  have ef : upd H f (.lst []) f = some (.lst []) := upd_same
  have hD0 := hD.same s0
  generalize upd H f (.lst []) = H0 at s0 ef hD0
  refine ⟨_, rfl, d, d0, N, 5, rfl, hD0, by omega, by omega, by omega, fun r H1 r0 r5 c1 d1 => ⟨_, _, rfl, rfl, _, rfl, by omega, by omega, ?_⟩⟩
  have t1 : Same (Hid [d, d0, pl] H) (Hid [d, d0, pl] H1) := (Same.hid s0).trans (c1.hid (by simp) (by simp))
  refine for_range (lo := 0) (n := (1 + r).toNat) (fun i σ H' => ∃ (xs : List V) (ds : List PyData) (a' : Int) (s5 s6 s7 s8 s9 : Option V), σ = [some (.ref d), some (.ref nm), some (.ref pl), some (.int l), some (.ref f), s5, s6, s7, s8, s9] ∧
      Same (Hid [d, d0, pl] H) (Hid [d, d0, pl] H') ∧ H' f = some (.lst xs) ∧ DDs (Hid [f] (New H H')) xs ds ∧ lineL (max B 5) ds = true ∧ oksD ds = true ∧ H' pl = some (.lst [.int a', .int B]) ∧ 0 ≤ a' ∧ a' ≤ a ∧
      (wDs ds : Int) ≤ 4 * (a - a') ∧ PyData.depthAll ds ≤ 2 * l ∧ (ds.length ≤ i ∧ (ds.length = 0 → a' = a) ∧ (1 ≤ i → 1 ≤ a → 1 ≤ ds.length)) ∧ Dice H' d d0 (N + 1 + i * cost l))
    ⟨[], [], a, _, _, _, _, _, rfl, t1, c1 _ _ fd fd0 ef, .nil, rfl, rfl, ?_, a0, Int.le_refl _, ?_, Nat.zero_le _, ⟨Nat.le_refl _, fun _ => rfl, fun z => absurd z (by decide)⟩, ?_⟩ ?_ ?_
  · exact c1 _ _ npd npd0 (s0 _ _ hpl)
  · show ((0 : Nat) : Int) ≤ _; omega
  · simpa using d1
  · rintro i σ H2 hi ⟨xs, ds, a', s5, s6, s7, s8, s9, rfl, t2, hf2, hds, hln, hok, hp2, a2, a3, hw, hdp, ⟨hlen, hl0, hl1⟩, hD2⟩
    have i5 : i < 5 := by omega
    have ci : i * cost l ≤ 4 * cost l := Nat.mul_le_mul_right _ (by omega)
    have cl : cost l ≤ 10 ^ 6 := by
      have : l = 0 ∨ l = 1 ∨ l = 2 ∨ l = 3 ∨ l = 4 := by omega
      rcases this with rfl | rfl | rfl | rfl | rfl <;> decide
    have cc := cost_ok l
    have e1 : (i + 1) * cost l = i * cost l + cost l := Nat.succ_mul _ _
    have c2 : 2 ≤ cost l := by
      cases l with
      | zero => decide
      | succ m => show 2 ≤ 5 + rolls m; omega
    have nm2 : H2 nm = some (.lst (ys.map V.str)) := by
      have q := t2 nm _ (by rw [hid_out nmS]; exact hnm)
      rw [hid_out nmS] at q; exact q
    -- name
    refine ⟨_, rfl, _, rfl, _, rfl, _, _, rfl, .inl (SqL.of nm2), d, d0, _, _, rfl, hD2, by omega, by rw [List.length_map]; omega, by rw [List.length_map]; omega, fun r1 H3 r10 r11 c3 d3 => ?_⟩
    rw [List.length_map] at r11
    have rl : r1.toNat < ys.length := by omega
    refine ⟨_, _, _, .str ys[r1.toNat], rfl, rfl, SqL.of (c3 _ _ nnd nnd0 nm2), ?_, ?_⟩
    · have := atI_nat (xs := ys.map V.str) (j := r1.toNat) (v := .str ys[r1.toNat]) (by simp [rl])
      rwa [show ((r1.toNat : Nat) : Int) = r1 by omega] at this
    have hname : goodS ys[r1.toNat] = true := List.all_eq_true.mp hys _ (List.getElem_mem rl)
    generalize ys[r1.toNat] = y at hname
    have t3 := t2.trans (c3.hid (by simp) (by simp))
    have hf3 := c3 _ _ fd fd0 hf2
    have hds3 := hds.mono (Same.hid (new_step hS (c3.hid (S := [d, d0, pl]) (by simp) (by simp))))
    have hp3 := c3 _ _ npd npd0 hp2
    -- again
    refine ⟨_, rfl, _, _, rfl, rfl, _, rfl, ?_⟩
    refine ite2 (fun k1 => ?_) (fun k1 => ?_)
    · obtain ⟨m, rfl⟩ : ∃ m, l = m + 1 := ⟨l - 1, by have : (0 : Int) < l := by simpa using k1
                                                     omega⟩
      have cm : cost (m + 1) = 5 + rolls m := rfl
      refine ⟨_, rfl, d, d0, _, 3, rfl, d3, by omega, by omega, by omega, fun r2 H4 r20 r21 c4 d4 => ⟨rfl, ?_⟩⟩
      have t4 := t3.trans (c4.hid (by simp) (by simp))
      have hf4 := c4 _ _ fd fd0 hf3
      have hds4 := hds3.mono (Same.hid (new_step hS (c4.hid (S := [d, d0, pl]) (by simp) (by simp))))
      have hp4 := c4 _ _ npd npd0 hp3
      have nm4 := c4 _ _ nnd nnd0 (c3 _ _ nnd nnd0 nm2)
      refine ⟨_, rfl, _, _, _, _, rfl, rfl, SqL.of hp4, atI_nat (j := 0) rfl, _, _, rfl, rfl, _, rfl, ?_⟩
      refine ite2 (fun k2 => ?_) (fun k2 => ?_)
      · have ap : 0 < a' := by simpa using k2
        refine ⟨_, rfl, _, rfl, ?_⟩
        refine ite2 (fun k3 => ?_) (fun k3 => ?_)
        · -- an again
          have u1 : Same (Hid [d, d0, pl] H4) (Hid [d, d0, pl] (upd H4 pl (.lst ([V.int a', V.int B].set 0 (.int (a' - 1)))))) := hid_upd (Same.refl _) (by simp) _
          refine ⟨_, rfl, _, _, _, _, rfl, rfl, SqL.of hp4, atI_nat (j := 0) rfl, _, _, rfl, rfl, _, rfl, _, _, _, 0, rfl, rfl, hp4, rfl, ?_⟩
          have hf5 : upd H4 pl (.lst ([V.int a', V.int B].set 0 (.int (a' - 1)))) f = some (.lst xs) := by rw [upd_ne fp]; exact hf4
          have nm5 : upd H4 pl (.lst ([V.int a', V.int B].set 0 (.int (a' - 1)))) nm = some (.lst (ys.map V.str)) := by rw [upd_ne nnp]; exact nm4
          have hp5 : upd H4 pl (.lst ([V.int a', V.int B].set 0 (.int (a' - 1)))) pl = some (.lst [.int (a' - 1), .int B]) := upd_same
          have d5 := d4.upd (o := .lst ([V.int a', V.int B].set 0 (.int (a' - 1)))) npd npd0
          have hds5 := hds4.mono (Same.hid (new_step hS u1))
          have t5 := t4.trans u1
          generalize upd H4 pl (.lst ([V.int a', V.int B].set 0 (.int (a' - 1)))) = H5 at hf5 nm5 hp5 d5 hds5 t5
          -- the row within
          refine ⟨_, rfl, _, rfl, _, rfl, _, rfl, _, _, rfl, rfl, d, d0, nm, pl, _, m, ys, a' - 1, B, ?_, npd0, d5, by omega, by omega, by omega, nm5, hne, hyl, hys, hp5, by omega, by omega, B2, B3,
            fun pi H6 di a6 c6 d6 hp6 a60 a61 hdi0 lni oki wi dpi leni nei => ?_⟩
          · show [V.ref d, V.ref nm, V.ref pl, V.int (((m + 1 : Nat) : Int) - 1)] = _
            rw [show ((m + 1 : Nat) : Int) - 1 = (m : Int) by omega]
          obtain ⟨xi0, hpi0, hxi0⟩ := hdi0
          have hdi : DD (New H5 H6) (.ref pi) (.list di) := .lst hpi0 (hxi0.mono hid_same)
          have t6 := t5.trans c6
          have hS5 : ∀ x ∈ [d, d0, pl], H5 x ≠ none := by
            intro x hx
            simp only [List.mem_cons, List.not_mem_nil, or_false] at hx
            rcases hx with rfl | rfl | rfl
            · exact d5.at.1
            · exact d5.at.2.1
            · rw [hp5]; exact fun z => nomatch z
          have cS : ∀ {z : Addr} {o : HO}, z ∉ [d, d0, pl] → H5 z = some o → H6 z = some o := fun {z o} hz h => by
            have q := c6 z o (by rw [hid_out hz]; exact h)
            rw [hid_out hz] at q; exact q
          have hf6 := cS fS hf5
          have hds6 := hds5.mono (Same.hid (new_step hS c6))
          have inn : DD (Hid [f] (New H H6)) (.ref pi) (.list di) := hdi.mono (newf_dom (dom_of t5 hS5) (by rw [hf5]; exact fun z => nomatch z))
          -- times
          refine ⟨_, rfl, d, d0, _, 4, rfl, d6, by omega, by omega, by omega, fun r4 H7 r40 r41 c7 d7 => ⟨_, _, rfl, rfl, ?_⟩⟩
          have hp7 := c7 _ _ npd npd0 hp6
          refine ⟨_, rfl, _, rfl, _, _, _, _, rfl, rfl, SqL.of hp7, atI_nat (j := 1) rfl, d, d0, _, B, rfl, d7, by omega, by omega, by omega, fun r5 H8 r50 r51 c8 d8 => ⟨_, _, rfl, rfl, (by show 4 ≤ sizeLine; decide), fun tl htl => ?_⟩⟩
          have sl := same_new htl (.lst [V.int 1, V.int 2, V.int (2 + r4), V.int (1 + r5)])
          refine ⟨_, rfl, d, d0, _, 4, rfl, d8.same sl, by omega, by omega, by omega, fun r6 H9 r60 r61 c9 d9 => ?_⟩
          have nd8 := d8.at
          have etl := c9 tl _ (fun z => nd8.1 (z ▸ htl)) (fun z => nd8.2.1 (z ▸ htl)) upd_same
          obtain ⟨tt, htt, tt1, tt2⟩ : ∃ tt : Int, atI [V.int 1, V.int 2, V.int (2 + r4), V.int (1 + r5)] r6 = some (.int tt) ∧ 1 ≤ tt ∧ tt ≤ max B 5 := by
            have : r6 = 0 ∨ r6 = 1 ∨ r6 = 2 ∨ r6 = 3 := by omega
            rcases this with rfl | rfl | rfl | rfl
            · exact ⟨1, rfl, by omega, by omega⟩
            · exact ⟨2, rfl, by omega, by omega⟩
            · exact ⟨2 + r4, rfl, by omega, by omega⟩
            · exact ⟨1 + r5, rfl, by omega, by omega⟩
          refine ⟨_, _, _, _, rfl, rfl, SqL.of etl, htt, ?_⟩
          have cc : Same (Hid [d, d0, pl] H6) (Hid [d, d0, pl] H9) := ((c7.hid (by simp) (by simp)).trans (c8.hid (by simp) (by simp))).trans ((Same.hid sl).trans (c9.hid (by simp) (by simp)))
          have t9 := t6.trans cc
          have hf9 := c9 _ _ fd fd0 (sl _ _ (c8 _ _ fd fd0 (c7 _ _ fd fd0 hf6)))
          have hp9 := c9 _ _ npd npd0 (sl _ _ (c8 _ _ npd npd0 hp7))
          have hds9 := hds6.mono (Same.hid (new_step hS cc))
          have inn9 := inn.mono (Same.hid (new_step hS cc))
          have okt : okD (.int tt) = true := by simp only [okD, decide_eq_true_eq]; omega
          -- found.append((.., times))
          refine ⟨_, rfl, .inl ⟨rfl, _, SqL.of hf9⟩, ?_⟩
          cases inn9 with
          | @lst ai xi _ hai hxi =>
          have hai9 := (new_some (hid_some hai).2).2
          refine ⟨_, rfl, Nat.zero_le _, fun e he => ⟨_, _, _, rfl, rfl, SqL.of (same_new he _ _ _ hai9), upd_same, _, rfl, ?_⟩⟩
          have se := same_new he (.lst [])
          -- what is said over: its row, as data
          refine ite2 (fun k5 => ?_) (fun k5 => ?_)
          · refine ⟨_, rfl, _, rfl, (by show 2 ≤ sizeLine; decide), fun tp htp => ?_⟩
            have st := se.trans (same_new htp (.tup [.ref pi, .int tt]))
            have hfq : upd (upd H9 e (.lst [])) tp (.tup [.ref pi, .int tt]) f = some (.lst xs) := st _ _ hf9
            refine ⟨_, _, _, rfl, rfl, hfq, ?_, ?_⟩
            · rw [hds.length]; exact Nat.lt_of_le_of_lt (show _ ≤ 100 by omega) (by decide)
            have ntp0 : H tp = none := hid_free (t9.trans (Same.hid se)) htp (fun z => by
              have := (d9.same se).at
              simp only [List.mem_cons, List.not_mem_nil, or_false] at z
              rcases z with rfl | rfl | rfl
              · exact this.1 htp
              · exact this.2.1 htp
              · rw [se _ _ hp9] at htp; cases htp)
            have ntf : tp ≠ f := fun z => by rw [z, se _ _ hf9] at htp; cases htp
            have nb : ∀ o, Hid [f] (New H (upd (upd (upd H9 e (.lst [])) tp (.tup [.ref pi, .int tt])) f o)) tp = some (.tup [.ref pi, .int tt]) := fun o => by
              rw [hid_out (by simpa using ntf), new_at ntp0, upd_ne ntf, upd_same]
            have mv : ∀ o, Same (Hid [f] (New H H9)) (Hid [f] (New H (upd (upd (upd H9 e (.lst [])) tp (.tup [.ref pi, .int tt])) f o))) := fun o => (Same.hid (new_of st)).trans (newf_upd _)
            have nem : di.isEmpty = false := by
              have l1 := hxi.length
              cases di with
              | nil => simp [List.length_eq_zero_iff.mp l1] at k5
              | cons _ _ => rfl
            refine ⟨xs ++ [.ref tp], ds ++ [.tuple [.list di, .int tt]], a6, _, _, _, _, _, rfl, hid_new (t9.trans (Same.hid st)) (hid_none hf) _, upd_same, ?_, ?_, ?_, ?_, by omega, by omega, ?_, ?_, ?_, ?_⟩
            · exact (hds9.mono (mv _)).append (.cons (.tup (nb _) (.cons (.lst (mv _ _ _ hai) (hxi.mono (mv _))) (.cons (.int tt) .nil))) .nil)
            · rw [lineL_append, hln]
              have h1 : decide (1 ≤ tt) = true := decide_eq_true tt1
              have h2 : decide (tt ≤ max B 5) = true := decide_eq_true tt2
              simp [lineL, lineP, h1, h2, nem, lni]
            · rw [oksD_append, hok]; simp [oksD, okD] at okt ⊢; exact ⟨oki, okt⟩
            · rw [upd_ne fp.symm]; exact st _ _ hp9
            · rw [wDs_append]; simp only [wDs, wD]; omega
            · rw [depthAll_append]; simp only [PyData.depthAll, PyData.depth]; omega
            · exact ⟨by simp; omega, fun z => by simp at z, fun _ _ => by simp⟩
            · have := rolls_ge m
              exact ((d9.same st).upd fd fd0).mono (by omega)
          · refine ⟨_, rfl, (by show 1 ≤ sizeLine; decide), fun w1 hw1 => ⟨_, rfl, (by show 2 ≤ sizeLine; decide), fun tp htp => ?_⟩⟩
            have sw := se.trans (same_new hw1 (.lst [.str y]))
            have st := sw.trans (same_new htp (.tup [.ref w1, .int tt]))
            have hfq : upd (upd (upd H9 e (.lst [])) w1 (.lst [.str y])) tp (.tup [.ref w1, .int tt]) f = some (.lst xs) := st _ _ hf9
            refine ⟨_, _, _, rfl, rfl, hfq, ?_, ?_⟩
            · rw [hds.length]; exact Nat.lt_of_le_of_lt (show _ ≤ 100 by omega) (by decide)
            have free : ∀ {H' : Hp} {z : Addr}, Same H9 H' → H' z = none → H z = none ∧ z ≠ f := fun {H' z} hs hz => by
              refine ⟨hid_free (t9.trans (Same.hid hs)) hz (fun u => ?_), fun u => by rw [u, hs _ _ hf9] at hz; cases hz⟩
              have := (d9.same hs).at
              simp only [List.mem_cons, List.not_mem_nil, or_false] at u
              rcases u with rfl | rfl | rfl
              · exact this.1 hz
              · exact this.2.1 hz
              · rw [hs _ _ hp9] at hz; cases hz
            obtain ⟨nw0, nwf⟩ := free se hw1
            obtain ⟨ntp0, ntf⟩ := free sw htp
            have nwt : w1 ≠ tp := ne_of_none upd_same htp
            have nb : ∀ o, Hid [f] (New H (upd (upd (upd (upd H9 e (.lst [])) w1 (.lst [.str y])) tp (.tup [.ref w1, .int tt])) f o)) tp = some (.tup [.ref w1, .int tt]) := fun o => by
              rw [hid_out (by simpa using ntf), new_at ntp0, upd_ne ntf, upd_same]
            have nb2 : ∀ o, Hid [f] (New H (upd (upd (upd (upd H9 e (.lst [])) w1 (.lst [.str y])) tp (.tup [.ref w1, .int tt])) f o)) w1 = some (.lst [.str y]) := fun o => by
              rw [hid_out (by simpa using nwf), new_at nw0, upd_ne nwf, upd_ne nwt, upd_same]
            have mv : ∀ o, Same (Hid [f] (New H H9)) (Hid [f] (New H (upd (upd (upd (upd H9 e (.lst [])) w1 (.lst [.str y])) tp (.tup [.ref w1, .int tt])) f o))) := fun o => (Same.hid (new_of st)).trans (newf_upd _)
            have sok := okS (goodS_is hname)
            refine ⟨xs ++ [.ref tp], ds ++ [.tuple [.list [.str y], .int tt]], a6, _, _, _, _, _, rfl, hid_new (t9.trans (Same.hid st)) (hid_none hf) _, upd_same, ?_, ?_, ?_, ?_, by omega, by omega, ?_, ?_, ?_, ?_⟩
            · exact (hds9.mono (mv _)).append (.cons (.tup (nb _) (.cons (.lst (nb2 _) (.cons (.str y) .nil)) (.cons (.int tt) .nil))) .nil)
            · rw [lineL_append, hln]
              have h1 : decide (1 ≤ tt) = true := decide_eq_true tt1
              have h2 : decide (tt ≤ max B 5) = true := decide_eq_true tt2
              simp [lineL, lineP, h1, h2, hname]
            · rw [oksD_append, hok]; simp [oksD, okD] at okt sok ⊢; exact ⟨sok, okt⟩
            · rw [upd_ne fp.symm]; exact st _ _ hp9
            · rw [wDs_append]; simp only [wDs, wD]; omega
            · rw [depthAll_append]; simp only [PyData.depthAll, PyData.depth]; omega
            · exact ⟨by simp; omega, fun z => by simp at z, fun _ _ => by simp⟩
            · have := rolls_ge m
              exact ((d9.same st).upd fd fd0).mono (by omega)
        · refine ⟨_, rfl, _, _, _, _, rfl, rfl, SqL.of hp4, atI_nat (j := 0) rfl, _, _, rfl, rfl, _, rfl, ?_⟩
          refine ite2 (fun k4 => ?_) (fun k4 => absurd k2 k4)
          refine ⟨_, rfl, _, _, _, _, rfl, rfl, SqL.of hp4, atI_nat (j := 0) rfl, _, _, rfl, rfl, _, rfl, _, _, _, 0, rfl, rfl, hp4, rfl, ?_⟩
          have w4 : upd H4 pl (.lst ([V.int a', V.int B].set 0 (.int (a' - 1)))) f = some (.lst xs) := by rw [upd_ne fp]; exact hf4
          refine ⟨_, rfl, .inl ⟨rfl, _, SqL.of w4⟩, _, rfl, _, _, _, rfl, rfl, w4, ?_, ?_⟩
          · rw [hds.length]; exact Nat.lt_of_le_of_lt (show _ ≤ 100 by omega) (by decide)
          have u1 : Same (Hid [d, d0, pl] H4) (Hid [d, d0, pl] (upd H4 pl (.lst ([V.int a', V.int B].set 0 (.int (a' - 1)))))) := hid_upd (Same.refl _) (by simp) _
          have sok := okS (goodS_is hname)
          refine ⟨xs ++ [.str y], ds ++ [.str y], a' - 1, _, _, _, _, _, rfl, hid_new (t4.trans u1) (hid_none hf) _, upd_same, ?_, ?_, ?_, ?_, by omega, by omega, ?_, ?_, ?_, ?_⟩
          · exact ((hds4.mono (Same.hid (new_step hS u1))).mono (newf_upd _)).append (.cons (.str y) .nil)
          · rw [lineL_append, hln]; simp [lineL, lineP, hname]
          · rw [oksD_append, hok]; simp [oksD, sok]
          · rw [upd_ne fp.symm, upd_same]; rfl
          · rw [wDs_append]; simp only [wDs, wD]; omega
          · rw [depthAll_append]; simp only [PyData.depthAll, PyData.depth]; omega
          · exact ⟨by simp; omega, fun z => by simp at z, fun _ _ => by simp⟩
          · exact ((d4.upd npd npd0).upd fd fd0).mono (by omega)
      · refine ⟨_, rfl, _, _, _, _, rfl, rfl, SqL.of hp4, atI_nat (j := 0) rfl, _, _, rfl, rfl, _, rfl, ?_⟩
        refine ite2 (fun k4 => absurd k4 k2) (fun k4 => ?_)
        exact ⟨xs, ds, a', _, _, _, _, _, rfl, t4, hf4, hds4, hln, hok, hp4, a2, a3, hw, hdp, ⟨by omega, hl0, fun _ ha => by
          have : ¬ 0 < a' := by simpa using k2
          omega⟩, d4.mono (by omega)⟩
    · have d4 := d3
      have t4 := t3
      have hf4 := hf3
      have hds4 := hds3
      have hp4 := hp3
      clear d3 t3 hf3 hds3 hp3
      revert d4 t4 hf4 hds4 hp4
      generalize H3 = H4
      intro d4 t4 hf4 hds4 hp4
      refine ⟨_, rfl, _, _, _, _, rfl, rfl, SqL.of hp4, atI_nat (j := 0) rfl, _, _, rfl, rfl, _, rfl, ?_⟩
      refine ite2 (fun k2 => ?_) (fun k2 => ?_)
      · have ap : 0 < a' := by simpa using k2
        refine ⟨_, rfl, _, rfl, ?_⟩
        refine ⟨_, rfl, _, _, _, _, rfl, rfl, SqL.of hp4, atI_nat (j := 0) rfl, _, _, rfl, rfl, _, rfl, ?_⟩
        refine ite2 (fun k4 => ?_) (fun k4 => absurd k2 k4)
        refine ⟨_, rfl, _, _, _, _, rfl, rfl, SqL.of hp4, atI_nat (j := 0) rfl, _, _, rfl, rfl, _, rfl, _, _, _, 0, rfl, rfl, hp4, rfl, ?_⟩
        have w4 : upd H4 pl (.lst ([V.int a', V.int B].set 0 (.int (a' - 1)))) f = some (.lst xs) := by rw [upd_ne fp]; exact hf4
        refine ⟨_, rfl, .inl ⟨rfl, _, SqL.of w4⟩, _, rfl, _, _, _, rfl, rfl, w4, ?_, ?_⟩
        · rw [hds.length]; exact Nat.lt_of_le_of_lt (show _ ≤ 100 by omega) (by decide)
        have u1 : Same (Hid [d, d0, pl] H4) (Hid [d, d0, pl] (upd H4 pl (.lst ([V.int a', V.int B].set 0 (.int (a' - 1)))))) := hid_upd (Same.refl _) (by simp) _
        have sok := okS (goodS_is hname)
        refine ⟨xs ++ [.str y], ds ++ [.str y], a' - 1, _, _, _, _, _, rfl, hid_new (t4.trans u1) (hid_none hf) _, upd_same, ?_, ?_, ?_, ?_, by omega, by omega, ?_, ?_, ?_, ?_⟩
        · exact ((hds4.mono (Same.hid (new_step hS u1))).mono (newf_upd _)).append (.cons (.str y) .nil)
        · rw [lineL_append, hln]; simp [lineL, lineP, hname]
        · rw [oksD_append, hok]; simp [oksD, sok]
        · rw [upd_ne fp.symm, upd_same]; rfl
        · rw [wDs_append]; simp only [wDs, wD]; omega
        · rw [depthAll_append]; simp only [PyData.depthAll, PyData.depth]; omega
        · exact ⟨by simp; omega, fun z => by simp at z, fun _ _ => by simp⟩
        · exact ((d4.upd npd npd0).upd fd fd0).mono (by omega)
      · refine ⟨_, rfl, _, _, _, _, rfl, rfl, SqL.of hp4, atI_nat (j := 0) rfl, _, _, rfl, rfl, _, rfl, ?_⟩
        refine ite2 (fun k4 => absurd k4 k2) (fun k4 => ?_)
        exact ⟨xs, ds, a', _, _, _, _, _, rfl, t4, hf4, hds4, hln, hok, hp4, a2, a3, hw, hdp, ⟨by omega, hl0, fun _ ha => by
          have : ¬ 0 < a' := by simpa using k2
          omega⟩, d4.mono (by omega)⟩
  · rintro σ H2 ⟨xs, ds, a', s5, s6, s7, s8, s9, rfl, t2, hf2, hds, hln, hok, hp2, a2, a3, hw, hdp, ⟨hlen, hl0, hl1⟩, hD2⟩
    have cc := cost_ok l
    have ci : (1 + r).toNat * cost l ≤ 5 * cost l := Nat.mul_le_mul_right _ (by omega)
    refine ⟨_, rfl, q f H2 ds a' t2 (hD2.mono (by omega)) hp2 a2 a3 ⟨xs, by rw [new_at hf]; exact hf2, hds⟩ hln hok hw hdp (by omega) (fun ha => hl1 (by omega) ha)⟩
end
end K02

set_option Elab.async false
set_option linter.all false
set_option maxRecDepth 100000
set_option maxHeartbeats 4000000
namespace MC
open PySem PySem.Spec L2
mutual
/-- rows in lists alone -/
def undR : PyData → PyData
  | .list xs => .list (undPs xs)
  | .tuple xs => .list (undPs xs)
  | d => d
def undP : PyData → PyData
  | .tuple [r, t] => .tuple [undR r, t]
  | d => d
def undPs : List PyData → List PyData
  | [] => []
  | x :: xs => undP x :: undPs xs
end
theorem undPs_append (xs ys : List PyData) : undPs (xs ++ ys) = undPs xs ++ undPs ys := by
  induction xs with
  | nil => rfl
  | cons x xs ih => simp only [List.cons_append, undPs, ih]
theorem undPs_len (xs : List PyData) : (undPs xs).length = xs.length := by
  induction xs with
  | nil => rfl
  | cons x xs ih => simp only [List.length_cons, undPs, ih]
mutual
theorem undR_facts : ∀ d : PyData, okD (undR d) = okD d ∧ wD (undR d) = wD d ∧ (undR d).depth = d.depth
  | .none => ⟨rfl, rfl, rfl⟩
  | .bool _ => ⟨rfl, rfl, rfl⟩
  | .int _ => ⟨rfl, rfl, rfl⟩
  | .str _ => ⟨rfl, rfl, rfl⟩
  | .dict _ => ⟨rfl, rfl, rfl⟩
  | .list xs => by
    obtain ⟨h1, h2, h3⟩ := undPs_facts xs
    refine ⟨?_, ?_, ?_⟩
    · simp only [undR, okD, h1]
    · simp only [undR, wD, h2]
    · simp only [undR, PyData.depth, h3]
  | .tuple xs => by
    obtain ⟨h1, h2, h3⟩ := undPs_facts xs
    refine ⟨?_, ?_, ?_⟩
    · simp only [undR, okD, h1]
    · simp only [undR, wD, h2]
    · simp only [undR, PyData.depth, h3]
theorem undP_facts : ∀ d : PyData, okD (undP d) = okD d ∧ wD (undP d) = wD d ∧ (undP d).depth = d.depth
  | .none => ⟨rfl, rfl, rfl⟩
  | .bool _ => ⟨rfl, rfl, rfl⟩
  | .int _ => ⟨rfl, rfl, rfl⟩
  | .str _ => ⟨rfl, rfl, rfl⟩
  | .dict _ => ⟨rfl, rfl, rfl⟩
  | .list xs => ⟨rfl, rfl, rfl⟩
  | .tuple [] => ⟨rfl, rfl, rfl⟩
  | .tuple [_] => ⟨rfl, rfl, rfl⟩
  | .tuple [r, t] => by
    obtain ⟨h1, h2, h3⟩ := undR_facts r
    refine ⟨?_, ?_, ?_⟩
    · simp only [undP, okD, oksD, h1]
    · simp only [undP, wD, wDs, h2]
    · simp only [undP, PyData.depth, PyData.depthAll, h3]
  | .tuple (_ :: _ :: _ :: _) => ⟨rfl, rfl, rfl⟩
theorem undPs_facts : ∀ xs : List PyData, oksD (undPs xs) = oksD xs ∧ wDs (undPs xs) = wDs xs ∧ PyData.depthAll (undPs xs) = PyData.depthAll xs
  | [] => ⟨rfl, rfl, rfl⟩
  | x :: xs => by
    obtain ⟨h1, h2, h3⟩ := undP_facts x
    obtain ⟨k1, k2, k3⟩ := undPs_facts xs
    refine ⟨?_, ?_, ?_⟩
    · simp only [undPs, oksD, h1, k1]
    · simp only [undPs, wDs, h2, k2]
    · simp only [undPs, PyData.depthAll, h3, k3]
end
theorem lineL_get {B : Int} {xs : List PyData} (h : lineL B xs = true) {i : Nat} {d : PyData} (e : xs[i]? = some d) : lineP B d = true := by
  induction xs generalizing i with
  | nil => simp at e
  | cons x xs ih =>
    simp only [lineL, Bool.and_eq_true] at h
    cases i with
    | zero => simp at e; subst e; exact h.1
    | succ i => exact ih h.2 (by simpa using e)
/-- the two kinds of a part -/
theorem lineP_kinds {B : Int} {d : PyData} (h : lineP B d = true) : (∃ z, d = .str z ∧ isThingS z = true) ∨ ∃ ys t, d = .tuple [.list ys, .int t] ∧ 1 ≤ t ∧ t ≤ B ∧ ys ≠ [] ∧ lineL B ys = true := by
  unfold lineP at h
  split at h
  · exact .inl ⟨_, rfl, goodS_is h⟩
  · rename_i ys t
    simp only [Bool.and_eq_true, decide_eq_true_eq] at h
    refine .inr ⟨ys, t, rfl, h.1.1.1, h.1.1.2, ?_, h.2⟩
    rintro rfl
    simp at h
  · cases h
end MC
namespace K02
open PySem PySem.Spec L2 MC
open PyProof.Rows hiding St
def spDress (n : Nat) : Sp := fun vs H Q _ => ∃ (d d0 a : Addr) (N : Nat) (B : Int) (xs : List V) (ds : List PyData), vs = [.ref d, .ref a] ∧ Dice H d d0 N ∧ N + wDs ds + 1 ≤ 10 ^ 12 ∧ a ≠ d ∧ a ≠ d0 ∧ H a = some (.lst xs) ∧ DDs (Hid [d, d0] H) xs ds ∧
  lineL B ds = true ∧ PyData.depthAll ds + 2 ≤ 2 * n ∧ oksD ds = true ∧ wDs ds ≤ 2000 ∧
  ∀ p H' dd, Chg d d0 H H' → Dice H' d d0 (N + wDs ds + 1) → DD (New H H') (.ref p) dd → dSeq dd = true → undR dd = .list ds → Q (.ref p) H'
section
variable {P : Program} {w : World} {K : PySem.W.Frag} {mg : Str → Option Value} {base : Heap}
variable {f_l_roll f_l_dressed : Addr} {fd_l_roll fd_l_dressed : FuncData}
theorem dress_none : FnOk P w K mg base CX0 1 f_l_dressed fd_l_dressed ["_law_dice_here", "_law_line"] (spDress 0) := by
  have no : ∀ vs H Q E, ¬ spDress 0 vs H Q E := fun vs H Q E h => by
    obtain ⟨d, d0, a, N, B, xs, ds, _, _, _, _, _, _, _, _, h0, _⟩ := h
    omega
  exact ⟨fun vs H Q E h => absurd h (no vs H Q E), fun A outer s H args us vs Q E _ _ _ _ h => absurd h (no vs H Q E)⟩
theorem dress_step {n : Nat} (T : Txt K mg) (G_l_roll : FnOk P w K mg base CX0 1 f_l_roll fd_l_roll ["_law_dice_here", "_law_many_here"] spRoll) (O_l_roll : Own K mg "_law_roll" s_l_roll f_l_roll fd_l_roll ["_law_dice_here", "_law_many_here"]) (O_l_dressed : Own K mg "_law_dressed" s_l_dressed f_l_dressed fd_l_dressed ["_law_dice_here", "_law_line"])
    (G_l_dressed : FnOk P w K mg base CX0 (n + 1) f_l_dressed fd_l_dressed ["_law_dice_here", "_law_line"] (spDress n)) : FnOk P w K mg base CX0 (n + 1 + 1) f_l_dressed fd_l_dressed ["_law_dice_here", "_law_line"] (spDress (n + 1)) := by
  refine O_l_dressed.F.ok sc_l_dressed (fun vs H Q E h => by obtain ⟨d, d0, a, N, B, xs, ds, rfl, _⟩ := h; rfl) (fun cdv A outer s H vs Q E hr h => ?_)
  obtain ⟨d, d0, a, N, B, xs, ds, rfl, hD, hN, nad, nad0, ha, hds, hln, hdp, hok, hw, q⟩ := h
  refine ⟨_, (pss_cons (ps_set (i := 2) sc_l_dressed.nd rfl (Or.inl rfl) (pe_lst pa_nil))
    (pss_cons (ps_for PassesOwn.never rfl (k_list (K := K) rfl (pv 1)) (pg_name (i := 3) sc_l_dressed.nd rfl (Or.inl rfl))
    (pss_one (ps_expr (k_bm (K := K) rfl (pe_bm PySem.F.plainAttrs_list PySem.F.slot_list_append PySem.F.type_list_append mt_append (pv 2) (pa_cons (pe_ifExp (pt_val (pe_callB (k_isi (K := K) rfl) (by rfl) T.n_isinstance (by decide +kernel) (pa_cons (pv 3) (pa_cons (pe_bltn (v := .ty "str") (by rfl) T.n_str (by decide +kernel) rfl) pa_nil)))) (pv 3) (pe_tup (pa_cons (pe_call G_l_dressed (hr.mono (by omega)) rfl O_l_dressed.m O_l_dressed.F.kp O_l_dressed.b .nil pass0 (pa_cons (pv 0) (pa_cons (pe_ix (k_ix_tup (K := K) rfl) (pv 3) pe_int (fun _ _ => rfl)) pa_nil))) (pa_cons (pe_ix (k_ix_tup (K := K) rfl) (pv 3) pe_int (fun _ _ => rfl)) pa_nil)))) pa_nil))))))
    (pss_one (ps_ret (pe_ifExp (pt_cmpR op_eq (pe_call G_l_roll (hr.mono (by omega)) rfl O_l_roll.m O_l_roll.F.kp O_l_roll.b .nil pass0 (pa_cons (pv 0) (pa_cons pe_int pa_nil))) pe_int (nomark _)) (pe_callTy (k_tuple_of (K := K) rfl) (by rfl) T.n_tuple (by decide +kernel) (pa_cons (pv 2) pa_nil)) (pv 2)))))), ?_⟩
  obtain ⟨nd, nd0, ndd⟩ := hD.at
  have hS : ∀ x ∈ [d, d0], H x ≠ none := by
    intro x hx
    simp only [List.mem_cons, List.not_mem_nil, or_false] at hx
    rcases hx with rfl | rfl
    · exact nd
    · exact nd0
  refine ⟨Nat.zero_le _, fun f hf => ?_⟩
  have fd : f ≠ d := fun z => nd (z ▸ hf)
  have fd0 : f ≠ d0 := fun z => nd0 (z ▸ hf)
  have s0 := same_new hf (.lst [])
  refine ⟨_, rfl, a, rfl, ⟨_, SqL.of (s0 _ _ ha)⟩, ?_⟩
  refine for_list (K := K) (a := a) (xs := xs) (fun i σ H' => ∃ (fs : List V) (dd : List PyData) (s3 : Option V), σ = [some (.ref d), some (.ref a), some (.ref f), s3] ∧ Chg d d0 H H' ∧ H' f = some (.lst fs) ∧ DDs (Hid [f] (New H H')) fs dd ∧
    undPs dd = ds.take i ∧ Dice H' d d0 (N + wDs (ds.take i))) ⟨[], [], _, rfl, Chg.of s0, upd_same, .nil, rfl, hD.same s0⟩ (fun i σ H' _ z => ?_) ?_ ?_
  · obtain ⟨fs, dd, s3, _, c, _⟩ := z
    exact SqL.of (c _ _ nad nad0 ha)
  · rintro i x σ H1 hi ⟨fs, dd, s3, rfl, c1, hf1, hdd, und, hD1⟩
    obtain ⟨dp, hdp1, hx⟩ := hds.get hi
    have tk : ds.take (i + 1) = ds.take i ++ [dp] := take_more hdp1
    have wtk : wDs (ds.take (i + 1)) = wDs (ds.take i) + wD dp := by rw [tk, wDs_append]; simp [wDs]
    have wle : wDs (ds.take (i + 1)) ≤ wDs ds := by
      have e := wDs_append (ds.take (i + 1)) (ds.drop (i + 1))
      rw [List.take_append_drop] at e
      omega
    have wpos := wD_pos dp
    have flen : fs.length ≤ 2000 := by
      have h1 := hdd.length
      have h2 := undPs_len dd
      rw [und, List.length_take] at h2
      have h3 := len_wDs ds
      omega
    have hx1 := hx.mono (c1.hid (S := [d, d0]) (by simp) (by simp))
    have dle := depth_le hdp1
    refine ⟨_, rfl, .inl ⟨rfl, _, SqL.of hf1⟩, _, rfl, _, _, _, _, _, rfl, .ty _, ty_of (hx1.mono hid_same), kI_str, _, rfl, ?_⟩
    rcases lineP_kinds (lineL_get hln hdp1) with ⟨z, rfl, hz⟩ | ⟨ys, t, rfl, t1, t2, hne, hl2⟩
    · -- a thing
      cases hx with
      | str z =>
      refine ite2 (fun _ => ?_) (fun c => absurd rfl c)
      refine ⟨_, rfl, _, _, _, rfl, rfl, hf1, Nat.lt_of_le_of_lt flen (by decide), ?_⟩
      refine ⟨fs ++ [.str z], dd ++ [.str z], _, rfl, c1.updn hf _, upd_same, (hdd.mono (newf_upd _)).append (.cons (.str z) .nil), ?_, (hD1.upd fd fd0).mono (by omega)⟩
      rw [undPs_append, und, tk]; rfl
    · -- an again
      refine ite2 (fun c => (nomatch c)) (fun _ => ?_)
      cases hx1 with
      | @tup pt vs2 _ hpt hvs =>
      cases hvs with
      | @cons v1 vr _ _ hv1 hr1 =>
      cases hr1 with
      | cons hv2 hnil =>
      cases hnil
      cases hv2
      cases hv1 with
      | @lst ai xi _ hai hxi =>
      obtain ⟨ptS, hpt1⟩ := hid_some hpt
      obtain ⟨aiS, hai1⟩ := hid_some hai
      simp only [List.mem_cons, List.not_mem_nil, or_false, not_or] at aiS ptS
      have oky : oksD ys = true := by
        have := oksD_get hok hdp1
        simp only [okD, oksD, Bool.and_eq_true] at this; exact this.1
      have wy : wD (PyData.tuple [.list ys, .int t]) = wDs ys + 3 := by simp only [wD, wDs]; omega
      have dy : (PyData.tuple [.list ys, .int t]).depth = PyData.depthAll ys + 2 := by simp only [PyData.depth, PyData.depthAll]; omega
      refine ⟨_, rfl, _, rfl, _, _, _, _, rfl, rfl, SqT.of hpt1, atI_nat (j := 0) rfl, d, d0, ai, _, B, xi, ys, rfl, hD1, by omega, aiS.1, aiS.2, hai1, hxi, hl2, by omega, oky, by omega,
        fun p H2 dr c2 hD2 hdr ksq hun => ?_⟩
      have c12 := c1.trans c2
      have hf2 := c2 _ _ fd fd0 hf1
      refine ⟨_, rfl, _, _, _, _, rfl, rfl, SqT.of (c2 _ _ ptS.1 ptS.2 hpt1), atI_nat (j := 1) rfl, (by show 2 ≤ sizeLine; decide), fun tp htp => ?_⟩
      have st := same_new htp (.tup [.ref p, .int t])
      refine ⟨_, _, _, rfl, rfl, st _ _ hf2, Nat.lt_of_le_of_lt flen (by decide), ?_⟩
      have dm : ∀ x, H1 x = none → H x = none := dom_of (c1.hid (S := [d, d0]) (by simp) (by simp)) (fun x hx => by
        simp only [List.mem_cons, List.not_mem_nil, or_false] at hx
        rcases hx with rfl | rfl
        · exact hD1.at.1
        · exact hD1.at.2.1)
      have dm2 : ∀ x, H2 x = none → H x = none := dom_of (c12.hid (S := [d, d0]) (by simp) (by simp)) (fun x hx => by
        simp only [List.mem_cons, List.not_mem_nil, or_false] at hx
        rcases hx with rfl | rfl
        · exact hD2.at.1
        · exact hD2.at.2.1)
      have ntf : tp ≠ f := fun z => by rw [z, hf2] at htp; cases htp
      have nb : ∀ o, Hid [f] (New H (upd (upd H2 tp (.tup [.ref p, .int t])) f o)) tp = some (.tup [.ref p, .int t]) := fun o => by
        rw [hid_out (by simpa using ntf), new_at (dm2 _ htp), upd_ne ntf, upd_same]
      have mv : ∀ o, Same (Hid [f] (New H H2)) (Hid [f] (New H (upd (upd H2 tp (.tup [.ref p, .int t])) f o))) := fun o => (Same.hid (new_of st)).trans (newf_upd _)
      have inn := (hdr.mono (newf_dom dm (by rw [hf1]; exact fun z => nomatch z))).mono (mv (.lst (fs ++ [.ref tp])))
      refine ⟨fs ++ [.ref tp], dd ++ [.tuple [dr, .int t]], _, rfl, (c12.same st).updn hf _, upd_same, ?_, ?_, ((hD2.same st).upd fd fd0).mono (by omega)⟩
      · exact ((hdd.mono (Same.hid (new_step hS (c2.hid (S := [d, d0]) (by simp) (by simp))))).mono (mv _)).append (.cons (.tup (nb _) (.cons inn (.cons (.int t) .nil))) .nil)
      · rw [undPs_append, und, tk]
        simp only [undPs, undP, hun]
  · rintro σ H1 ⟨fs, dd, s3, rfl, c1, hf1, hdd, und, hD1⟩
    have full : ds.take xs.length = ds := List.take_of_length_le (by rw [hds.length]; exact Nat.le_refl _)
    rw [full] at und hD1
    refine ⟨_, rfl, d, d0, _, 2, rfl, hD1, by omega, by omega, by omega, fun r H2 r0 r1 c2 hD2 => ⟨rfl, _, rfl, ?_⟩⟩
    have c12 := c1.trans c2
    have hf2 := c2 _ _ fd fd0 hf1
    have hdd2 := hdd.mono (Same.hid (new_step hS (c2.hid (S := [d, d0]) (by simp) (by simp))))
    refine ite2 (fun _ => ?_) (fun _ => ?_)
    · refine ⟨_, rfl, f, _, rfl, .inl ⟨SqL.of hf2, fun tp htp => ?_⟩⟩
      have st := same_new htp (.tup fs)
      have dm2 : ∀ x, H2 x = none → H x = none := dom_of (c12.hid (S := [d, d0]) (by simp) (by simp)) (fun x hx => by
        simp only [List.mem_cons, List.not_mem_nil, or_false] at hx
        rcases hx with rfl | rfl
        · exact hD2.at.1
        · exact hD2.at.2.1)
      exact q tp _ (.tuple dd) (c12.same st) (hD2.same st) (.tup (by rw [new_at (dm2 _ htp)]; exact upd_same) ((hdd2.mono hid_same).mono (new_of st))) rfl (by simp only [undR, und])
    · exact ⟨_, rfl, q f _ (.list dd) c12 hD2 (.lst (by rw [new_at hf]; exact hf2) (hdd2.mono hid_same)) rfl (by simp only [undR, und])⟩
end
end K02

set_option Elab.async false
set_option linter.all false
set_option maxRecDepth 100000
set_option maxHeartbeats 4000000
namespace MC
open PySem PySem.Spec L2
/-! rows in lists, dressed rows -/
theorem lineP_cases {B : Int} {d : PyData} (h : lineP B d = true) : (∃ z, d = .str z ∧ isThingS z = true) ∨ ∃ ys t, d = .tuple [.list ys, .int t] ∧ 1 ≤ t ∧ t ≤ B ∧ ys ≠ [] ∧ lineL B ys = true := by
  unfold lineP at h
  split at h
  · exact .inl ⟨_, rfl, goodS_is h⟩
  · rename_i ys t
    simp only [Bool.and_eq_true, decide_eq_true_eq, Bool.not_eq_true', List.isEmpty_eq_false_iff] at h
    exact .inr ⟨ys, t, rfl, h.1.1.1, h.1.1.2, h.1.2, h.2⟩
  · cases h
theorem lineL_parts {B : Int} (hB : B ≤ 10 ^ 30) : ∀ (n : Nat) (ds : List PyData), wDs ds ≤ n → lineL B ds = true → partsD ds = true := by
  intro n
  induction n with
  | zero =>
    intro ds hn h
    cases ds with
    | nil => rfl
    | cons x xs => have := wD_pos x; simp only [wDs] at hn; omega
  | succ n ih =>
    intro ds
    induction ds with
    | nil => intro _ _; rfl
    | cons x xs ihx =>
      intro hn h
      simp only [lineL, Bool.and_eq_true] at h
      have px := wD_pos x
      simp only [wDs] at hn
      simp only [partsD, Bool.and_eq_true]
      refine ⟨?_, ihx (by omega) h.2⟩
      rcases lineP_cases h.1 with ⟨z, rfl, hz⟩ | ⟨ys, t, rfl, t1, t2, hne, hl⟩
      · exact hz
      · have hp := ih ys (by simp only [wD, wDs] at hn; omega) hl
        have h1 : timesOk t = true := by simp [timesOk, t1]; exact Int.le_trans t2 hB
        have h2 : dNil (.list ys) = false := by cases ys with
          | nil => exact absurd rfl hne
          | cons _ _ => rfl
        show (timesOk t && !dNil (.list ys) && rowD (.list ys)) = true
        rw [h1, h2, show rowD (.list ys) = partsD ys from rfl, hp]
        rfl
end MC
namespace K02
open PySem PySem.Spec L2 MC
open PyProof.Rows hiding St
def spCnt (m : Nat) (ok : PyData → Bool) (g : PyData → Int) : Sp := fun vs H Q _ => ∃ x d, vs = [x] ∧ DD H x d ∧ ok d = true ∧ d.depth < m ∧ d.depth ≤ 60 ∧ wD d ≤ 2000 ∧ ∀ H', Same H H' → Q (.int (g d)) H'
theorem spCnt_len {m : Nat} {ok : PyData → Bool} {g : PyData → Int} : ∀ vs H Q E, spCnt m ok g vs H Q E → vs.length = 1 := fun vs H Q E h => by
  obtain ⟨x, d, rfl, _⟩ := h
  rfl
theorem spCnt_no {ok : PyData → Bool} {g : PyData → Int} : ∀ vs H Q E, ¬ spCnt 0 ok g vs H Q E := fun vs H Q E h => by
  obtain ⟨x, d, _, _, _, h0, _⟩ := h
  exact absurd h0 (Nat.not_lt_zero _)
theorem bits30 {t : Int} (h1 : 1 ≤ t) (h2 : t ≤ 10 ^ 30) : t.natAbs < 2 ^ 200 := Nat.lt_of_le_of_lt (show t.natAbs ≤ 10 ^ 30 by omega) (by decide)
/-- a look that refuses nothing here -/
def spChk : Sp := fun vs H Q _ => ∃ x d, vs = [x] ∧ DD H x d ∧ okD d = true ∧ d.depth ≤ 60 ∧ wD d ≤ 2000 ∧ rowD d = true ∧ ∀ H', Same H H' → Q .non H'
section
variable {P : Program} {w : World} {K : PySem.W.Frag} {mg : Str → Option Value} {base : Heap}
variable {f_is_row f_check_row : Addr} {fd_is_row fd_check_row : FuncData}
theorem ok_check_row (T : Txt K mg) (O_is_row : Own K mg "is_row" s_is_row f_is_row fd_is_row ["thing"]) (O_check_row : Own K mg "check_row" s_check_row f_check_row fd_check_row ["row"]) (G_is_row : FnOk P w K mg base CX0 3 f_is_row fd_is_row ["thing"] (spD rowD)) : FnOk P w K mg base CX0 4 f_check_row fd_check_row ["row"] spChk := by
  refine O_check_row.F.ok sc_check_row (fun vs H Q E h => by obtain ⟨x, d, rfl, _⟩ := h; rfl) (fun cdv A outer s H vs Q E hr h => ?_)
  obtain ⟨x, d, rfl, hd, hok, hdp, hwd, hrow, q⟩ := h
  refine ⟨_, (pss_one (ps_if (pt_not (pt_val (pe_call G_is_row (hr.mono (by omega)) rfl O_is_row.m O_is_row.F.kp O_is_row.b .nil pass0 (pa_cons (pv 0) pa_nil))))
    pss_never
    pss_nil)), ?_⟩
  refine ⟨_, rfl, x, d, rfl, hd, hok, hdp, hwd, fun H' s' => ⟨_, rfl, ?_⟩⟩
  rw [hrow]
  exact q H' s'
end
end K02

set_option Elab.async false
set_option linter.all false
set_option maxRecDepth 100000
set_option maxHeartbeats 4000000
namespace MC
open PySem PySem.Spec L2
theorem SqX.keep {H H' : Hp} {a : Addr} {xs : List V} (h : SqX H a xs) (e : Same H H') : H' a = H a := by
  rcases h with h | h
  · exact (e _ _ h).trans h.symm
  · exact (e _ _ h).trans h.symm
/-- the item at a place, of a list or a tuple -/
theorem rd_ix {K : PySem.W.Frag} {H : Hp} {b : Addr} {xs : List V} {i : Nat} {v : V} (hx : SqX H b xs) (h : xs[i]? = some v) {R : VK} (q : R v H) : rIx K (.ref b) (.int (i : Nat)) H R := by
  have at' := atI_nat h
  rcases hx with hx | hx
  · exact .inl ⟨_, _, _, _, rfl, rfl, SqL.of hx, at', q⟩
  · exact .inr (.inl ⟨_, _, _, _, rfl, rfl, SqT.of hx, at', q⟩)
end MC
namespace K02
open PySem PySem.Spec L2 MC
open PyProof.Rows hiding St
def spOut (m : Nat) : Sp := fun vs H Q _ => ∃ x d, vs = [x] ∧ DD H x d ∧ rowD d = true ∧ d.depth < m ∧ d.depth ≤ 60 ∧ wD d ≤ 2000 ∧ manyR d ≤ 4000 ∧ ∀ H' p, Same H H' → H p = none → H' p = some (.lst ((outR d).map V.str)) → Q (.ref p) H'
section
variable {P : Program} {w : World} {K : PySem.W.Frag} {mg : Str → Option Value} {base : Heap}
variable {f_l_many f_l_there f_l_out : Addr} {fd_l_many fd_l_there fd_l_out : FuncData}
theorem many_step {m : Nat} (T : Txt K mg) (O_l_many : Own K mg "_law_many" s_l_many f_l_many fd_l_many ["_law_line"]) (G_l_many : FnOk P w K mg base CX0 (m + 1) f_l_many fd_l_many ["_law_line"] (spCnt m rowD manyR)) :
    FnOk P w K mg base CX0 (m + 1 + 1) f_l_many fd_l_many ["_law_line"] (spCnt (m + 1) rowD manyR) := by
  refine O_l_many.F.ok sc_l_many spCnt_len (fun cdv A outer s H vs Q E hr h => ?_)
  obtain ⟨x, d, rfl, hd, hrow, hdm, hdp, hwd, q⟩ := h
  refine ⟨_, (pss_cons (ps_set (i := 1) sc_l_many.nd rfl (Or.inl rfl) pe_int)
    (pss_cons (ps_for PassesOwn.never rfl (k_seq (K := K) rfl (pv 0)) (pg_name (i := 2) sc_l_many.nd rfl (Or.inl rfl))
    (pss_one (ps_set (i := 1) sc_l_many.nd rfl (Or.inl rfl) (pe_op op_add (pv 1) (pe_ifExp (pt_val (pe_callB (k_isi (K := K) rfl) (by rfl) T.n_isinstance (by decide +kernel) (pa_cons (pv 2) (pa_cons (pe_bltn (v := .ty "str") (by rfl) T.n_str (by decide +kernel) rfl) pa_nil)))) pe_int (pe_op op_mulW (pe_ix (k_ix_tup (K := K) rfl) (pv 2) pe_int (fun _ _ => rfl)) (pe_call G_l_many (hr.mono (by omega)) rfl O_l_many.m O_l_many.F.kp O_l_many.b .nil pass0 (pa_cons (pe_ix (k_ix_tup (K := K) rfl) (pv 2) pe_int (fun _ _ => rfl)) pa_nil))))))))
    (pss_one (ps_ret (pv 1))))), ?_⟩
  have k0 := rowD_is hrow
  rw [rowD_elems k0] at hrow
  obtain ⟨a, xs, rfl, hx, hxs⟩ := hd.seq k0
  have we := wD_elems d
  have de := depth_elems k0
  have ln := hxs.length
  refine ⟨_, rfl, for_seq (xs := xs) hx (fun i σ H' => ∃ (s2 : Option V), σ = [some (.ref a), some (.int (manyPs ((elemsD d).take i))), s2] ∧ Same H H') ⟨_, rfl, Same.refl _⟩ ?_ ?_ ?_⟩
  · rintro i σ' H' hi ⟨s2, _, s1⟩
    exact hx.keep s1
  · rintro i xv σ H2 hi ⟨s2, rfl, s1⟩
    obtain ⟨dv, hdv, hdd⟩ := hxs.get hi
    have wv := wD_le hdv
    have dv1 := depth_le hdv
    have hdd2 := hdd.mono s1
    have pk := partsD_get hrow hdv
    have tk : manyPs ((elemsD d).take (i + 1)) = manyPs ((elemsD d).take i) + manyP dv := by rw [take_more hdv, manyPs_append]; simp [manyPs]
    refine ⟨_, rfl, _, rfl, _, _, _, _, _, rfl, .ty _, ty_of hdd2, kI_str, _, rfl, ?_⟩
    refine ite2 (fun c1 => ?_) (fun c1 => ?_)
    · have e1 : manyP dv = 1 := by cases dv <;> first | rfl | cases c1
      refine ⟨_, _, rfl, rfl, some xv, ?_, s1⟩
      rw [tk, e1]; rfl
    · rcases partD_cases pk with ⟨z, rfl, _⟩ | ⟨r, t, rfl, t1, t2, hn, hrr⟩
      · exact absurd rfl c1
      have dp : r.depth < m ∧ r.depth ≤ 60 := by simp only [PyData.depth, PyData.depthAll] at dv1; omega
      have wp : wD r ≤ 2000 := by simp only [wD, wDs] at wv; omega
      cases hdd2 with
      | @tup ap ys _ hap hys =>
        match ys, hys with
        | [v1, v2], .cons h1 (.cons h2 .nil) =>
          cases h2
          refine ⟨_, rfl, _, _, _, _, rfl, rfl, SqT.of hap, atI_nat (j := 1) rfl, _, rfl, _, _, _, _, rfl, rfl, SqT.of hap, atI_nat (j := 0) rfl, v1, r, rfl, h1, hrr, dp.1, dp.2, wp, fun H3 s3 => ?_⟩
          refine ⟨_, _, rfl, rfl, wide_mul (bits30 t1 t2) (many_bits hrr wp dp.2) (by decide) (by decide) (by decide), _, _, rfl, rfl, some (.ref ap), ?_, s1.trans s3⟩
          rw [tk, show manyP (.tuple [r, .int t]) = manyR r * t from rfl, Int.mul_comm (manyR r) t]
          rfl
  · rintro σ H2 ⟨s2, rfl, s1⟩
    have full : (elemsD d).take xs.length = elemsD d := List.take_of_length_le (by rw [ln]; exact Nat.le_refl _)
    rw [full]
    have q := q H2 s1
    rw [manyR_elems k0] at q
    exact ⟨_, rfl, q⟩
theorem many_all (T : Txt K mg) (O_l_many : Own K mg "_law_many" s_l_many f_l_many fd_l_many ["_law_line"]) : ∀ m, FnOk P w K mg base CX0 (m + 1) f_l_many fd_l_many ["_law_line"] (spCnt m rowD manyR)
  | 0 => ⟨fun vs H Q E h => absurd h (spCnt_no vs H Q E), fun A outer s H args us vs Q E _ _ _ _ h => absurd h (spCnt_no vs H Q E)⟩
  | m + 1 => many_step T O_l_many (many_all T O_l_many m)
theorem out_step {m : Nat} (T : Txt K mg) (O_l_out : Own K mg "_law_out" s_l_out f_l_out fd_l_out ["_law_line"]) (G_l_out : FnOk P w K mg base CX0 (m + 1) f_l_out fd_l_out ["_law_line"] (spOut m)) :
    FnOk P w K mg base CX0 (m + 1 + 1) f_l_out fd_l_out ["_law_line"] (spOut (m + 1)) := by
  refine O_l_out.F.ok sc_l_out (fun vs H Q E h => by obtain ⟨x, d, rfl, _⟩ := h; rfl) (fun cdv A outer s H vs Q E hr h => ?_)
  obtain ⟨x, d, rfl, hd, hrow, hdm, hdp, hwd, hmy, q⟩ := h
  refine ⟨_, (pss_cons (ps_set (i := 1) sc_l_out.nd rfl (Or.inl rfl) (pe_lst pa_nil))
    (pss_cons (ps_for PassesOwn.never rfl (k_seq (K := K) rfl (pv 0)) (pg_name (i := 2) sc_l_out.nd rfl (Or.inl rfl))
    (pss_one (ps_set (i := 1) sc_l_out.nd rfl (Or.inl rfl) (pe_op op_cat (pv 1) (pe_ifExp (pt_val (pe_callB (k_isi (K := K) rfl) (by rfl) T.n_isinstance (by decide +kernel) (pa_cons (pv 2) (pa_cons (pe_bltn (v := .ty "str") (by rfl) T.n_str (by decide +kernel) rfl) pa_nil)))) (pe_lst (pa_cons (pv 2) pa_nil)) (pe_op op_rep (pe_call G_l_out (hr.mono (by omega)) rfl O_l_out.m O_l_out.F.kp O_l_out.b .nil pass0 (pa_cons (pe_ix (k_ix_tup (K := K) rfl) (pv 2) pe_int (fun _ _ => rfl)) pa_nil)) (pe_ix (k_ix_tup (K := K) rfl) (pv 2) pe_int (fun _ _ => rfl))))))))
    (pss_one (ps_ret (pv 1))))), ?_⟩
  have k0 := rowD_is hrow
  rw [rowD_elems k0] at hrow
  rw [manyR_elems k0] at hmy
  obtain ⟨a, xs, rfl, hx, hxs⟩ := hd.seq k0
  have we := wD_elems d
  have de := depth_elems k0
  have ln := hxs.length
  refine ⟨Nat.zero_le _, fun f0 hf0 => ?_⟩
  have s0 := same_new hf0 (.lst [])
  refine ⟨_, rfl, for_seq (xs := xs) (hx.mono s0) (fun i σ H' => ∃ (f : Addr) (s2 : Option V), σ = [some (.ref a), some (.ref f), s2] ∧ Same H H' ∧ H f = none ∧ H' f = some (.lst ((outPs ((elemsD d).take i)).map V.str))) ⟨f0, _, rfl, s0, hf0, upd_same⟩ ?_ ?_ ?_⟩
  · rintro i σ' H' hi ⟨f, s2, _, s1, _⟩
    exact (hx.keep s1).trans (hx.keep s0).symm
  · rintro i xv σ H2 hi ⟨f, s2, rfl, s1, f0, hf⟩
    obtain ⟨dv, hdv, hdd⟩ := hxs.get hi
    have wv := wD_le hdv
    have dv1 := depth_le hdv
    have hdd2 := hdd.mono s1
    have pk := partsD_get hrow hdv
    have my := many_upto hrow hdv
    have mt := (many_take hrow i).1
    have lo := (outPs_get _ (parts_split hrow i).1).1
    have tk : outPs ((elemsD d).take (i + 1)) = outPs ((elemsD d).take i) ++ outP dv := by rw [take_more hdv, outPs_append]; simp [outPs]
    have zz : (10 : Nat) ^ 5 ≤ sizeLine := by decide
    refine ⟨_, rfl, _, rfl, _, _, _, _, _, rfl, .ty _, ty_of hdd2, kI_str, _, rfl, ?_⟩
    refine ite2 (fun c1 => ?_) (fun c1 => ?_)
    · rcases partD_cases pk with ⟨z, rfl, _⟩ | ⟨r, t, rfl, _⟩
      · cases hdd2
        refine ⟨_, rfl, (by show 1 ≤ sizeLine; decide), fun p hp => ?_⟩
        have st := same_new hp (.lst [.str z])
        have m1 : manyP (.str z) = 1 := rfl
        refine ⟨_, _, _, _, rfl, rfl, st _ _ hf, upd_same, ?_, fun g hg => ?_⟩
        · rw [List.length_map]; simp only [List.length_cons, List.length_nil]; omega
        have sg := st.trans (same_new hg (.lst ((outPs ((elemsD d).take i)).map V.str ++ [.str z])))
        refine ⟨g, _, rfl, s1.trans sg, (s1.trans st).free hg, ?_⟩
        rw [upd_same, tk, List.map_append]
        rfl
      · cases c1
    · rcases partD_cases pk with ⟨z, rfl, _⟩ | ⟨r, t, rfl, t1, t2, hn, hrr⟩
      · exact absurd rfl c1
      have dp : r.depth < m ∧ r.depth ≤ 60 := by simp only [PyData.depth, PyData.depthAll] at dv1; omega
      have wp : wD r ≤ 2000 := by simp only [wD, wDs] at wv; omega
      have mb := (manyR_bound r hrr).2.1 hn
      have mp : manyP (.tuple [r, .int t]) = manyR r * t := rfl
      have le1 : manyR r * 1 ≤ manyR r * t := Int.mul_le_mul_of_nonneg_left t1 (by omega)
      have le2 : 1 * t ≤ manyR r * t := Int.mul_le_mul_of_nonneg_right mb (by omega)
      have lr := (outR_get r hrr).1
      have tt : ((t.toNat : Nat) : Int) = t := by omega
      have lrep : (((outR r).length * t.toNat : Nat) : Int) = manyR r * t := by rw [Int.natCast_mul, lr, tt]
      cases hdd2 with
      | @tup ap ys _ hap hys =>
        match ys, hys with
        | [v1, v2], .cons h1 (.cons h2 .nil) =>
          cases h2
          refine ⟨_, rfl, _, _, _, _, rfl, rfl, SqT.of hap, atI_nat (j := 0) rfl, v1, r, rfl, h1, hrr, dp.1, dp.2, wp, by omega, fun H3 p s3 p0 hp => ?_⟩
          refine ⟨_, rfl, _, _, _, _, rfl, rfl, SqT.of (s3 _ _ hap), atI_nat (j := 1) rfl, _, _, _, rfl, rfl, hp, by omega, by omega, ?_, fun g hg => ?_⟩
          · rw [List.length_map]; omega
          have sg := same_new hg (.lst (List.replicate t.toNat ((outR r).map V.str)).flatten)
          refine ⟨_, _, _, _, rfl, rfl, sg _ _ (s3 _ _ hf), upd_same, ?_, fun g2 hg2 => ?_⟩
          · rw [rep_len, List.length_map, List.length_map, Nat.mul_comm]; omega
          have st := s3.trans (sg.trans (same_new hg2 (.lst ((outPs ((elemsD d).take i)).map V.str ++ (List.replicate t.toNat ((outR r).map V.str)).flatten))))
          refine ⟨g2, _, rfl, s1.trans st, (s1.trans (s3.trans sg)).free hg2, ?_⟩
          rw [upd_same, tk, List.map_append, show outP (.tuple [r, .int t]) = (List.replicate t.toNat (outR r)).flatten from rfl, List.map_flatten, List.map_replicate]
  · rintro σ H2 ⟨f, s2, rfl, s1, f0, hf⟩
    have full : (elemsD d).take xs.length = elemsD d := List.take_of_length_le (by rw [ln]; exact Nat.le_refl _)
    rw [full, ← outR_elems k0] at hf
    exact ⟨_, rfl, q H2 f s1 f0 hf⟩
theorem out_all (T : Txt K mg) (O_l_out : Own K mg "_law_out" s_l_out f_l_out fd_l_out ["_law_line"]) : ∀ m, FnOk P w K mg base CX0 (m + 1) f_l_out fd_l_out ["_law_line"] (spOut m)
  | 0 => by
    have no : ∀ vs H Q E, ¬ spOut 0 vs H Q E := fun vs H Q E h => by
      obtain ⟨x, d, _, _, _, h0, _⟩ := h
      exact absurd h0 (Nat.not_lt_zero _)
    exact ⟨fun vs H Q E h => absurd h (no vs H Q E), fun A outer s H args us vs Q E _ _ _ _ h => absurd h (no vs H Q E)⟩
  | m + 1 => out_step T O_l_out (out_all T O_l_out m)
end
end K02

set_option Elab.async false
set_option linter.all false
set_option maxRecDepth 100000
set_option maxHeartbeats 4000000
set_option exponentiation.threshold 20000
namespace MC
open PySem PySem.Spec L2
def cntR (d : PyData) (z : Str) : Int := ((outR d).count z : Nat)
def cntP (d : PyData) (z : Str) : Int := ((outP d).count z : Nat)
def cntPs (xs : List PyData) (z : Str) : Int := ((outPs xs).count z : Nat)
theorem cntR_elems {d : PyData} (k : dSeq d = true) (z : Str) : cntR d z = cntPs (elemsD d) z := by unfold cntR cntPs; rw [outR_elems k]
theorem cntPs_more {xs : List PyData} {i : Nat} {d : PyData} (h : xs[i]? = some d) (z : Str) : cntPs (xs.take (i + 1)) z = cntPs (xs.take i) z + cntP d z := by
  unfold cntPs cntP
  rw [take_more h, outPs_append, List.count_append]
  simp [outPs]
theorem cntP_tup {r : PyData} {t : Int} (h : 1 ≤ t) (z : Str) : cntP (.tuple [r, .int t]) z = cntR r z * t := by
  unfold cntP cntR
  rw [show outP (.tuple [r, .int t]) = (List.replicate t.toNat (outR r)).flatten from rfl, rep_count, Int.natCast_mul, show ((t.toNat : Nat) : Int) = t by omega, Int.mul_comm]
theorem cntP_str (x z : Str) : cntP (.str x) z = if x = z then 1 else 0 := by
  unfold cntP
  rw [show outP (.str x) = [x] from rfl, List.count_singleton]
  by_cases e : x = z <;> simp [e]
theorem cntR_le {d : PyData} (h : rowD d = true) (z : Str) : 0 ≤ cntR d z ∧ cntR d z ≤ manyR d := by
  have h1 := (outR_get d h).1
  have h2 := List.count_le_length (a := z) (l := outR d)
  unfold cntR
  omega
theorem cnt_bits {d : PyData} (h : rowD d = true) (hw : wD d ≤ 2000) (hd : d.depth ≤ 60) (z : Str) : (cntR d z).natAbs < 2 ^ 6100 := by
  have h1 := cntR_le h z
  have h2 := many_bits h hw hd
  omega
end MC
namespace K02
open PySem PySem.Spec L2 MC
open PyProof.Rows hiding St
def spOf (m : Nat) (ok : PyData → Bool) (g : PyData → Str → Int) : Sp := fun vs H Q _ => ∃ x d z, vs = [x, .str z] ∧ DD H x d ∧ ok d = true ∧ d.depth < m ∧ d.depth ≤ 60 ∧ wD d ≤ 2000 ∧ ∀ H', Same H H' → Q (.int (g d z)) H'
theorem spOf_len {m : Nat} {ok : PyData → Bool} {g : PyData → Str → Int} : ∀ vs H Q E, spOf m ok g vs H Q E → vs.length = 2 := fun vs H Q E h => by
  obtain ⟨x, d, z, rfl, _⟩ := h
  rfl
theorem spOf_no {ok : PyData → Bool} {g : PyData → Str → Int} : ∀ vs H Q E, ¬ spOf 0 ok g vs H Q E := fun vs H Q E h => by
  obtain ⟨x, d, z, _, _, _, h0, _⟩ := h
  exact absurd h0 (Nat.not_lt_zero _)
section
variable {P : Program} {w : World} {K : PySem.W.Frag} {mg : Str → Option Value} {base : Heap}
variable {f_often_in f_part_often f_l_counted : Addr} {fd_often_in fd_part_often fd_l_counted : FuncData}
theorem counted_step {m : Nat} (T : Txt K mg) (O_l_counted : Own K mg "_law_counted" s_l_counted f_l_counted fd_l_counted ["_law_line", "_law_name"]) (G_l_counted : FnOk P w K mg base CX0 (m + 1) f_l_counted fd_l_counted ["_law_line", "_law_name"] (spOf m rowD cntR)) :
    FnOk P w K mg base CX0 (m + 1 + 1) f_l_counted fd_l_counted ["_law_line", "_law_name"] (spOf (m + 1) rowD cntR) := by
  refine O_l_counted.F.ok sc_l_counted spOf_len (fun cdv A outer s H vs Q E hr h => ?_)
  obtain ⟨x, d, z, rfl, hd, hrow, hdm, hdp, hwd, q⟩ := h
  refine ⟨_, (pss_cons (ps_set (i := 2) sc_l_counted.nd rfl (Or.inl rfl) pe_int)
    (pss_cons (ps_for PassesOwn.never rfl (k_seq (K := K) rfl (pv 0)) (pg_name (i := 3) sc_l_counted.nd rfl (Or.inl rfl))
    (pss_one (ps_if (pt_val (pe_callB (k_isi (K := K) rfl) (by rfl) T.n_isinstance (by decide +kernel) (pa_cons (pv 3) (pa_cons (pe_bltn (v := .ty "str") (by rfl) T.n_str (by decide +kernel) rfl) pa_nil))))
    (pss_one (ps_set (i := 2) sc_l_counted.nd rfl (Or.inl rfl) (pe_op op_add (pv 2) (pe_callTy call_int1 (by rfl) T.n_int (by decide +kernel) (pa_cons (pe_cmpR op_eq (pv 3) (pv 1) (nomark _)) pa_nil)))))
    (pss_one (ps_set (i := 2) sc_l_counted.nd rfl (Or.inl rfl) (pe_op op_add (pv 2) (pe_op op_mulW (pe_ix (k_ix_tup (K := K) rfl) (pv 3) pe_int (fun _ _ => rfl)) (pe_call G_l_counted (hr.mono (by omega)) rfl O_l_counted.m O_l_counted.F.kp O_l_counted.b .nil pass0 (pa_cons (pe_ix (k_ix_tup (K := K) rfl) (pv 3) pe_int (fun _ _ => rfl)) (pa_cons (pv 1) pa_nil))))))))))
    (pss_one (ps_ret (pv 2))))), ?_⟩
  have k0 := rowD_is hrow
  rw [rowD_elems k0] at hrow
  obtain ⟨a, xs, rfl, hx, hxs⟩ := hd.seq k0
  have we := wD_elems d
  have de := depth_elems k0
  have ln := hxs.length
  refine ⟨_, rfl, for_seq (xs := xs) hx (fun i σ H' => ∃ (s3 : Option V), σ = [some (.ref a), some (.str z), some (.int (cntPs ((elemsD d).take i) z)), s3] ∧ Same H H') ⟨_, rfl, Same.refl _⟩ ?_ ?_ ?_⟩
  · rintro i σ' H' hi ⟨s3, _, s1⟩
    exact hx.keep s1
  · rintro i xv σ H2 hi ⟨s3, rfl, s1⟩
    obtain ⟨dv, hdv, hdd⟩ := hxs.get hi
    have wv := wD_le hdv
    have dv1 := depth_le hdv
    have hdd2 := hdd.mono s1
    have pk := partsD_get hrow hdv
    refine ⟨_, rfl, _, _, _, _, _, rfl, .ty _, ty_of hdd2, kI_str, _, rfl, ?_⟩
    refine ite2 (fun c1 => ?_) (fun c1 => ?_)
    · rcases partD_cases pk with ⟨y, rfl, _⟩ | ⟨r, t, rfl, _⟩
      · cases hdd2
        refine ⟨_, rfl, _, rfl, _, rfl, rfl, .inr ⟨_, rfl, _, _, rfl, rfl, some (.str y), ?_, s1⟩⟩
        rw [cntPs_more hdv, cntP_str]
        by_cases e : y = z
        · subst e; simp
        · simp [e]
      · cases c1
    · rcases partD_cases pk with ⟨y, rfl, _⟩ | ⟨r, t, rfl, t1, t2, hn, hrr⟩
      · exact absurd rfl c1
      have dp : r.depth < m ∧ r.depth ≤ 60 := by simp only [PyData.depth, PyData.depthAll] at dv1; omega
      have wp : wD r ≤ 2000 := by simp only [wD, wDs] at wv; omega
      cases hdd2 with
      | @tup ap ys _ hap hys =>
        match ys, hys with
        | [v1, v2], .cons h1 (.cons h2 .nil) =>
          cases h2
          refine ⟨_, rfl, _, rfl, _, _, _, _, rfl, rfl, SqT.of hap, atI_nat (j := 1) rfl, _, rfl, _, _, _, _, rfl, rfl, SqT.of hap, atI_nat (j := 0) rfl, _, rfl, v1, r, z, rfl, h1, hrr, dp.1, dp.2, wp, fun H3 s3 => ?_⟩
          refine ⟨_, _, rfl, rfl, wide_mul (bits30 t1 t2) (cnt_bits hrr wp dp.2 z) (by decide) (by decide) (by decide), _, _, rfl, rfl, some (.ref ap), ?_, s1.trans s3⟩
          rw [cntPs_more hdv, cntP_tup t1, Int.mul_comm]
          rfl
  · rintro σ H2 ⟨s3, rfl, s1⟩
    have full : (elemsD d).take xs.length = elemsD d := List.take_of_length_le (by rw [ln]; exact Nat.le_refl _)
    rw [full]
    have q := q H2 s1
    rw [cntR_elems k0] at q
    exact ⟨_, rfl, q⟩
theorem counted_all (T : Txt K mg) (O_l_counted : Own K mg "_law_counted" s_l_counted f_l_counted fd_l_counted ["_law_line", "_law_name"]) : ∀ m, FnOk P w K mg base CX0 (m + 1) f_l_counted fd_l_counted ["_law_line", "_law_name"] (spOf m rowD cntR)
  | 0 => ⟨fun vs H Q E h => absurd h (spOf_no vs H Q E), fun A outer s H args us vs Q E _ _ _ _ h => absurd h (spOf_no vs H Q E)⟩
  | m + 1 => counted_step T O_l_counted (counted_all T O_l_counted m)
end
end K02

set_option Elab.async false
set_option linter.all false
set_option maxRecDepth 100000
set_option maxHeartbeats 4000000
namespace MC
open PySem PySem.Spec L2
mutual
theorem undR_asks : ∀ d : PyData, rowD (undR d) = rowD d ∧ dNil (undR d) = dNil d ∧ manyR (undR d) = manyR d ∧ ∀ p, atR (undR d) p = atR d p
  | .none => ⟨rfl, rfl, rfl, fun _ => rfl⟩
  | .bool _ => ⟨rfl, rfl, rfl, fun _ => rfl⟩
  | .int _ => ⟨rfl, rfl, rfl, fun _ => rfl⟩
  | .str _ => ⟨rfl, rfl, rfl, fun _ => rfl⟩
  | .dict _ => ⟨rfl, rfl, rfl, fun _ => rfl⟩
  | .list xs => by
    obtain ⟨h1, h2, h3⟩ := undPs_asks xs
    exact ⟨h1, by cases xs <;> rfl, h2, h3⟩
  | .tuple xs => by
    obtain ⟨h1, h2, h3⟩ := undPs_asks xs
    exact ⟨h1, by cases xs <;> rfl, h2, h3⟩
theorem undP_asks : ∀ d : PyData, partD (undP d) = partD d ∧ manyP (undP d) = manyP d ∧ ∀ p, atP (undP d) p = atP d p
  | .none => ⟨rfl, rfl, fun _ => rfl⟩
  | .bool _ => ⟨rfl, rfl, fun _ => rfl⟩
  | .int _ => ⟨rfl, rfl, fun _ => rfl⟩
  | .str _ => ⟨rfl, rfl, fun _ => rfl⟩
  | .dict _ => ⟨rfl, rfl, fun _ => rfl⟩
  | .list xs => ⟨rfl, rfl, fun _ => rfl⟩
  | .tuple [] => ⟨rfl, rfl, fun _ => rfl⟩
  | .tuple [_] => ⟨rfl, rfl, fun _ => rfl⟩
  | .tuple [r, .int t] => by
    obtain ⟨h1, h2, h3, h4⟩ := undR_asks r
    refine ⟨?_, ?_, fun p => ?_⟩
    · show (timesOk t && !dNil (undR r) && rowD (undR r)) = (timesOk t && !dNil r && rowD r)
      rw [h1, h2]
    · show manyR (undR r) * t = manyR r * t
      rw [h3]
    · show atR (undR r) (p % manyR (undR r)) = atR r (p % manyR r)
      rw [h3, h4]
  | .tuple [r, .none] => ⟨rfl, rfl, fun _ => rfl⟩
  | .tuple [r, .bool _] => ⟨rfl, rfl, fun _ => rfl⟩
  | .tuple [r, .str _] => ⟨rfl, rfl, fun _ => rfl⟩
  | .tuple [r, .list _] => ⟨rfl, rfl, fun _ => rfl⟩
  | .tuple [r, .tuple _] => ⟨rfl, rfl, fun _ => rfl⟩
  | .tuple [r, .dict _] => ⟨rfl, rfl, fun _ => rfl⟩
  | .tuple (_ :: _ :: _ :: _) => ⟨rfl, rfl, fun _ => rfl⟩
theorem undPs_asks : ∀ xs : List PyData, partsD (undPs xs) = partsD xs ∧ manyPs (undPs xs) = manyPs xs ∧ ∀ p, atPs (undPs xs) p = atPs xs p
  | [] => ⟨rfl, rfl, fun _ => rfl⟩
  | x :: xs => by
    obtain ⟨h1, h2, h3⟩ := undP_asks x
    obtain ⟨k1, k2, k3⟩ := undPs_asks xs
    refine ⟨?_, ?_, fun p => ?_⟩
    · simp only [undPs, partsD, h1, k1]
    · simp only [undPs, manyPs, h2, k2]
    · simp only [undPs, atPs, h2, h3, k3]
end
mutual
theorem undR_out : ∀ d : PyData, outR (undR d) = outR d
  | .none => rfl
  | .bool _ => rfl
  | .int _ => rfl
  | .str _ => rfl
  | .dict _ => rfl
  | .list xs => undPs_out xs
  | .tuple xs => undPs_out xs
theorem undP_out : ∀ d : PyData, outP (undP d) = outP d
  | .none => rfl
  | .bool _ => rfl
  | .int _ => rfl
  | .str _ => rfl
  | .dict _ => rfl
  | .list xs => rfl
  | .tuple [] => rfl
  | .tuple [_] => rfl
  | .tuple [r, .int t] => by
    show (List.replicate t.toNat (outR (undR r))).flatten = (List.replicate t.toNat (outR r)).flatten
    rw [undR_out r]
  | .tuple [r, .none] => rfl
  | .tuple [r, .bool _] => rfl
  | .tuple [r, .str _] => rfl
  | .tuple [r, .list _] => rfl
  | .tuple [r, .tuple _] => rfl
  | .tuple [r, .dict _] => rfl
  | .tuple (_ :: _ :: _ :: _) => rfl
theorem undPs_out : ∀ xs : List PyData, outPs (undPs xs) = outPs xs
  | [] => rfl
  | x :: xs => by simp only [undPs, outPs, undP_out x, undPs_out xs]
end
end MC

set_option Elab.async false
set_option linter.all false
set_option maxRecDepth 100000
set_option maxHeartbeats 4000000
set_option exponentiation.threshold 20000
namespace MC
open PySem PySem.Spec L2
theorem firsts_app_len (a b : List Str) : (firstsL (a ++ b)).length ≤ (firstsL a).length + (firstsL b).length := by
  rw [firstsL_append, List.length_append]
  have := List.length_filter_le (fun z => decide (z ∉ firstsL a)) (firstsL b)
  omega
mutual
theorem firstsR_len : ∀ d : PyData, rowD d = true → (firstsL (outR d)).length ≤ wD d
  | .list xs, h => by
    have := firstsPs_len xs h
    show (firstsL (outPs xs)).length ≤ _
    simp only [wD]; omega
  | .tuple xs, h => by
    have := firstsPs_len xs h
    show (firstsL (outPs xs)).length ≤ _
    simp only [wD]; omega
  | .none, h => by simp [rowD] at h
  | .bool _, h => by simp [rowD] at h
  | .int _, h => by simp [rowD] at h
  | .str _, h => by simp [rowD] at h
  | .dict _, h => by simp [rowD] at h
termination_by d => 2 * wD d
decreasing_by all_goals (simp only [wD]; omega)
theorem firstsP_len : ∀ d : PyData, partD d = true → (firstsL (outP d)).length ≤ wD d
  | .str z, h => by
    show (firstsL [z]).length ≤ 1
    simp [firstsL, addF]
  | .tuple [r, .int t], h => by
    simp only [partD, timesOk, Bool.and_eq_true, decide_eq_true_eq, Bool.not_eq_true'] at h
    obtain ⟨⟨⟨t1, t2⟩, hn⟩, hr⟩ := h
    have := firstsR_len r hr
    show (firstsL (List.replicate t.toNat (outR r)).flatten).length ≤ _
    rw [firstsL_rep (by omega)]
    simp only [wD, wDs]; omega
  | .tuple [], h => by cases (show false = true from h)
  | .tuple [_], h => by cases (show false = true from h)
  | .tuple [_, .none], h => by cases (show false = true from h)
  | .tuple [_, .bool _], h => by cases (show false = true from h)
  | .tuple [_, .str _], h => by cases (show false = true from h)
  | .tuple [_, .list _], h => by cases (show false = true from h)
  | .tuple [_, .tuple _], h => by cases (show false = true from h)
  | .tuple [_, .dict _], h => by cases (show false = true from h)
  | .tuple (_ :: _ :: _ :: _), h => by rcases partD_cases h with ⟨z, e, _⟩ | ⟨r, t, e, _⟩ <;> cases e
  | .none, h => by cases (show false = true from h)
  | .bool _, h => by cases (show false = true from h)
  | .int _, h => by cases (show false = true from h)
  | .list _, h => by cases (show false = true from h)
  | .dict _, h => by cases (show false = true from h)
termination_by d => 2 * wD d
decreasing_by all_goals (simp only [wD, wDs]; omega)
theorem firstsPs_len : ∀ xs : List PyData, partsD xs = true → (firstsL (outPs xs)).length ≤ wDs xs
  | [], _ => by simp [outPs, firstsL]
  | x :: xs, h => by
    simp only [partsD, Bool.and_eq_true] at h
    have h1 := firstsP_len x h.1
    have h2 := firstsPs_len xs h.2
    have h3 := firsts_app_len (outP x) (outPs xs)
    simp only [outPs, wDs]
    omega
termination_by xs => 2 * wDs xs + 1
decreasing_by all_goals (have := wD_pos x; simp only [wDs]; omega)
end
theorem firsts_firsts (m : List Str) : firstsL (firstsL m) = firstsL m := by
  have main : ∀ zs acc : List Str, (acc ++ zs).Nodup → zs.foldl addF acc = acc ++ zs := by
    intro zs
    induction zs with
    | nil => intro acc _; simp
    | cons y zs ih =>
      intro acc nd
      rw [List.foldl_cons]
      have ny : y ∉ acc := fun g => (List.nodup_append.mp nd).2.2 y g y (by simp) rfl
      unfold addF
      rw [if_neg ny]
      have := ih (acc ++ [y]) (by simpa [List.append_assoc] using nd)
      unfold addF at this
      rw [this, List.append_assoc]
      rfl
  have := main (firstsL m) [] (by simpa using firstsL_nodup m)
  simpa [firstsL] using this
theorem firsts_fold (a m : List Str) : (firstsL m).foldl addF (firstsL a) = firstsL (a ++ m) := by
  rw [fold_add, firsts_firsts, firstsL_append]
theorem firsts_fold_rep (a m : List Str) {t : Nat} (h : 1 ≤ t) : (firstsL m).foldl addF (firstsL a) = firstsL (a ++ (List.replicate t m).flatten) := by
  rw [firsts_fold, firstsL_append, firstsL_append, firstsL_rep h]
theorem take_le_wDs (xs : List PyData) (i : Nat) : wDs (xs.take i) ≤ wDs xs := by
  have e := wDs_append (xs.take i) (xs.drop i)
  rw [List.take_append_drop] at e
  omega
theorem mid_len (l m : List Str) (t : Int) (j : Nat) : (dctV (midL l m t j)).length ≤ (firstsL l).length + (firstsL m).length := by
  unfold dctV midL tabL
  rw [List.length_map, List.length_map, fold_add, List.length_append]
  have h1 := List.length_filter_le (fun z => decide (z ∉ firstsL l)) (firstsL ((firstsL m).take j))
  have h2 : (firstsL ((firstsL m).take j)).length ≤ ((firstsL m).take j).length := by
    refine snoc_ind (P := fun l => (firstsL l).length ≤ l.length) (by simp [firstsL]) (fun l y ih => ?_) _
    rw [firstsL_snoc]
    unfold addF
    split <;> simp <;> omega
  rw [List.length_take] at h2
  omega
theorem cnts_len (l : List Str) : (dctV (cntsL l)).length = (firstsL l).length := by
  unfold dctV cntsL tabL
  rw [List.length_map, List.length_map]
theorem cnts_at {l : List Str} {j : Nat} {k : Key} {v : V} (h : (dctV (cntsL l))[j]? = some (k, v)) : ∃ z, (firstsL l)[j]? = some z ∧ k = Sum.inr z ∧ v = .int (l.count z : Nat) := by
  unfold dctV cntsL tabL at h
  rw [List.getElem?_map, List.getElem?_map] at h
  cases e : (firstsL l)[j]? with
  | none => rw [e] at h; cases h
  | some z => rw [e] at h; cases h; exact ⟨z, rfl, rfl, rfl⟩
theorem cnts_get {l : List Str} {z : Str} (h : z ∈ firstsL l) : valV (dctV (cntsL l)) (.inr z) = some (.int (l.count z : Nat)) := by
  unfold cntsL
  rw [valV_tab, if_pos h]
theorem cnts_keys (l : List Str) : ((dctV (cntsL l)).map fun kv => kV kv.1) = (firstsL l).map V.str := by
  unfold dctV cntsL tabL
  rw [List.map_map, List.map_map]
  rfl
theorem setK_keys (zs : List Str) : ((setK zs).map fun kv => kV kv.1) = zs.map V.str := by
  unfold setK
  rw [List.map_map]
  rfl
def revO (ys : List PyData) : List Str := ys.flatMap fun e => (outP e).reverse
theorem revO_snoc (ys : List PyData) (e : PyData) : revO (ys ++ [e]) = revO ys ++ (outP e).reverse := by
  unfold revO; rw [List.flatMap_append]; simp
theorem revO_rev (xs : List PyData) : revO xs.reverse = (outPs xs).reverse := by
  induction xs with
  | nil => rfl
  | cons x xs ih =>
    rw [List.reverse_cons, revO_snoc, ih]
    simp only [outPs, List.reverse_append]
theorem DDs.rev {H : Hp} : ∀ {vs : List V} {ds : List PyData}, DDs H vs ds → DDs H vs.reverse ds.reverse
  | _, _, .nil => .nil
  | _, _, .cons h hs => by
    rw [List.reverse_cons, List.reverse_cons]
    exact (DDs.rev hs).append (.cons h .nil)
theorem wDs_rev (xs : List PyData) : wDs xs.reverse = wDs xs := by
  induction xs with
  | nil => rfl
  | cons x xs ih => rw [List.reverse_cons, wDs_append, ih]; simp only [wDs]; omega
theorem firstsRev_len {xs : List PyData} (h : partsD xs = true) (i : Nat) : (firstsL (revO (xs.reverse.take i))).length ≤ wDs xs := by
  have e : xs.reverse.take i = (xs.drop (xs.length - i)).reverse := by
    rw [List.take_reverse]
  rw [e, revO_rev]
  have hp := (parts_split h (xs.length - i)).2
  have h1 := firstsPs_len _ hp
  have h2 := firstsL_nodup (outPs (xs.drop (xs.length - i))).reverse
  have h3 := firstsL_nodup (outPs (xs.drop (xs.length - i)))
  have pm : (firstsL (outPs (xs.drop (xs.length - i))).reverse).Perm (firstsL (outPs (xs.drop (xs.length - i)))) := by
    rw [List.perm_ext_iff_of_nodup h2 h3]
    intro z
    rw [mem_firstsL, mem_firstsL, List.mem_reverse]
  rw [pm.length_eq]
  have e2 := wDs_append (xs.take (xs.length - i)) (xs.drop (xs.length - i))
  rw [List.take_append_drop] at e2
  omega
theorem partsD_rev (xs : List PyData) : partsD xs.reverse = partsD xs := by
  rw [partsD_eq, partsD_eq, List.all_reverse]
end MC
namespace K02
open PySem PySem.Spec L2 MC
open PyProof.Rows hiding St
def spCounts (m : Nat) : Sp := fun vs H Q _ => ∃ x d, vs = [x] ∧ DD H x d ∧ rowD d = true ∧ d.depth < m ∧ d.depth ≤ 60 ∧ wD d ≤ 2000 ∧ ∀ H' p, Same H H' → H p = none → H' p = some (.dK (dctV (cntsL (outR d)))) → Q (.ref p) H'
def spLast (m : Nat) : Sp := fun vs H Q _ => ∃ x d, vs = [x] ∧ DD H x d ∧ rowD d = true ∧ d.depth < m ∧ d.depth ≤ 60 ∧ wD d ≤ 2000 ∧ ∀ H' p, Same H H' → H p = none → H' p = some (.lst ((firstsL (outR d).reverse).map V.str)) → Q (.ref p) H'
section
variable {P : Program} {w : World} {K : PySem.W.Frag} {mg : Str → Option Value} {base : Heap}
variable {f_counts f_latest_first f_check_row f_things_of f_last_of f_often : Addr} {fd_counts fd_latest_first fd_check_row fd_things_of fd_last_of fd_often : FuncData}
theorem counts_step {m : Nat} (T : Txt K mg) (O_counts : Own K mg "_counts" s_counts f_counts fd_counts ["row"]) (G_counts : FnOk P w K mg base CX0 (m + 1) f_counts fd_counts ["row"] (spCounts m)) : FnOk P w K mg base CX0 (m + 1 + 1) f_counts fd_counts ["row"] (spCounts (m + 1)) := by
  refine O_counts.F.ok sc_counts (fun vs H Q E h => by obtain ⟨x, d, rfl, _⟩ := h; rfl) (fun cdv A outer s H vs Q E hr h => ?_)
  obtain ⟨x, d, rfl, hd, hrow, hdm, hdp, hwd, q⟩ := h
  have hu := hu_of hr
  refine ⟨_, (pss_cons (ps_set (i := 1) sc_counts.nd rfl (Or.inl rfl) pe_dnewK)
    (pss_cons (ps_for PassesOwn.never rfl (k_seq (K := K) rfl (pv 0)) (pg_name (i := 2) sc_counts.nd rfl (Or.inl rfl))
    (pss_one (ps_if (pt_val (pe_callB (k_isi (K := K) rfl) (by rfl) T.n_isinstance (by decide +kernel) (pa_cons (pv 2) (pa_cons (pe_bltn (v := .ty "str") (by rfl) T.n_str (by decide +kernel) rfl) pa_nil))))
    (pss_one (ps_dput hu (pv 1) (pv 2) (pe_op op_add (pe_dget2 hu (pv 1) (pv 2) pe_int ⟨rfl, rfl, rfl, rfl⟩) pe_int) rfl))
    (pss_cons (ps_asg (pv 2) (pg_tup rfl (pgs_cons (pg_name (i := 3) sc_counts.nd rfl (Or.inl rfl)) (pgs_cons (pg_name (i := 4) sc_counts.nd rfl (Or.inl rfl)) pgs_nil))))
    (pss_cons (ps_set (i := 5) sc_counts.nd rfl (Or.inl rfl) (pe_call G_counts (hr.mono (by omega)) rfl O_counts.m O_counts.F.kp O_counts.b .nil pass0 (pa_cons (pv 3) pa_nil)))
    (pss_one (ps_lock (ps_for PassesOwn.never rfl (pi_keys (pv 5)) (pg_name (i := 6) sc_counts.nd rfl (Or.inl rfl))
    (pss_one (ps_dput hu (pv 1) (pv 6) (pe_op op_add (pe_dget2 hu (pv 1) (pv 6) pe_int ⟨rfl, rfl, rfl, rfl⟩) (pe_op op_mulW (pe_dget hu (pv 5) (pv 6) (fun _ _ => rfl)) (pv 4))) rfl))))))))))
    (pss_one (ps_ret (pv 1))))), ?_⟩
  have k0 := rowD_is hrow
  rw [rowD_elems k0] at hrow
  obtain ⟨a, xs, rfl, hx, hxs⟩ := hd.seq k0
  have we := wD_elems d
  have de := depth_elems k0
  have ln := hxs.length
  have lw := len_wDs (elemsD d)
  intro c0 hc0
  have s0 := same_new hc0 (.dK [])
  refine ⟨_, rfl, for_seq (xs := xs) (hx.mono s0) (fun i σ H' => ∃ (s2 s3 s4 s5 s6 : Option V), σ = [some (.ref a), some (.ref c0), s2, s3, s4, s5, s6] ∧ Same H H' ∧ H' c0 = some (.dK (dctV (cntsL (outPs ((elemsD d).take i)))))) ⟨_, _, _, _, _, rfl, s0, upd_same⟩ ?_ ?_ ?_⟩
  · rintro i σ' H' hi ⟨s2, s3, s4, s5, s6, _, s1, _⟩
    exact (hx.keep s1).trans (hx.keep s0).symm
  · rintro i xv σ H2 hi ⟨s2, s3, s4, s5, s6, rfl, s1, hc⟩
    obtain ⟨dv, hdv, hdd⟩ := hxs.get hi
    have wv := wD_le hdv
    have dv1 := depth_le hdv
    have hdd2 := hdd.mono s1
    have pk := partsD_get hrow hdv
    have tk : outPs ((elemsD d).take (i + 1)) = outPs ((elemsD d).take i) ++ outP dv := by rw [take_more hdv, outPs_append]; simp [outPs]
    have fl := firstsPs_len _ (parts_split hrow i).1
    have tw := take_le_wDs (elemsD d) i
    refine ⟨_, rfl, _, _, _, _, _, rfl, .ty _, ty_of hdd2, kI_str, _, rfl, ?_⟩
    refine ite2 (fun c1 => ?_) (fun c1 => ?_)
    · rcases partD_cases pk with ⟨z, rfl, _⟩ | ⟨r, t, rfl, _⟩
      · cases hdd2
        refine ⟨_, rfl, c0, rfl, .inl ⟨_, .inl hc⟩, _, rfl, _, DGet.k (k := Sum.inr z) hc, _, _, get_count _ _, rfl, _, rfl, _, rfl, c0, _, rfl, DPut.k (k := Sum.inr z) hc ?_, ?_⟩
        · rw [cnts_len]; exact Nat.lt_of_le_of_lt (show _ ≤ 2000 by omega) (by decide)
        · refine ⟨_, _, _, _, _, rfl, same_mut s1 hc0 _, ?_⟩
          rw [upd_same, tk]
          exact congrArg (fun z => some (HO.dK z)) (put_count _ z)
      · cases c1
    · rcases partD_cases pk with ⟨z, rfl, _⟩ | ⟨r, t, rfl, t1, t2, hn, hrr⟩
      · exact absurd rfl c1
      have dp : r.depth < m ∧ r.depth ≤ 60 := by simp only [PyData.depth, PyData.depthAll] at dv1; omega
      have wp : wD r ≤ 2000 := by simp only [wD, wDs] at wv; omega
      have fr := firstsR_len r hrr
      cases hdd2 with
      | @tup ap ys _ hap hys =>
        match ys, hys with
        | [v1, v2], .cons h1 (.cons h2 .nil) =>
          cases h2
          obtain ⟨tn, rfl⟩ : ∃ n : Nat, t = (n : Int) := ⟨t.toNat, by omega⟩
          refine ⟨_, rfl, ap, _, rfl, SqT.of hap, rfl, _, _, rfl, _, _, rfl, rfl, ?_⟩
          refine ⟨_, rfl, v1, r, rfl, h1, hrr, dp.1, dp.2, wp, fun H3 p s3' p0 hp => ?_⟩
          have pc : p ≠ c0 := fun z => by rw [z, hc] at p0; cases p0
          have hc3 := s3' _ _ hc
          refine ⟨p, _, hp, trivial, fun od => ?_⟩
          refine ⟨_, rfl, p, od, rfl, .inl ⟨_, upd_same, for_it (walk_keys (o := od)) (fun j σ H' => ∃ s6 : Option V, σ = [some (.ref a), some (.ref c0), some (.ref ap), some v1, some (.int (tn : Int)), some (.ref p), s6] ∧ H' p = some (.frz od (.dK (dctV (cntsL (outR r))))) ∧
            (∀ b o, b ≠ p → b ≠ c0 → H3 b = some o → H' b = some o) ∧ H' c0 = some (.dK (dctV (midL (outPs ((elemsD d).take i)) (outR r) tn j)))) ⟨_, rfl, upd_same, fun b o hb _ e => by rw [upd_ne hb]; exact e, ?_⟩ (fun j σ H' _ z => z.elim fun _ z => z.2.1) ?_ ?_⟩⟩
          · rw [upd_ne pc.symm, mid_zero]; exact hc3
          · rintro j xk σ H4 _ hj ⟨s6, rfl, hp4, st4, hc4⟩ ⟨rfl, k, v, hk, rfl⟩
            obtain ⟨z, hz, rfl, rfl⟩ := cnts_at hk
            have zm : z ∈ firstsL (outR r) := List.mem_of_getElem? hz
            have cb := cnt_bits hrr wp dp.2 z
            refine ⟨_, rfl, c0, rfl, .inl ⟨_, .inl hc4⟩, _, rfl, _, DGet.k (k := Sum.inr z) hc4, ?_⟩
            rw [mid_get hz]
            refine ⟨_, rfl, _, rfl, p, _, rfl, .inl ⟨_, Sum.inr z, .inr ⟨od, hp4⟩, rfl, (cnts_get zm).symm⟩, _, rfl, _, _, rfl, rfl, wide_mul cb (bits30 t1 t2) (by decide) (by decide) (by decide), ?_⟩
            refine ⟨_, _, rfl, rfl, _, rfl, _, rfl, c0, _, rfl, DPut.k (k := Sum.inr z) hc4 ?_, ?_⟩
            · have := mid_len (outPs ((elemsD d).take i)) (outR r) tn j
              exact Nat.lt_of_le_of_lt (show _ ≤ 4000 by omega) (by decide)
            · refine ⟨_, rfl, by rw [upd_ne pc]; exact hp4, fun b o hb hb2 e => by rw [upd_ne hb2]; exact st4 b o hb hb2 e, ?_⟩
              rw [upd_same]
              exact congrArg (fun z => some (HO.dK z)) (mid_put hz)
          · rintro σ H4 ⟨s6, rfl, hp4, st4, hc4⟩
            refine ⟨hp4, _, _, _, _, _, rfl, fun b o e => ?_, ?_⟩
            · have e3 := s1.trans s3' _ _ e
              by_cases hb : b = p
              · exact absurd (s1 _ _ e) (by rw [hb, p0]; simp)
              · rw [upd_ne hb]
                exact st4 b o hb (fun z => by rw [z, hc0] at e; cases e) e3
            · rw [upd_ne pc.symm, hc4, tk, cnts_len, mid_end (by omega)]
              rfl
  · rintro σ H2 ⟨s2, s3, s4, s5, s6, rfl, s1, hc⟩
    have full : (elemsD d).take xs.length = elemsD d := List.take_of_length_le (by rw [ln]; exact Nat.le_refl _)
    rw [full, ← outR_elems k0] at hc
    exact ⟨_, rfl, q H2 c0 s1 hc0 hc⟩
theorem counts_all (T : Txt K mg) (O_counts : Own K mg "_counts" s_counts f_counts fd_counts ["row"]) : ∀ m, FnOk P w K mg base CX0 (m + 1) f_counts fd_counts ["row"] (spCounts m)
  | 0 => by
    have no : ∀ vs H Q E, ¬ spCounts 0 vs H Q E := fun vs H Q E h => by
      obtain ⟨x, d, _, _, _, h0, _⟩ := h
      exact absurd h0 (Nat.not_lt_zero _)
    exact ⟨fun vs H Q E h => absurd h (no vs H Q E), fun A outer s H args us vs Q E _ _ _ _ h => absurd h (no vs H Q E)⟩
  | m + 1 => counts_step T O_counts (counts_all T O_counts m)
theorem last_step {m : Nat} (T : Txt K mg) (O_latest_first : Own K mg "_latest_first" s_latest_first f_latest_first fd_latest_first ["row"]) (G_latest_first : FnOk P w K mg base CX0 (m + 1) f_latest_first fd_latest_first ["row"] (spLast m)) : FnOk P w K mg base CX0 (m + 1 + 1) f_latest_first fd_latest_first ["row"] (spLast (m + 1)) := by
  refine O_latest_first.F.ok sc_latest_first (fun vs H Q E h => by obtain ⟨x, d, rfl, _⟩ := h; rfl) (fun cdv A outer s H vs Q E hr h => ?_)
  obtain ⟨x, d, rfl, hd, hrow, hdm, hdp, hwd, q⟩ := h
  have hu := hu_of hr
  refine ⟨_, (pss_cons (ps_set (i := 1) sc_latest_first.nd rfl (Or.inl rfl) pe_dnewK)
    (pss_cons (ps_for PassesOwn.never rfl (k_seq (K := K) rfl (pe_revX (pv 0))) (pg_name (i := 2) sc_latest_first.nd rfl (Or.inl rfl))
    (pss_one (ps_if (pt_val (pe_callB (k_isi (K := K) rfl) (by rfl) T.n_isinstance (by decide +kernel) (pa_cons (pv 2) (pa_cons (pe_bltn (v := .ty "str") (by rfl) T.n_str (by decide +kernel) rfl) pa_nil))))
    (pss_one (ps_dput hu (pv 1) (pv 2) pe_bl rfl))
    (pss_one (ps_for PassesOwn.never rfl (k_list (K := K) rfl (pe_call G_latest_first (hr.mono (by omega)) rfl O_latest_first.m O_latest_first.F.kp O_latest_first.b .nil pass0 (pa_cons (pe_ix (k_ix_tup (K := K) rfl) (pv 2) pe_int (fun _ _ => rfl)) pa_nil))) (pg_name (i := 3) sc_latest_first.nd rfl (Or.inl rfl))
    (pss_one (ps_dput hu (pv 1) (pv 3) pe_bl rfl)))))))
    (pss_one (ps_ret (pe_callTy (call_listD rfl) (by rfl) T.n_list (by decide +kernel) (pa_cons (pv 1) pa_nil)))))), ?_⟩
  have k0 := rowD_is hrow
  rw [rowD_elems k0] at hrow
  obtain ⟨a, xs, rfl, hx, hxs⟩ := hd.seq k0
  have we := wD_elems d
  have de := depth_elems k0
  have ln := hxs.length
  have lw := len_wDs (elemsD d)
  have hrowR : partsD (elemsD d).reverse = true := by rw [partsD_rev]; exact hrow
  intro c0 hc0
  have s0 := same_new hc0 (.dK [])
  refine ⟨_, rfl, a, xs, rfl, hx.mono s0, fun b H1 s1 hb => ?_⟩
  have hc1 : H1 c0 = some (.dK []) := s1 _ _ upd_same
  have bc : b ≠ c0 := fun z => by
    rw [z] at hb
    rcases hb with h | h <;> rw [hc1] at h <;> cases h
  have hxr := hxs.rev
  refine for_seq (xs := xs.reverse) hb (fun i σ H' => ∃ (s2 s3 : Option V), σ = [some (.ref a), some (.ref c0), s2, s3] ∧ Same H H' ∧ H' b = H1 b ∧ H' c0 = some (.dK (setK (firstsL (revO ((elemsD d).reverse.take i)))))) ⟨_, _, rfl, s0.trans s1, rfl, hc1⟩ ?_ ?_ ?_
  · rintro i σ' H' hi ⟨s2, s3, _, _, z, _⟩
    exact z
  · rintro i xv σ H2 hi ⟨s2, s3, rfl, s2', hb2, hc⟩
    obtain ⟨dv, hdv, hdd⟩ := hxr.get hi
    have wv := wD_le hdv
    rw [wDs_rev] at wv
    have mem : dv ∈ elemsD d := by have := List.mem_of_getElem? hdv; simpa using this
    obtain ⟨jj, hjj⟩ := List.getElem?_of_mem mem
    have dv1 := depth_le hjj
    have hdd2 := hdd.mono s2'
    have pk := partsD_get hrow hjj
    have tk : revO ((elemsD d).reverse.take (i + 1)) = revO ((elemsD d).reverse.take i) ++ (outP dv).reverse := by rw [take_more hdv, revO_snoc]
    have fl := firstsRev_len hrow i
    have sl : ∀ zs : List Str, (setK zs).length = zs.length := fun zs => by simp [setK]
    refine ⟨_, rfl, _, _, _, _, _, rfl, .ty _, ty_of hdd2, kI_str, _, rfl, ?_⟩
    refine ite2 (fun c1 => ?_) (fun c1 => ?_)
    · rcases partD_cases pk with ⟨z, rfl, _⟩ | ⟨r, t, rfl, _⟩
      · cases hdd2
        refine ⟨_, rfl, _, rfl, c0, _, rfl, DPut.k (k := Sum.inr z) hc ?_, ?_⟩
        · rw [sl]; exact Nat.lt_of_le_of_lt (show _ ≤ 2000 by omega) (by decide)
        · refine ⟨_, _, rfl, same_mut s2' hc0 _, by rw [upd_ne bc]; exact hb2, ?_⟩
          rw [upd_same, setK_put, tk, show (outP (.str z)).reverse = [z] from rfl, firstsL_snoc]
          rfl
      · cases c1
    · rcases partD_cases pk with ⟨z, rfl, _⟩ | ⟨r, t, rfl, t1, t2, hn, hrr⟩
      · exact absurd rfl c1
      have dp : r.depth < m ∧ r.depth ≤ 60 := by simp only [PyData.depth, PyData.depthAll] at dv1; omega
      have wp : wD r ≤ 2000 := by simp only [wD, wDs] at wv; omega
      cases hdd2 with
      | @tup ap ys _ hap hys =>
        match ys, hys with
        | [v1, v2], .cons h1 (.cons h2 .nil) =>
          cases h2
          refine ⟨_, rfl, _, _, _, _, rfl, rfl, SqT.of hap, atI_nat (j := 0) rfl, v1, r, rfl, h1, hrr, dp.1, dp.2, wp, fun H3 p s3' p0 hp => ?_⟩
          have pc : p ≠ c0 := fun z => by rw [z, hc] at p0; cases p0
          have hc3 := s3' _ _ hc
          have hb3 : H3 b = H1 b := by
            rw [← hb2]
            rcases hb with h | h
            · rw [← hb2] at h; exact (s3' _ _ h).trans h.symm
            · rw [← hb2] at h; exact (s3' _ _ h).trans h.symm
          have fr : (firstsL (outR r).reverse).length ≤ 2000 := by
            have e1 := firstsRev_len (xs := elemsD r) (by rw [← rowD_elems (rowD_is hrr)]; exact hrr) (elemsD r).length
            rw [List.take_of_length_le (by simp), revO_rev, ← outR_elems (rowD_is hrr)] at e1
            have := wD_elems r
            omega
          refine ⟨p, rfl, ⟨_, SqL.of hp⟩, for_list (K := K) (a := p) (xs := (firstsL (outR r).reverse).map V.str) (fun j σ H' => ∃ s3 : Option V, σ = [some (.ref a), some (.ref c0), some (.ref ap), s3] ∧ Same H H' ∧ H' b = H1 b ∧ H' p = some (.lst ((firstsL (outR r).reverse).map V.str)) ∧
            H' c0 = some (.dK (setK (((firstsL (outR r).reverse).take j).foldl addF (firstsL (revO ((elemsD d).reverse.take i))))))) ⟨_, rfl, s2'.trans s3', hb3, hp, hc3⟩ (fun j σ H' _ z => SqL.of (z.elim fun _ z => z.2.2.2.1)) ?_ ?_⟩
          · rintro j xk σ H4 hj ⟨s3, rfl, s4, hb4, hp4, hc4⟩
            rw [List.getElem?_map] at hj
            cases ez : (firstsL (outR r).reverse)[j]? with
            | none => rw [ez] at hj; cases hj
            | some z =>
              rw [ez] at hj
              cases hj
              refine ⟨_, rfl, _, rfl, c0, _, rfl, DPut.k (k := Sum.inr z) hc4 ?_, ?_⟩
              · rw [sl, MC.fold_add, List.length_append]
                have h1 := List.length_filter_le (fun z => decide (z ∉ firstsL (revO ((elemsD d).reverse.take i)))) (firstsL ((firstsL (outR r).reverse).take j))
                have h2 : (firstsL ((firstsL (outR r).reverse).take j)).length ≤ ((firstsL (outR r).reverse).take j).length := by
                  refine snoc_ind (P := fun l => (firstsL l).length ≤ l.length) (by simp [firstsL]) (fun l y ih => ?_) _
                  rw [firstsL_snoc]
                  unfold addF
                  split <;> simp <;> omega
                rw [List.length_take] at h2
                exact Nat.lt_of_le_of_lt (show _ ≤ 4000 by omega) (by decide)
              · refine ⟨_, rfl, same_mut s4 hc0 _, by rw [upd_ne bc]; exact hb4, by rw [upd_ne pc]; exact hp4, ?_⟩
                rw [upd_same, setK_put, take_more ez, List.foldl_append]
                rfl
          · rintro σ H4 ⟨s3, rfl, s4, hb4, hp4, hc4⟩
            refine ⟨_, _, rfl, s4, hb4, ?_⟩
            rw [hc4, List.length_map, List.take_of_length_le (Nat.le_refl _), tk, show outP (.tuple [r, .int t]) = (List.replicate t.toNat (outR r)).flatten from rfl, rep_reverse, firsts_fold_rep _ _ (show 1 ≤ t.toNat by omega)]
  · rintro σ H2 ⟨s2, s3, rfl, s2', hb2, hc⟩
    have full : (elemsD d).reverse.take xs.reverse.length = (elemsD d).reverse := List.take_of_length_le (by simp [ln])
    rw [full, revO_rev, ← outR_elems k0] at hc
    refine ⟨_, rfl, c0, _, rfl, .inl hc, fun p hp => q _ p (s2'.trans (same_new hp _)) (s2'.free hp) ?_⟩
    rw [upd_same, setK_keys]
theorem last_all (T : Txt K mg) (O_latest_first : Own K mg "_latest_first" s_latest_first f_latest_first fd_latest_first ["row"]) : ∀ m, FnOk P w K mg base CX0 (m + 1) f_latest_first fd_latest_first ["row"] (spLast m)
  | 0 => by
    have no : ∀ vs H Q E, ¬ spLast 0 vs H Q E := fun vs H Q E h => by
      obtain ⟨x, d, _, _, _, h0, _⟩ := h
      exact absurd h0 (Nat.not_lt_zero _)
    exact ⟨fun vs H Q E h => absurd h (no vs H Q E), fun A outer s H args us vs Q E _ _ _ _ h => absurd h (no vs H Q E)⟩
  | m + 1 => last_step T O_latest_first (last_all T O_latest_first m)
end
end K02

set_option Elab.async false
set_option linter.all false
set_option maxRecDepth 100000
set_option maxHeartbeats 4000000
set_option exponentiation.threshold 20000
namespace MC
open PySem PySem.Spec L2
theorem inV_strs (z : Str) (l : List Str) : inV (.str z) (l.map V.str) = decide (z ∈ l) := by
  unfold inV
  rw [List.any_map]
  induction l with
  | nil => rfl
  | cons y l ih =>
    rw [List.any_cons, ih]
    show ((y == z) || decide (z ∈ l)) = decide (z ∈ y :: l)
    by_cases e : y = z
    · subst e; simp
    · have : (y == z) = false := by simpa using e
      rw [this]
      simp [show ¬ z = y from fun u => e u.symm]
theorem flat_strs (l : List Str) : (l.map V.str).all flatV = true := by
  rw [List.all_map, List.all_eq_true]
  intro z _
  rfl
theorem twPs_append (xs ys : List PyData) : twPs (xs ++ ys) = twPs xs ++ twPs ys := by
  induction xs with
  | nil => rfl
  | cons x xs ih => simp only [List.cons_append, twPs, ih]
theorem twR_elems {d : PyData} (k : dSeq d = true) : twR d = .list (twPs (elemsD d)) := by
  cases d <;> first | rfl | cases k
theorem twPs_len (xs : List PyData) : (twPs xs).length = xs.length := by
  induction xs with
  | nil => rfl
  | cons x xs ih => simp only [twPs, List.length_cons, ih]
end MC
namespace K02
open PySem PySem.Spec L2 MC
open PyProof.Rows hiding St
def spTold (g : PyData → HO) : Sp := fun vs H Q _ => ∃ x d, vs = [x] ∧ DD H x d ∧ okD d = true ∧ d.depth ≤ 12 ∧ wD d ≤ 2000 ∧ rowD d = true ∧ ∀ H' p, Same H H' → H p = none → H' p = some (g d) → Q (.ref p) H'
def gThings (d : PyData) : HO := .lst ((firstsL (outR d)).map V.str)
def gLast (d : PyData) : HO := .lst ((firstsL (outR d).reverse).map V.str)
def gOften (d : PyData) : HO := .dK (dctV (cntsL (outR d)))
def spTw (m : Nat) : Sp := fun vs H Q _ => ∃ x d, vs = [x] ∧ DD H x d ∧ rowD d = true ∧ d.depth < m ∧ wD d ≤ 2000 ∧ ∀ H' p, Same H H' → H p = none → DD (New H H') (.ref p) (twR d) → Q (.ref p) H'
def spFirsts : Sp := fun vs H Q _ => ∃ (a : Addr) (l : List Str), vs = [.ref a] ∧ SqX H a (l.map V.str) ∧ l.length ≤ 4000 ∧ ∀ H' p, Same H H' → H p = none → H' p = some (.lst ((firstsL l).map V.str)) → Q (.ref p) H'
section
variable {P : Program} {w : World} {K : PySem.W.Frag} {mg : Str → Option Value} {base : Heap}
variable {f_counts f_latest_first f_check_row f_things_of f_last_of f_often f_l_twice f_l_firsts : Addr} {fd_counts fd_latest_first fd_check_row fd_things_of fd_last_of fd_often fd_l_twice fd_l_firsts : FuncData}
theorem ok_things_of (T : Txt K mg) (O_counts : Own K mg "_counts" s_counts f_counts fd_counts ["row"]) (O_check_row : Own K mg "check_row" s_check_row f_check_row fd_check_row ["row"]) (O_things_of : Own K mg "things_of" s_things_of f_things_of fd_things_of ["row"]) (G_check_row : FnOk P w K mg base CX0 4 f_check_row fd_check_row ["row"] spChk) (G_counts : FnOk P w K mg base CX0 14 f_counts fd_counts ["row"] (spCounts 13)) : FnOk P w K mg base CX0 15 f_things_of fd_things_of ["row"] (spTold gThings) := by
  refine O_things_of.F.ok sc_things_of (fun vs H Q E h => by obtain ⟨x, d, rfl, _⟩ := h; rfl) (fun cdv A outer s H vs Q E hr h => ?_)
  obtain ⟨x, d, rfl, hd, hok, hdp, hwd, hrow, q⟩ := h
  refine ⟨_, (pss_cons (ps_expr (pe_call G_check_row (hr.mono (by omega)) rfl O_check_row.m O_check_row.F.kp O_check_row.b .nil pass0 (pa_cons (pv 0) pa_nil)))
    (pss_one (ps_ret (pe_callTy (call_listD rfl) (by rfl) T.n_list (by decide +kernel) (pa_cons (pe_call G_counts (hr.mono (by omega)) rfl O_counts.m O_counts.F.kp O_counts.b .nil pass0 (pa_cons (pv 0) pa_nil)) pa_nil))))), ?_⟩
  refine ⟨_, rfl, x, d, rfl, hd, hok, by omega, hwd, hrow, fun H1 s1 => ?_⟩
  refine ⟨_, rfl, x, d, rfl, hd.mono s1, hrow, by omega, by omega, hwd, fun H2 p s2 p0 hp => ⟨p, _, rfl, .inl hp, fun p2 hp2 => ?_⟩⟩
  exact q _ p2 ((s1.trans s2).trans (same_new hp2 _)) ((s1.trans s2).free hp2) (by rw [upd_same, cnts_keys]; rfl)
theorem ok_last_of (T : Txt K mg) (O_latest_first : Own K mg "_latest_first" s_latest_first f_latest_first fd_latest_first ["row"]) (O_check_row : Own K mg "check_row" s_check_row f_check_row fd_check_row ["row"]) (O_last_of : Own K mg "last_of" s_last_of f_last_of fd_last_of ["row"]) (G_check_row : FnOk P w K mg base CX0 4 f_check_row fd_check_row ["row"] spChk) (G_latest_first : FnOk P w K mg base CX0 14 f_latest_first fd_latest_first ["row"] (spLast 13)) : FnOk P w K mg base CX0 15 f_last_of fd_last_of ["row"] (spTold gLast) := by
  refine O_last_of.F.ok sc_last_of (fun vs H Q E h => by obtain ⟨x, d, rfl, _⟩ := h; rfl) (fun cdv A outer s H vs Q E hr h => ?_)
  obtain ⟨x, d, rfl, hd, hok, hdp, hwd, hrow, q⟩ := h
  refine ⟨_, (pss_cons (ps_expr (pe_call G_check_row (hr.mono (by omega)) rfl O_check_row.m O_check_row.F.kp O_check_row.b .nil pass0 (pa_cons (pv 0) pa_nil)))
    (pss_one (ps_ret (pe_call G_latest_first (hr.mono (by omega)) rfl O_latest_first.m O_latest_first.F.kp O_latest_first.b .nil pass0 (pa_cons (pv 0) pa_nil))))), ?_⟩
  refine ⟨_, rfl, x, d, rfl, hd, hok, by omega, hwd, hrow, fun H1 s1 => ?_⟩
  exact ⟨_, rfl, x, d, rfl, hd.mono s1, hrow, by omega, by omega, hwd, fun H2 p s2 p0 hp => q _ p (s1.trans s2) (s1.free p0) hp⟩
theorem ok_often (T : Txt K mg) (O_counts : Own K mg "_counts" s_counts f_counts fd_counts ["row"]) (O_check_row : Own K mg "check_row" s_check_row f_check_row fd_check_row ["row"]) (O_often : Own K mg "often" s_often f_often fd_often ["row"]) (G_check_row : FnOk P w K mg base CX0 4 f_check_row fd_check_row ["row"] spChk) (G_counts : FnOk P w K mg base CX0 14 f_counts fd_counts ["row"] (spCounts 13)) : FnOk P w K mg base CX0 15 f_often fd_often ["row"] (spTold gOften) := by
  refine O_often.F.ok sc_often (fun vs H Q E h => by obtain ⟨x, d, rfl, _⟩ := h; rfl) (fun cdv A outer s H vs Q E hr h => ?_)
  obtain ⟨x, d, rfl, hd, hok, hdp, hwd, hrow, q⟩ := h
  refine ⟨_, (pss_cons (ps_expr (pe_call G_check_row (hr.mono (by omega)) rfl O_check_row.m O_check_row.F.kp O_check_row.b .nil pass0 (pa_cons (pv 0) pa_nil)))
    (pss_one (ps_ret (pe_call G_counts (hr.mono (by omega)) rfl O_counts.m O_counts.F.kp O_counts.b .nil pass0 (pa_cons (pv 0) pa_nil))))), ?_⟩
  refine ⟨_, rfl, x, d, rfl, hd, hok, by omega, hwd, hrow, fun H1 s1 => ?_⟩
  exact ⟨_, rfl, x, d, rfl, hd.mono s1, hrow, by omega, by omega, hwd, fun H2 p s2 p0 hp => q _ p (s1.trans s2) (s1.free p0) hp⟩
theorem ok_firsts (T : Txt K mg) (O_l_firsts : Own K mg "_law_firsts" s_l_firsts f_l_firsts fd_l_firsts ["_law_asks"]) : FnOk P w K mg base CX0 1 f_l_firsts fd_l_firsts ["_law_asks"] spFirsts := by
  refine O_l_firsts.F.ok sc_l_firsts (fun vs H Q E h => by obtain ⟨a, l, rfl, _⟩ := h; rfl) (fun cdv A outer s H vs Q E hr h => ?_)
  obtain ⟨a, l, rfl, hx, ll, q⟩ := h
  refine ⟨_, (pss_cons (ps_set (i := 1) sc_l_firsts.nd rfl (Or.inl rfl) (pe_lst pa_nil))
    (pss_cons (ps_for PassesOwn.never rfl (k_seq (K := K) rfl (pv 0)) (pg_name (i := 2) sc_l_firsts.nd rfl (Or.inl rfl))
    (pss_one (ps_if (pt_cmpR (k_notIn_seq (K := K) rfl) (pv 2) (pv 1) (by rfl))
    (pss_one (ps_expr (k_bm (K := K) rfl (pe_bm PySem.F.plainAttrs_list PySem.F.slot_list_append PySem.F.type_list_append mt_append (pv 1) (pa_cons (pv 2) pa_nil)))))
    pss_nil)))
    (pss_one (ps_ret (pv 1))))), ?_⟩
  refine ⟨Nat.zero_le _, fun f hf => ?_⟩
  have s0 := same_new hf (.lst [])
  have lf : ∀ i, (firstsL (l.take i)).length ≤ 4000 := fun i => by
    have h2 : (firstsL (l.take i)).length ≤ (l.take i).length := by
      refine snoc_ind (P := fun l => (firstsL l).length ≤ l.length) (by simp [firstsL]) (fun l y ih => ?_) _
      rw [firstsL_snoc]
      unfold addF
      split <;> simp <;> omega
    rw [List.length_take] at h2
    omega
  refine ⟨_, rfl, for_seq (xs := l.map V.str) (hx.mono s0) (fun i σ H' => ∃ (s2 : Option V), σ = [some (.ref a), some (.ref f), s2] ∧ Same H H' ∧ H' f = some (.lst ((firstsL (l.take i)).map V.str))) ⟨_, rfl, s0, upd_same⟩ ?_ ?_ ?_⟩
  · rintro i σ' H' hi ⟨s2, _, s1, _⟩
    exact (hx.keep s1).trans (hx.keep s0).symm
  · rintro i xv σ H2 hi ⟨s2, rfl, s1, hf2⟩
    rw [List.getElem?_map] at hi
    cases ez : l[i]? with
    | none => rw [ez] at hi; cases hi
    | some z =>
      rw [ez] at hi
      cases hi
      have tk : firstsL (l.take (i + 1)) = addF (firstsL (l.take i)) z := by rw [take_more ez, firstsL_snoc]
      refine ⟨_, rfl, _, rfl, f, _, rfl, .inl (SqL.of hf2), rfl, flat_strs _, _, rfl, ?_⟩
      rw [inV_strs]
      refine ite2 (fun c => ?_) (fun c => ?_)
      · have c : z ∉ firstsL (l.take i) := by simpa using c
        refine ⟨_, rfl, .inl ⟨rfl, _, SqL.of hf2⟩, _, rfl, f, _, _, rfl, rfl, hf2, ?_, ?_⟩
        · rw [List.length_map]; exact Nat.lt_of_le_of_lt (lf i) (by decide)
        · refine ⟨_, rfl, same_mut s1 hf _, ?_⟩
          rw [upd_same, tk]
          unfold addF
          rw [if_neg c, List.map_append]
          rfl
      · have c : z ∈ firstsL (l.take i) := by simpa using c
        refine ⟨_, rfl, s1, ?_⟩
        rw [hf2, tk]
        unfold addF
        rw [if_pos c]
  · rintro σ H2 ⟨s2, rfl, s1, hf2⟩
    rw [List.length_map, List.take_of_length_le (Nat.le_refl _)] at hf2
    exact ⟨_, rfl, q H2 f s1 hf hf2⟩
theorem twice_step {m : Nat} (T : Txt K mg) (O_l_twice : Own K mg "_law_twice" s_l_twice f_l_twice fd_l_twice ["_law_line"]) (G_l_twice : FnOk P w K mg base CX0 (m + 1) f_l_twice fd_l_twice ["_law_line"] (spTw m)) : FnOk P w K mg base CX0 (m + 1 + 1) f_l_twice fd_l_twice ["_law_line"] (spTw (m + 1)) := by
  refine O_l_twice.F.ok sc_l_twice (fun vs H Q E h => by obtain ⟨x, d, rfl, _⟩ := h; rfl) (fun cdv A outer s H vs Q E hr h => ?_)
  obtain ⟨x, d, rfl, hd, hrow, hdm, hwd, q⟩ := h
  refine ⟨_, (pss_one (ps_ret (pe_lc (own := [("_law_part", 1)]) rfl sc_l_twice.nd (k_seq (K := K) rfl (pv 0)) (blkOk_by (own := [("_law_part", 1)]) (N := ["_law_line", "_law_part"]) (sc := defScope s_l_twice) (by decide +kernel)) (fun _ _ _ _ _ => (pg_name (i := 1) sc_l_twice.nd rfl (Or.inl rfl))) (fun _ _ _ _ _ => pts_nil) (fun _ _ _ _ _ => (pe_ifExp (pt_val (pe_callB (k_isi (K := K) rfl) (by rfl) T.n_isinstance (by decide +kernel) (pa_cons (pv 1) (pa_cons (pe_bltn (v := .ty "str") (by rfl) T.n_str (by decide +kernel) rfl) pa_nil)))) (pv 1) (pe_tup (pa_cons (pe_call G_l_twice (hr.mono (by omega)) rfl O_l_twice.m O_l_twice.F.kp O_l_twice.b .nil pass0 (pa_cons (pe_ix (k_ix_tup (K := K) rfl) (pv 1) pe_int (fun _ _ => rfl)) pa_nil)) (pa_cons (pe_callB (call_min2 rfl) (by rfl) T.n_min (by decide +kernel) (pa_cons pe_int (pa_cons (pe_ix (k_ix_tup (K := K) rfl) (pv 1) pe_int (fun _ _ => rfl)) pa_nil))) pa_nil)))))))), ?_⟩
  have k0 := rowD_is hrow
  rw [twR_elems k0] at q
  rw [rowD_elems k0] at hrow
  obtain ⟨a, xs, rfl, hx, hxs⟩ := hd.seq k0
  have we := wD_elems d
  have de := depth_elems k0
  have ln := hxs.length
  have lw := len_wDs (elemsD d)
  refine ⟨_, rfl, lc_seqD (K := K) (xs := xs) hx (fun D i H' => Same H H' ∧ ∃ acc, H' D = some (.lst acc) ∧ acc.length = i ∧ DDs (Hid [D] (New H H')) acc (twPs ((elemsD d).take i))) (fun D hD => ⟨same_new hD _, [], upd_same, rfl, .nil⟩) ?_ ?_ ?_⟩
  · rintro D i H' hD _ ⟨s1, _⟩
    exact hx.keep s1
  · rintro D i xv H2 hD hi ⟨s1, acc, hA, al, hdd⟩
    obtain ⟨dv, hdv, hdx⟩ := hxs.get hi
    have wv := wD_le hdv
    have dv1 := depth_le hdv
    have il := (List.getElem?_eq_some_iff.mp hi).1
    have hdx2 := hdx.mono s1
    have pk := partsD_get hrow hdv
    have tk : twPs ((elemsD d).take (i + 1)) = twPs ((elemsD d).take i) ++ [twP dv] := by rw [take_more hdv, twPs_append]; simp [twPs]
    have lacc : acc.length < sizeLine := Nat.lt_of_le_of_lt (show _ ≤ 2000 by omega) (by decide)
    refine ⟨rfl, _, rfl, _, _, _, _, _, rfl, .ty _, ty_of hdx2, kI_str, _, rfl, ?_⟩
    refine ite2 (fun c1 => ?_) (fun c1 => ?_)
    · rcases partD_cases pk with ⟨z, rfl, _⟩ | ⟨r, t, rfl, _⟩
      · cases hdx2
        refine ⟨_, rfl, acc, hA, lacc, same_mut s1 hD _, _, upd_same, by rw [List.length_append, al]; rfl, ?_⟩
        rw [tk]
        refine DDs.append (hdd.mono fun b o e => ?_) (.cons (.str z) .nil)
        obtain ⟨e1, e2⟩ := hid_some e
        obtain ⟨e3, e4⟩ := new_some e2
        rw [hid_out e1, new_at e3, upd_ne (by simpa using e1)]
        exact e4
      · cases c1
    · rcases partD_cases pk with ⟨z, rfl, _⟩ | ⟨r, t, rfl, t1, t2, hn, hrr⟩
      · exact absurd rfl c1
      have dp : r.depth < m := by simp only [PyData.depth, PyData.depthAll] at dv1; omega
      have wp : wD r ≤ 2000 := by simp only [wD, wDs] at wv; omega
      cases hdx2 with
      | @tup ap ys _ hap hys =>
        match ys, hys with
        | [v1, v2], .cons h1 (.cons h2 .nil) =>
          cases h2
          refine ⟨_, rfl, _, _, _, _, rfl, rfl, SqT.of hap, atI_nat (j := 0) rfl, v1, r, rfl, h1, hrr, dp, wp, fun H3 p s3 p0 hp => ?_⟩
          refine ⟨_, rfl, _, _, _, _, rfl, rfl, SqT.of (s3 _ _ hap), atI_nat (j := 1) rfl, 2, t, rfl, (by show 2 ≤ sizeLine; decide), fun tp htp => ?_⟩
          have em : (if t < 2 then t else 2) = min 2 t := by split <;> omega
          rw [em]
          have st := same_new htp (.tup [.ref p, .int (min 2 t)])
          have hA4 := st _ _ (s3 _ _ hA)
          have tD : tp ≠ D := fun z => by rw [z, s3 _ _ hA] at htp; cases htp
          refine ⟨acc, hA4, lacc, same_mut (s1.trans (s3.trans st)) hD _, _, upd_same, by rw [List.length_append, al]; rfl, ?_⟩
          rw [tk]
          have old : ∀ b o, b ≠ D → H b = none → H3 b = some o → Hid [D] (New H (upd (upd H3 tp (.tup [.ref p, .int (min 2 t)])) D (.lst (acc ++ [.ref tp])))) b = some o := fun b o h1 h2 h3 => by
            rw [hid_out (by simpa using h1), new_at h2, upd_ne h1, upd_ne (ne_of_none h3 htp)]
            exact h3
          refine DDs.append (hdd.mono fun b o e => ?_) (.cons (.tup (xs := [.ref p, .int (min 2 t)]) ?_ (.cons (hp.mono fun b o e => ?_) (.cons (.int _) .nil))) .nil)
          · obtain ⟨e1, e2⟩ := hid_some e
            obtain ⟨e3, e4⟩ := new_some e2
            exact old b o (by simpa using e1) e3 (s3 _ _ e4)
          · rw [hid_out (by simpa using tD), new_at ((s1.trans s3).free htp), upd_ne tD, upd_same]
          · obtain ⟨e3, e4⟩ := new_some e
            exact old b o (fun z => by rw [z, hA] at e3; cases e3) (s1.free e3) e4
  · rintro D H2 hD ⟨s1, acc, hA, al, hdd⟩
    have full : (elemsD d).take xs.length = elemsD d := List.take_of_length_le (by rw [ln]; exact Nat.le_refl _)
    rw [full] at hdd
    exact q H2 D s1 hD (.lst (by rw [new_at hD]; exact hA) (hdd.mono hid_same))
theorem twice_all (T : Txt K mg) (O_l_twice : Own K mg "_law_twice" s_l_twice f_l_twice fd_l_twice ["_law_line"]) : ∀ m, FnOk P w K mg base CX0 (m + 1) f_l_twice fd_l_twice ["_law_line"] (spTw m)
  | 0 => by
    have no : ∀ vs H Q E, ¬ spTw 0 vs H Q E := fun vs H Q E h => by
      obtain ⟨x, d, _, _, _, h0, _⟩ := h
      exact absurd h0 (Nat.not_lt_zero _)
    exact ⟨fun vs H Q E h => absurd h (no vs H Q E), fun A outer s H args us vs Q E _ _ _ _ h => absurd h (no vs H Q E)⟩
  | m + 1 => twice_step T O_l_twice (twice_all T O_l_twice m)
end
end K02

set_option Elab.async false
set_option linter.all false
set_option maxRecDepth 100000
set_option maxHeartbeats 4000000
set_option exponentiation.threshold 20000
namespace MC
open PySem PySem.Spec L2
open PyProof.Rows hiding St
mutual
theorem twR_size : ∀ d : PyData, wD (twR d) = wD d ∧ (twR d).depth = d.depth
  | .none => ⟨rfl, rfl⟩
  | .bool _ => ⟨rfl, rfl⟩
  | .int _ => ⟨rfl, rfl⟩
  | .str _ => ⟨rfl, rfl⟩
  | .dict _ => ⟨rfl, rfl⟩
  | .list xs => by
    obtain ⟨h1, h2⟩ := twPs_size xs
    refine ⟨?_, ?_⟩
    · simp only [twR, wD, h1]
    · simp only [twR, PyData.depth, h2]
  | .tuple xs => by
    obtain ⟨h1, h2⟩ := twPs_size xs
    refine ⟨?_, ?_⟩
    · simp only [twR, wD, h1]
    · simp only [twR, PyData.depth, h2]
theorem twP_size : ∀ d : PyData, wD (twP d) = wD d ∧ (twP d).depth = d.depth
  | .none => ⟨rfl, rfl⟩
  | .bool _ => ⟨rfl, rfl⟩
  | .int _ => ⟨rfl, rfl⟩
  | .str _ => ⟨rfl, rfl⟩
  | .dict _ => ⟨rfl, rfl⟩
  | .list xs => ⟨rfl, rfl⟩
  | .tuple [] => ⟨rfl, rfl⟩
  | .tuple [_] => ⟨rfl, rfl⟩
  | .tuple [r, .int t] => by
    obtain ⟨h1, h2⟩ := twR_size r
    refine ⟨?_, ?_⟩
    · simp only [twP, wD, wDs, h1]
    · simp only [twP, PyData.depth, PyData.depthAll, h2]
  | .tuple [r, .none] => ⟨rfl, rfl⟩
  | .tuple [r, .bool _] => ⟨rfl, rfl⟩
  | .tuple [r, .str _] => ⟨rfl, rfl⟩
  | .tuple [r, .list _] => ⟨rfl, rfl⟩
  | .tuple [r, .tuple _] => ⟨rfl, rfl⟩
  | .tuple [r, .dict _] => ⟨rfl, rfl⟩
  | .tuple (a :: b :: c :: l) => by cases b <;> exact ⟨rfl, rfl⟩
theorem twPs_size : ∀ xs : List PyData, wDs (twPs xs) = wDs xs ∧ PyData.depthAll (twPs xs) = PyData.depthAll xs
  | [] => ⟨rfl, rfl⟩
  | x :: xs => by
    obtain ⟨h1, h2⟩ := twP_size x
    obtain ⟨k1, k2⟩ := twPs_size xs
    refine ⟨?_, ?_⟩
    · simp only [twPs, wDs, h1, k1]
    · simp only [twPs, PyData.depthAll, h2, k2]
end
/-! what is told: its text fits -/
def toldD (F L : List Str) (C : List (Str × Int)) : PyData := .list [.list (F.map PyData.str), .list (L.map PyData.str), .dict (dctD C)]
theorem thing_str {z : Str} (h : isThingS z = true) : (PyData.str z).leavesShort 300 = true ∧ z.cps.size ≤ 8 := by
  have := okS h
  simp only [okD, Bool.and_eq_true] at this
  refine ⟨by simp only [PyData.leavesShort]; exact this.2, ?_⟩
  unfold isThingS at h
  simp only [Bool.and_eq_true, decide_eq_true_eq] at h
  exact h.1.2
theorem strs_text {F : List Str} (h : ∀ z ∈ F, isThingS z = true) (hl : F.length ≤ 420) : (PyData.list (F.map PyData.str)).shown.length ≤ 10 ^ 7 / 4 ∧ PyData.showableAll (F.map PyData.str) = true ∧ PyData.depthAll (F.map PyData.str) = 0 := by
  have h1 : ∀ l : List Str, (∀ z ∈ l, isThingS z = true) → PyData.leavesShortAll 300 (l.map PyData.str) = true ∧ PyData.weightAll (l.map PyData.str) ≤ 9 * l.length ∧ PyData.showableAll (l.map PyData.str) = true ∧ PyData.depthAll (l.map PyData.str) = 0 := by
    intro l
    induction l with
    | nil => intro _; exact ⟨rfl, Nat.le_refl _, rfl, rfl⟩
    | cons z l ih =>
      intro h
      obtain ⟨a, b⟩ := thing_str (h z (by simp))
      obtain ⟨i1, i2, i3, i4⟩ := ih fun y hy => h y (by simp [hy])
      refine ⟨?_, ?_, ?_, ?_⟩
      · simp only [List.map_cons, PyData.leavesShortAll, a, i1, Bool.and_self]
      · simp only [List.map_cons, PyData.weightAll, PyData.weight, List.length_cons]; omega
      · simp only [List.map_cons, PyData.showableAll, PyData.showable, i3, Bool.and_self]
      · simp only [List.map_cons, PyData.depthAll, PyData.depth, i4]; rfl
  obtain ⟨a, b, c, e⟩ := h1 F h
  refine ⟨?_, c, e⟩
  have s := PyData.shown_le 300 (by decide) (.list (F.map PyData.str)) (by simp only [PyData.leavesShort]; exact a)
  simp only [PyData.weight] at s
  omega
theorem dct_text {C : List (Str × Int)} (h : ∀ p ∈ C, isThingS p.1 = true ∧ p.2.natAbs < 2 ^ 960) (hl : C.length ≤ 420) : (PyData.dict (dctD C)).shown.length ≤ 10 ^ 7 / 4 ∧ PyData.showableKv (dctD C) = true ∧ PyData.depthKv (dctD C) = 0 := by
  have h1 : ∀ l : List (Str × Int), (∀ p ∈ l, isThingS p.1 = true ∧ p.2.natAbs < 2 ^ 960) → ((PyData.shownKv (dctD l)).map (·.length)).sum ≤ 4000 * l.length ∧ PyData.showableKv (dctD l) = true ∧ PyData.depthKv (dctD l) = 0 := by
    intro l
    induction l with
    | nil => intro _; exact ⟨Nat.le_refl _, rfl, rfl⟩
    | cons p l ih =>
      intro h
      obtain ⟨z, i⟩ := p
      obtain ⟨hz, hi⟩ := h (z, i) (by simp)
      have hz : isThingS z = true := hz
      have hi : i.natAbs < 2 ^ 960 := hi
      obtain ⟨a, b⟩ := thing_str hz
      obtain ⟨i1, i3, i4⟩ := ih fun y hy => h y (by simp [hy])
      have hi2 : i.natAbs < 10 ^ 290 := Nat.lt_of_lt_of_le hi (by decide)
      have s1 := PyData.shown_le 300 (by decide) (.str z) a
      simp only [PyData.weight] at s1
      have s2 : (PyData.shown (.int i)).length ≤ 300 := by
        have e := int_text_length_le10 (k := 290) (by decide) hi2
        show (Str.ofString (toString i)).length ≤ 300
        rw [PySem.ofString_length]
        exact Nat.le_trans e (by decide)
      refine ⟨?_, ?_, ?_⟩
      · show ((PyData.shown (.str z) ++ ": " ++ PyData.shown (.int i)).length + ((PyData.shownKv (dctD l)).map (·.length)).sum) ≤ 4000 * (l.length + 1)
        rw [PySem.strLen_append, PySem.strLen_append]
        have : (Str.ofString ": ").length = 2 := by decide +kernel
        rw [this]
        omega
      · show (PyData.showable (.str z) && PyData.showable (.int i) && PyData.showableKv (dctD l)) = true
        rw [i3]
        have : PyData.showable (.int i) = true := by
          simp only [PyData.showable, decide_eq_true_eq]
          exact PySem.Spec.log2_small (Nat.lt_of_lt_of_le hi (by decide))
        rw [this]
        rfl
      · show max (max (PyData.depth (.str z)) (PyData.depth (.int i))) (PyData.depthKv (dctD l)) = 0
        rw [i4]; rfl
  obtain ⟨a, c, e⟩ := h1 C h
  refine ⟨?_, c, e⟩
  have s := PySem.dictText_len_le (PyData.shownKv (dctD C))
  have l := PyData.shownKv_length (dctD C)
  have l2 : (dctD C).length = C.length := by simp [dctD]
  show (dictText (PyData.shownKv (dctD C))).length ≤ _
  omega
theorem told_fits {F L : List Str} {C : List (Str × Int)} (hF : ∀ z ∈ F, isThingS z = true) (lF : F.length ≤ 420) (hL : ∀ z ∈ L, isThingS z = true) (lL : L.length ≤ 420) (hC : ∀ p ∈ C, isThingS p.1 = true ∧ p.2.natAbs < 2 ^ 960) (lC : C.length ≤ 420) :
    (toldD F L C).showable = true ∧ (toldD F L C).depth ≤ 100 ∧ (toldD F L C).shown.length ≤ sizeLine := by
  obtain ⟨a1, a2, a3⟩ := strs_text hF lF
  obtain ⟨b1, b2, b3⟩ := strs_text hL lL
  obtain ⟨c1, c2, c3⟩ := dct_text hC lC
  refine ⟨?_, ?_, ?_⟩
  · simp only [toldD, PyData.showable, PyData.showableAll, a2, b2, c2]; rfl
  · simp only [toldD, PyData.depth, PyData.depthAll, a3, b3, c3]; decide
  · have s := PySem.listText_len_le (PyData.shownAll [.list (F.map PyData.str), .list (L.map PyData.str), .dict (dctD C)])
    simp only [PyData.shownAll, List.map_cons, List.map_nil, List.sum_cons, List.sum_nil, List.length_cons, List.length_nil] at s
    show (listText (PyData.shownAll [.list (F.map PyData.str), .list (L.map PyData.str), .dict (dctD C)])).length ≤ sizeLine
    rw [PySem.sizeLine_eq]
    simp only [PyData.shownAll]
    omega
theorem cnt_bits9 {d : PyData} (h : rowD d = true) (hw : wD d ≤ 420) (hd : d.depth ≤ 9) (z : Str) : (cntR d z).natAbs < 2 ^ 960 := by
  have h1 := cntR_le h z
  obtain ⟨_, _, h2⟩ := manyR_bound d h
  have h3 := Int.le_trans h2 (Bd_mono hw hd)
  have h4 : (manyR d).natAbs ≤ 420 * 2 ^ (100 * 9) := by
    unfold Bd at h3
    omega
  have h5 : 420 * 2 ^ (100 * 9) < 2 ^ 960 := by decide
  omega
theorem merge_tab (ks : List Str) (f : Str → Int) (nd : ks.Nodup) : mergeK [] (dctV (tabL ks f)) = dctV (tabL ks f) := by
  have main : ∀ (l acc : List Str), (acc ++ l).Nodup → (dctV (tabL l f)).foldl (fun a kv => putK a kv.1 kv.2) (dctV (tabL acc f)) = dctV (tabL (acc ++ l) f) := by
    intro l
    induction l with
    | nil => intro acc _; simp [tabL, dctV]
    | cons z l ih =>
      intro acc nd
      have nz : z ∉ acc := fun g => (List.nodup_append.mp nd).2.2 z g z (by simp) rfl
      show (dctV (tabL l f)).foldl (fun a kv => putK a kv.1 kv.2) (putK (dctV (tabL acc f)) (.inr z) (.int (f z))) = _
      rw [put_tab]
      have e1 : addF acc z = acc ++ [z] := by unfold addF; rw [if_neg nz]
      have e2 : tabL (acc ++ [z]) (fun y => if y = z then f z else f y) = tabL (acc ++ [z]) f := tab_congr fun y _ => by
        by_cases e : y = z
        · rw [if_pos e, e]
        · rw [if_neg e]
      rw [e1, e2, ih (acc ++ [z]) (by simpa [List.append_assoc] using nd), List.append_assoc]
      rfl
  exact main ks [] (by simpa using nd)
end MC
namespace K02
open PySem PySem.Spec L2 MC
open PyProof.Rows hiding St
def spRight : Sp := fun vs H Q _ => ∃ x d y e, vs = [x, y] ∧ DD H x d ∧ DD H y e ∧ okD d = true ∧ d.depth ≤ 12 ∧ wD d ≤ 2000 ∧ rowD d = true ∧ rowD e = true ∧ e.depth ≤ 9 ∧ wD e ≤ 420 ∧ outR d = outR e ∧ manyR (twR e) < 600 ∧ ∀ H', Same H H' → Q (.bl true) H'
section
variable {P : Program} {w : World} {K : PySem.W.Frag} {mg : Str → Option Value} {base : Heap}
variable {f_things_of f_last_of f_often f_l_twice f_l_firsts f_l_out f_l_counted f_l_right : Addr} {fd_things_of fd_last_of fd_often fd_l_twice fd_l_firsts fd_l_out fd_l_counted fd_l_right : FuncData}
theorem ok_right (T : Txt K mg) (O_things_of : Own K mg "things_of" s_things_of f_things_of fd_things_of ["row"]) (O_last_of : Own K mg "last_of" s_last_of f_last_of fd_last_of ["row"]) (O_often : Own K mg "often" s_often f_often fd_often ["row"]) (O_l_twice : Own K mg "_law_twice" s_l_twice f_l_twice fd_l_twice ["_law_line"]) (O_l_firsts : Own K mg "_law_firsts" s_l_firsts f_l_firsts fd_l_firsts ["_law_asks"]) (O_l_out : Own K mg "_law_out" s_l_out f_l_out fd_l_out ["_law_line"]) (O_l_counted : Own K mg "_law_counted" s_l_counted f_l_counted fd_l_counted ["_law_line", "_law_name"]) (O_l_right : Own K mg "_law_right" s_l_right f_l_right fd_l_right ["_law_handed", "_law_line"]) (G_things_of : FnOk P w K mg base CX0 15 f_things_of fd_things_of ["row"] (spTold gThings)) (G_last_of : FnOk P w K mg base CX0 15 f_last_of fd_last_of ["row"] (spTold gLast)) (G_often : FnOk P w K mg base CX0 15 f_often fd_often ["row"] (spTold gOften))
    (G_l_twice : FnOk P w K mg base CX0 14 f_l_twice fd_l_twice ["_law_line"] (spTw 13)) (G_l_firsts : FnOk P w K mg base CX0 1 f_l_firsts fd_l_firsts ["_law_asks"] spFirsts) (G_l_out : FnOk P w K mg base CX0 14 f_l_out fd_l_out ["_law_line"] (spOut 13)) (G_l_counted : FnOk P w K mg base CX0 14 f_l_counted fd_l_counted ["_law_line", "_law_name"] (spOf 13 rowD cntR)) :
    FnA Clean P w K mg base CX0 16 f_l_right fd_l_right ["_law_handed", "_law_line"] spRight := by
  refine FunA.ok O_l_right.F sc_l_right (fun vs H Q E h => by obtain ⟨x, d, y, e, rfl, _⟩ := h; rfl) (fun cdv A outer s H vs Q E hg0 hr h => ?_)
  obtain ⟨x, d, y, e, rfl, hd, he, hok, hdp, hwd, hrow, hrowE, hdpE, hwdE, hout, hmy, q⟩ := h
  have hg : (A.deeper (envOfC "_law_right" (defScope s_l_right) s.heap.objs.size f_l_right cdv)).guards = some [] := hg0
  have hu1 : (A.deeper (envOfC "_law_right" (defScope s_l_right) s.heap.objs.size f_l_right cdv)).units + 200 < cLine := by have := hr.un; omega
  have hu : (A.deeper (envOfC "_law_right" (defScope s_l_right) s.heap.objs.size f_l_right cdv)).units + 1 < cLine := by omega
  have hn : ∃ o, K.lookup sysModules = some o := T.sys
  refine ⟨_, (pss_cons (ps_set (i := 2) sc_l_right.nd rfl (Or.inl rfl) (pe_call G_l_out (hr.mono (by omega)) rfl O_l_out.m O_l_out.F.kp O_l_out.b .nil pass0 (pa_cons (pe_call G_l_twice (hr.mono (by omega)) rfl O_l_twice.m O_l_twice.F.kp O_l_twice.b .nil pass0 (pa_cons (pv 1) pa_nil)) pa_nil)))
    (pss_cons (ps_set (i := 3) sc_l_right.nd rfl (Or.inl rfl) (pe_call G_l_firsts (hr.mono (by omega)) rfl O_l_firsts.m O_l_firsts.F.kp O_l_firsts.b .nil pass0 (pa_cons (pv 2) pa_nil)))
    (pss_cons (ps_set (i := 4) sc_l_right.nd rfl (Or.inl rfl) (pe_lst (pa_cons (pv 3) (pa_cons (pe_call G_l_firsts (hr.mono (by omega)) rfl O_l_firsts.m O_l_firsts.F.kp O_l_firsts.b .nil pass0 (pa_cons (pe_revX (pv 2)) pa_nil)) pa_nil))))
    (pss_cons (ps_expr (k_bm (K := K) rfl (pe_bm PySem.F.plainAttrs_list PySem.F.slot_list_append PySem.F.type_list_append mt_append (pv 4) (pa_cons (pe_callTy (call_dictP rfl) (by rfl) T.n_dict (by decide +kernel) (pa_cons (pe_lc (own := [("_law_name", 7)]) rfl sc_l_right.nd (k_list (K := K) rfl (pv 3)) (blkOk_by (own := [("_law_name", 7)]) (N := ["_law_handed", "_law_line", "_law_asks", "_law_firsts_here", "_law_due", "_law_again", "_law_told", "_law_name"]) (sc := defScope s_l_right) (by decide +kernel)) (fun _ _ _ _ _ => (pg_name (i := 7) sc_l_right.nd rfl (Or.inl rfl))) (fun _ _ _ _ _ => pts_nil) (fun _ _ _ _ _ => (pe_tup (pa_cons (pv 7) (pa_cons (pe_call G_l_counted (hr.mono (by omega)) rfl O_l_counted.m O_l_counted.F.kp O_l_counted.b .nil pass0 (pa_cons (pv 1) (pa_cons (pv 7) pa_nil))) pa_nil))))) pa_nil)) pa_nil))))
    (pss_cons (ps_for PassesOwn.never rfl (pi_range1 (by rfl) T.n_range (pa_cons pe_int pa_nil)) (pg_name (i := 5) sc_l_right.nd rfl (Or.inl rfl))
    (pss_cons (ps_set (i := 6) sc_l_right.nd rfl (Or.inl rfl) (pe_lst (pa_cons (pe_call G_things_of (hr.mono (by omega)) rfl O_things_of.m O_things_of.F.kp O_things_of.b .nil pass0 (pa_cons (pv 0) pa_nil)) (pa_cons (pe_call G_last_of (hr.mono (by omega)) rfl O_last_of.m O_last_of.F.kp O_last_of.b .nil pass0 (pa_cons (pv 0) pa_nil)) (pa_cons (pe_call G_often (hr.mono (by omega)) rfl O_often.m O_often.F.kp O_often.b .nil pass0 (pa_cons (pv 0) pa_nil)) pa_nil)))))
    (pss_cons (ps_if (pt_cmpR op_ne (pe_callB (call_reprE hg hu1 hn) (by rfl) T.n_repr (by decide +kernel) (pa_cons (pv 6) pa_nil)) (pe_callB (call_reprE hg hu1 hn) (by rfl) T.n_repr (by decide +kernel) (pa_cons (pv 4) pa_nil)) (nomark _))
    (pss_one (ps_ret pe_bl))
    pss_nil)
    (pss_cons (ps_expr (k_bm0 (K := K) rfl (pe_bm0 PySem.F.plainAttrs_list PySem.F.slot_list_reverse PySem.F.type_list_reverse mt_reverse (pe_ix (k_ix_list (K := K) rfl) (pv 6) pe_int (fun _ _ => rfl)))))
    (pss_cons (ps_expr (k_bm (K := K) rfl (pe_bm PySem.F.plainAttrs_list PySem.F.slot_list_append PySem.F.type_list_append mt_append (pe_ix (k_ix_list (K := K) rfl) (pv 6) pe_int (fun _ _ => rfl)) (pa_cons pe_str pa_nil))))
    (pss_one (ps_dput hu (pe_ix (k_ix_list (K := K) rfl) (pv 6) pe_int (fun _ _ => rfl)) pe_str pe_int rfl)))))))
    (pss_one (ps_ret pe_bl))))))), ?_⟩
  obtain ⟨⟨al1, al2⟩, rowT, _⟩ := twR_al e hrowE
  obtain ⟨wT, dpT⟩ := twR_size e
  have lenT := (outR_get (twR e) rowT).1
  have oT : (outR (twR e)).length ≤ 4000 := by omega
  have fE := firstsR_len e hrowE
  -- asks
  refine ⟨_, rfl, y, e, rfl, he, hrowE, by omega, by omega, fun H1 p1 s1 p10 hp1 => ⟨.ref p1, twR e, rfl, hp1.mono new_same, rowT, by omega, by omega, by omega, by omega, fun H2 p2 s2 p20 hp2 => ?_⟩⟩
  have s12 := s1.trans s2
  -- firsts
  refine ⟨_, rfl, p2, outR (twR e), rfl, .inl hp2, oT, fun H3 p3 s3 p30 hp3 => ?_⟩
  rw [al1] at hp3
  -- due
  refine ⟨_, rfl, _, rfl, p2, _, rfl, .inl (s3 _ _ hp2), fun b H4 s4 hb => ⟨b, (outR (twR e)).reverse, rfl, by rw [List.map_reverse]; exact hb, by rw [List.length_reverse]; exact oT, fun H5 p5 s5 p50 hp5 => ⟨(by show 2 ≤ sizeLine; decide), fun du hdu => ?_⟩⟩⟩
  rw [al2] at hp5
  have s35 := s4.trans s5
  have hp3' := s35 _ _ hp3
  have sdu := same_new hdu (.lst [.ref p3, .ref p5])
  have hdu' : upd H5 du (.lst [.ref p3, .ref p5]) du = some (.lst [.ref p3, .ref p5]) := upd_same
  have sAll := (s12.trans s3).trans (s35.trans sdu)
  have p3b := sdu _ _ hp3'
  have p5b := sdu _ _ hp5
  have duH : H du = none := ((s12.trans s3).trans s35).free hdu
  generalize upd H5 du (.lst [.ref p3, .ref p5]) = H6 at hdu' sAll p3b p5b
  -- the table
  refine ⟨_, rfl, .inl ⟨rfl, _, SqL.of hdu'⟩, ?_⟩
  refine ⟨_, rfl, p3, rfl, ⟨_, SqL.of p3b⟩, fun D hD => lc_list (K := K) (a := p3) (xs := (firstsL (outR e)).map V.str) (fun i H' => Same H6 H' ∧ ∃ ps : List Addr, H' D = some (.lst (ps.map V.ref)) ∧ ps.length = i ∧
      Paired (fun p kv => p ≠ D ∧ H' p = some (.tup [kV kv.1, kv.2])) ps (dctV (tabL ((firstsL (outR e)).take i) (cntR e)))) ⟨same_new hD _, [], upd_same, rfl, .nil⟩ (fun i H' _ z => SqL.of (z.1 _ _ p3b)) ?_ ?_⟩
  · rintro i xk H7 hi ⟨s7, ps, hps, lps, pr⟩
    rw [List.getElem?_map] at hi
    cases ez : (firstsL (outR e))[i]? with
    | none => rw [ez] at hi; cases hi
    | some z =>
      rw [ez] at hi
      cases hi
      have il := (List.getElem?_eq_some_iff.mp ez).1
      refine ⟨rfl, ?_⟩
      refine ⟨_, rfl, _, rfl, _, rfl, y, e, z, rfl, he.mono (sAll.trans s7), hrowE, by omega, by omega, by omega, fun H8 s8 => ⟨(by show 2 ≤ sizeLine; decide), fun tp htp => ?_⟩⟩
      have st := same_new htp (.tup [.str z, .int (cntR e z)])
      have hps8 := st _ _ (s8 _ _ hps)
      have tD : tp ≠ D := fun z => by rw [z, s8 _ _ hps] at htp; cases htp
      refine ⟨_, hps8, ?_, same_mut (s7.trans (s8.trans st)) hD _, ps ++ [tp], by rw [upd_same, List.map_append]; rfl, by rw [List.length_append, lps]; rfl, ?_⟩
      · rw [List.length_map]; exact Nat.lt_of_le_of_lt (show _ ≤ 420 by omega) (by decide)
      · have tk : dctV (tabL ((firstsL (outR e)).take (i + 1)) (cntR e)) = dctV (tabL ((firstsL (outR e)).take i) (cntR e)) ++ [(Sum.inr z, V.int (cntR e z))] := by
          rw [take_more ez]; simp [tabL, dctV]
        rw [tk]
        exact Paired.snoc (Paired.mono (fun p kv h => ⟨h.1, by rw [upd_ne h.1]; exact (s8.trans st) _ _ h.2⟩) pr) ⟨tD, by rw [upd_ne tD, upd_same]; rfl⟩
  rintro H7 ⟨s7, ps, hps, lps, pr⟩
  have full : (firstsL (outR e)).take ((firstsL (outR e)).map V.str).length = firstsL (outR e) := List.take_of_length_le (by simp)
  rw [full] at pr
  refine ⟨D, ps, _, rfl, SqL.of hps, Paired.mono (fun p kv h => SqT.of h.2) pr, fun dp hdq => ?_⟩
  rw [merge_tab _ _ (firstsL_nodup _)]
  have eC : tabL (firstsL (outR e)) (cntR e) = cntsL (outR e) := rfl
  rw [eC]
  have sdp := same_new hdq (.dK (dctV (cntsL (outR e))))
  have hdp' : upd H7 dp (.dK (dctV (cntsL (outR e)))) dp = some (.dK (dctV (cntsL (outR e)))) := upd_same
  have sAll2 := sAll.trans (s7.trans sdp)
  have hdu2 := sdp _ _ (s7 _ _ hdu')
  have p3c := sdp _ _ (s7 _ _ p3b)
  have p5c := sdp _ _ (s7 _ _ p5b)
  generalize upd H7 dp (.dK (dctV (cntsL (outR e)))) = H8 at hdp' sAll2 hdu2 p3c p5c
  refine ⟨du, _, _, rfl, rfl, hdu2, (by show 2 < sizeLine; decide), ?_⟩
  have sB : Same H (upd H8 du (.lst ([.ref p3, .ref p5] ++ [.ref dp]))) := same_mut sAll2 duH _
  have hduB : upd H8 du (.lst ([.ref p3, .ref p5] ++ [.ref dp])) du = some (.lst [.ref p3, .ref p5, .ref dp]) := upd_same
  have p3d : upd H8 du (.lst ([.ref p3, .ref p5] ++ [.ref dp])) p3 = some (.lst ((firstsL (outR e)).map V.str)) := by rw [upd_ne (fun z => by rw [z, hdu2] at p3c; injection p3c with p3c; injection p3c with p3c; exact absurd (congrArg (fun l => l.head?) p3c) (by cases firstsL (outR e) <;> simp))]; exact p3c
  have p5d : upd H8 du (.lst ([.ref p3, .ref p5] ++ [.ref dp])) p5 = some (.lst ((firstsL (outR e).reverse).map V.str)) := by rw [upd_ne (fun z => by rw [z, hdu2] at p5c; injection p5c with p5c; injection p5c with p5c; exact absurd (congrArg (fun l => l.head?) p5c) (by cases firstsL (outR e).reverse <;> simp))]; exact p5c
  have dpd : upd H8 du (.lst ([.ref p3, .ref p5] ++ [.ref dp])) dp = some (.dK (dctV (cntsL (outR e)))) := by rw [upd_ne (fun z => by rw [z, hdu2] at hdp'; cases hdp')]; exact hdp'
  generalize upd H8 du (.lst ([.ref p3, .ref p5] ++ [.ref dp])) = HB at sB hduB p3d p5d dpd
  -- what is due, as data
  have lR : (firstsL (outR e).reverse).length ≤ 420 := by
    have e1 := firstsRev_len (xs := elemsD e) (by rw [← rowD_elems (rowD_is hrowE)]; exact hrowE) (elemsD e).length
    rw [List.take_of_length_le (by simp), revO_rev, ← outR_elems (rowD_is hrowE)] at e1
    have := wD_elems e
    omega
  have thE := List.all_eq_true.mp (outR_things e hrowE)
  obtain ⟨sh1, sh2, sh3⟩ := told_fits (F := firstsL (outR e)) (L := firstsL (outR e).reverse) (C := cntsL (outR e)) (fun z hz => thE z ((mem_firstsL z _).mp hz)) (by omega) (fun z hz => thE z (by simpa using (mem_firstsL z _).mp hz)) lR
    (fun p hp => by
      unfold cntsL tabL at hp
      obtain ⟨z, hz, rfl⟩ := List.mem_map.mp hp
      exact ⟨thE z ((mem_firstsL z _).mp hz), cnt_bits9 hrowE hwdE hdpE z⟩) (by unfold cntsL tabL; rw [List.length_map]; omega)
  have strsD : ∀ {H' : Hp} (l : List Str), DDs H' (l.map V.str) (l.map PyData.str) := fun {H'} l => by
    induction l with
    | nil => exact .nil
    | cons z l ih => exact .cons (.str z) ih
  have deOf : ∀ {H' : Hp} {t a1 a2 a3 : Addr}, H' t = some (.lst [.ref a1, .ref a2, .ref a3]) → H' a1 = some (.lst ((firstsL (outR e)).map V.str)) → H' a2 = some (.lst ((firstsL (outR e).reverse).map V.str)) → H' a3 = some (.dK (dctV (cntsL (outR e)))) →
      DE H' (.ref t) (toldD (firstsL (outR e)) (firstsL (outR e).reverse) (cntsL (outR e))) := fun {H' t a1 a2 a3} h0 h1 h2 h3 =>
    .lst h0 (.cons (.of (.lst h1 (strsD _))) (.cons (.of (.lst h2 (strsD _))) (.cons (.dct h3) .nil)))
  -- two rounds
  refine ⟨_, rfl, by decide, by decide, for_range (lo := 0) (n := 2) (fun i σ H' => ∃ (t5 t6 t7 : Option V), σ = [some x, some y, some (.ref p2), some (.ref p3), some (.ref du), t5, t6, t7] ∧ Same HB H') ⟨_, _, _, rfl, Same.refl _⟩ ?_ ?_⟩
  · rintro i σ H9 hi ⟨t5, t6, t7, rfl, s9⟩
    have hd9 := hd.mono (sB.trans s9)
    refine ⟨_, rfl, x, d, rfl, hd9, hok, hdp, hwd, hrow, fun Ha a1 sa a10 ha1 => ⟨_, rfl, x, d, rfl, hd9.mono sa, hok, hdp, hwd, hrow, fun Hb a2 sb a20 ha2 => ⟨_, rfl, x, d, rfl, hd9.mono (sa.trans sb), hok, hdp, hwd, hrow, fun Hc a3 sc a30 ha3 => ⟨(by show 3 ≤ sizeLine; decide), fun tl htl => ?_⟩⟩⟩⟩
    unfold gThings at ha1
    unfold gLast at ha2
    unfold gOften at ha3
    rw [hout] at ha1 ha2 ha3
    have stl := same_new htl (.lst [.ref a1, .ref a2, .ref a3])
    have htl' : upd Hc tl (.lst [.ref a1, .ref a2, .ref a3]) tl = some (.lst [.ref a1, .ref a2, .ref a3]) := upd_same
    have h1 := stl _ _ (sc _ _ (sb _ _ ha1))
    have h2 := stl _ _ (sc _ _ ha2)
    have h3 := stl _ _ ha3
    have sT := ((sa.trans sb).trans sc).trans stl
    have a1B : HB a1 = none := s9.free a10
    have a2B : HB a2 = none := (s9.trans sa).free a20
    have a3B : HB a3 = none := (s9.trans (sa.trans sb)).free a30
    have s9T := s9.trans sT
    generalize upd Hc tl (.lst [.ref a1, .ref a2, .ref a3]) = Hd at htl' h1 h2 h3 sT s9T
    refine ⟨_, rfl, tl, _, rfl, deOf htl' h1 h2 h3, sh1, sh2, sh3, ?_⟩
    refine ⟨_, rfl, du, _, rfl, deOf (s9T _ _ hduB) (s9T _ _ p3d) (s9T _ _ p5d) (s9T _ _ dpd), sh1, sh2, sh3, rfl, _, rfl, ?_⟩
    refine ite2 (fun z => absurd z (by simp)) (fun _ => ?_)
    refine ⟨_, rfl, _, _, _, _, rfl, rfl, SqL.of htl', atI_nat (j := 0) rfl, .inl ⟨rfl, _, SqL.of h1⟩, a1, _, rfl, rfl, h1, ?_⟩
    have n1t : a1 ≠ tl := fun z => by rw [z] at ha1; rw [(sb.trans sc) _ _ ha1] at htl; cases htl
    have n2t : a2 ≠ tl := fun z => by rw [z] at ha2; rw [sc _ _ ha2] at htl; cases htl
    have n12 : a1 ≠ a2 := fun z => by rw [← z, ha1] at a20; cases a20
    have n13 : a3 ≠ a1 := fun z => by rw [z, h1] at h3; cases h3
    have n23 : a3 ≠ a2 := fun z => by rw [z, h2] at h3; cases h3
    have lF : (firstsL (outR e)).length ≤ 420 := by omega
    have q1 : upd Hd a1 (.lst ((firstsL (outR e)).map V.str).reverse) tl = some (.lst [.ref a1, .ref a2, .ref a3]) := by rw [upd_ne n1t.symm]; exact htl'
    have q2 : upd Hd a1 (.lst ((firstsL (outR e)).map V.str).reverse) a2 = some (.lst ((firstsL (outR e).reverse).map V.str)) := by rw [upd_ne n12.symm]; exact h2
    have q3 : upd Hd a1 (.lst ((firstsL (outR e)).map V.str).reverse) a3 = some (.dK (dctV (cntsL (outR e)))) := by rw [upd_ne n13]; exact h3
    refine ⟨_, rfl, _, _, _, _, rfl, rfl, SqL.of q1, atI_nat (j := 1) rfl, .inl ⟨rfl, _, SqL.of q2⟩, a2, _, _, rfl, rfl, q2, ?_, ?_⟩
    · rw [List.length_map]; exact Nat.lt_of_le_of_lt lR (by decide)
    have q4 := upd_ne (H := upd Hd a1 (.lst ((firstsL (outR e)).map V.str).reverse)) (a := a2) (o := .lst ((firstsL (outR e).reverse).map V.str ++ [.str "more"])) n2t.symm
    rw [q1] at q4
    have q5 := upd_ne (H := upd Hd a1 (.lst ((firstsL (outR e)).map V.str).reverse)) (a := a2) (o := .lst ((firstsL (outR e).reverse).map V.str ++ [.str "more"])) n23
    rw [q3] at q5
    refine ⟨_, rfl, _, _, _, _, rfl, rfl, SqL.of q4, atI_nat (j := 2) rfl, a3, _, rfl, DPut.k (k := Sum.inr "more") q5 ?_, ?_⟩
    · rw [cnts_len]; exact Nat.lt_of_le_of_lt lF (by decide)
    exact ⟨_, _, _, rfl, same_mut (same_mut (same_mut s9T a1B _) a2B _) a3B _⟩
  · rintro σ H9 ⟨t5, t6, t7, rfl, s9⟩
    exact q H9 (sB.trans s9)
end
end K02

set_option Elab.async false
set_option linter.all false
set_option maxRecDepth 100000
set_option maxHeartbeats 4000000
set_option exponentiation.threshold 20000
namespace MC
open PySem PySem.Spec L2
theorem sqL_more {K : PySem.W.Frag} {H H' : Hp} {a : Addr} {xs : List V} (e : Same H H') (h : SqL K H a xs) : SqL K H' a xs := by
  rcases h with (h | ⟨o, h⟩) | h
  · exact SqL.of (e _ _ h)
  · exact .inl (.inr ⟨o, e _ _ h⟩)
  · exact .inr h
theorem new_hid {S : List Addr} {H H' : Hp} (hS : ∀ a ∈ S, H a ≠ none) : Same (New H H') (Hid S H') := fun b o h => by
  obtain ⟨h1, h2⟩ := new_some h
  rw [hid_out (fun z => hS b z h1)]; exact h2

theorem good_in {B : Int} : ∀ (m : Nat) (ds : List PyData), wDs ds ≤ m → lineL B ds = true → ∀ z ∈ outPs ds, z ≠ lastS := by
  intro m
  induction m with
  | zero =>
    intro ds hn h
    cases ds with
    | nil => intro z hz; simp [outPs] at hz
    | cons x xs => have := wD_pos x; simp only [wDs] at hn; omega
  | succ m ih =>
    intro ds
    induction ds with
    | nil => intro _ _ z hz; simp [outPs] at hz
    | cons x xs ihx =>
      intro hn h
      simp only [lineL, Bool.and_eq_true] at h
      have px := wD_pos x
      simp only [wDs] at hn
      intro z hz
      simp only [outPs, List.mem_append] at hz
      rcases hz with hz | hz
      · have h1 := h.1
        unfold lineP at h1
        split at h1
        · rename_i y
          have : z = y := by simpa [outP] using hz
          rw [this]
          exact goodS_ne h1
        · rename_i ys t
          simp only [Bool.and_eq_true, decide_eq_true_eq] at h1
          obtain ⟨l, hl, hz2⟩ := List.mem_flatten.mp (show z ∈ (List.replicate t.toNat (outPs ys)).flatten from hz)
          rw [(List.mem_replicate.mp hl).2] at hz2
          exact ih ys (by simp only [wD, wDs] at hn; omega) h1.2 z hz2
        · cases h1
      · exact ihx (by omega) h.2 z hz
theorem firsts_head (z : Str) (l : List Str) : ∃ r, firstsL (z :: l) = z :: r := by
  have := firstsL_append [z] l
  rw [List.singleton_append] at this
  rw [this]
  exact ⟨_, rfl⟩
theorem firsts_new {l : List Str} {z : Str} (h : z ∉ l) : firstsL (l ++ [z]) = firstsL l ++ [z] := by
  rw [firstsL_snoc]
  unfold addF
  rw [if_neg (fun g => h ((mem_firstsL z l).mp g))]
end MC
namespace K02
open PySem PySem.Spec L2 MC
open PyProof.Rows hiding St
def spLaw (K : PySem.W.Frag) : Sp := fun vs H Q _ => ∃ (a : Addr) (ns : List Int), vs = [.ref a] ∧ SqL K H a (ns.map V.int) ∧ ns.length ≤ 63 ∧ ∀ H', Q (.bl true) H'
section
variable {P : Program} {w : World} {K : PySem.W.Frag} {mg : Str → Option Value} {base : Heap}
variable {f_things_of f_last_of f_often f_l_dice f_l_roll f_l_names f_l_row f_l_dressed f_l_many f_l_twice f_l_right f_law : Addr} {fd_things_of fd_last_of fd_often fd_l_dice fd_l_roll fd_l_names fd_l_row fd_l_dressed fd_l_many fd_l_twice fd_l_right fd_law : FuncData}
theorem ok_law (T : Txt K mg) (G_things_of : FnOk P w K mg base CX0 15 f_things_of fd_things_of ["row"] (spTold gThings)) (G_last_of : FnOk P w K mg base CX0 15 f_last_of fd_last_of ["row"] (spTold gLast)) (G_often : FnOk P w K mg base CX0 15 f_often fd_often ["row"] (spTold gOften))
    (G_l_dice : FnOk P w K mg base CX0 1 f_l_dice fd_l_dice ["_law_script"] (spDice K)) (G_l_roll : FnOk P w K mg base CX0 1 f_l_roll fd_l_roll ["_law_dice_here", "_law_many_here"] spRoll)
    (G_l_names : FnOk P w K mg base CX0 2 f_l_names fd_l_names ["_law_dice_here", "_law_many_here"] spNames) (G_l_row : FnOk P w K mg base CX0 6 f_l_row fd_l_row ["_law_dice_here", "_law_names_here", "_law_plan", "_law_layers"] (spRow 5))
    (G_l_dressed : FnOk P w K mg base CX0 6 f_l_dressed fd_l_dressed ["_law_dice_here", "_law_line"] (spDress 5)) (G_l_many : FnOk P w K mg base CX0 15 f_l_many fd_l_many ["_law_line"] (spCnt 14 rowD manyR))
    (G_l_twice : FnOk P w K mg base CX0 14 f_l_twice fd_l_twice ["_law_line"] (spTw 13)) (G_l_right : FnA Clean P w K mg base CX0 16 f_l_right fd_l_right ["_law_handed", "_law_line"] spRight)
    (O_things_of : Own K mg "things_of" s_things_of f_things_of fd_things_of ["row"]) (O_last_of : Own K mg "last_of" s_last_of f_last_of fd_last_of ["row"]) (O_often : Own K mg "often" s_often f_often fd_often ["row"]) (O_l_dice : Own K mg "_law_dice" s_l_dice f_l_dice fd_l_dice ["_law_script"]) (O_l_roll : Own K mg "_law_roll" s_l_roll f_l_roll fd_l_roll ["_law_dice_here", "_law_many_here"]) (O_l_names : Own K mg "_law_names" s_l_names f_l_names fd_l_names ["_law_dice_here", "_law_many_here"]) (O_l_row : Own K mg "_law_row" s_l_row f_l_row fd_l_row ["_law_dice_here", "_law_names_here", "_law_plan", "_law_layers"]) (O_l_dressed : Own K mg "_law_dressed" s_l_dressed f_l_dressed fd_l_dressed ["_law_dice_here", "_law_line"]) (O_l_many : Own K mg "_law_many" s_l_many f_l_many fd_l_many ["_law_line"]) (O_l_twice : Own K mg "_law_twice" s_l_twice f_l_twice fd_l_twice ["_law_line"]) (O_l_right : Own K mg "_law_right" s_l_right f_l_right fd_l_right ["_law_handed", "_law_line"]) (O_law : Own K mg "law" s_law f_law fd_law ["_law_script"]) : FnA Clean P w K mg base CX0 30 f_law fd_law ["_law_script"] (spLaw K) := by
  refine FunA.ok O_law.F sc_law (fun vs H Q E h => by obtain ⟨a, ns, rfl, _⟩ := h; rfl) (fun cdv A outer s H vs Q E hg0 hr h => ?_)
  obtain ⟨a, ns, rfl, hS, hl, q⟩ := h
  have hg : (A.deeper (envOfC "law" (defScope s_law) s.heap.objs.size f_law cdv)).guards = some [] := hg0
  have hu : (A.deeper (envOfC "law" (defScope s_law) s.heap.objs.size f_law cdv)).units + 200 < cLine := by have := hr.un; omega
  have hu1 : (A.deeper (envOfC "law" (defScope s_law) s.heap.objs.size f_law cdv)).units < cLine := by omega
  have hu2 : (A.deeper (envOfC "law" (defScope s_law) s.heap.objs.size f_law cdv)).units + 1 < cLine := by omega
  have hn : ∃ o, K.lookup sysModules = some o := T.sys
  refine ⟨_, (pss_cons (ps_set (i := 1) sc_law.nd rfl (Or.inl rfl) (pe_call G_l_dice (hr.mono (by omega)) rfl O_l_dice.m O_l_dice.F.kp O_l_dice.b .nil pass0 (pa_cons (pv 0) pa_nil)))
    (pss_cons (ps_for PassesOwn.never rfl (pi_range1 (by rfl) T.n_range (pa_cons (pe_op op_add pe_int (pe_callB (call_min2 rfl) (by rfl) T.n_min (by decide +kernel) (pa_cons pe_int (pa_cons (pe_callB (k_len_seq (K := K) rfl) (by rfl) T.n_len (by decide +kernel) (pa_cons (pv 0) pa_nil)) pa_nil)))) pa_nil)) (pg_name (i := 2) sc_law.nd rfl (Or.inl rfl))
    (pss_cons (ps_set (i := 3) sc_law.nd rfl (Or.inl rfl) (pe_call G_l_names (hr.mono (by omega)) rfl O_l_names.m O_l_names.F.kp O_l_names.b .nil pass0 (pa_cons (pv 1) (pa_cons (pe_op op_add pe_int (pe_call G_l_roll (hr.mono (by omega)) rfl O_l_roll.m O_l_roll.F.kp O_l_roll.b .nil pass0 (pa_cons (pv 1) (pa_cons (pe_ix (k_ix_list (K := K) rfl) (pe_lst (pa_cons pe_int (pa_cons pe_int pa_nil))) (pe_call G_l_roll (hr.mono (by omega)) rfl O_l_roll.m O_l_roll.F.kp O_l_roll.b .nil pass0 (pa_cons (pv 1) (pa_cons pe_int pa_nil))) (fun _ _ => rfl)) pa_nil)))) pa_nil))))
    (pss_cons (ps_set (i := 4) sc_law.nd rfl (Or.inl rfl) (pe_cmpR op_eq (pe_call G_l_roll (hr.mono (by omega)) rfl O_l_roll.m O_l_roll.F.kp O_l_roll.b .nil pass0 (pa_cons (pv 1) (pa_cons pe_int pa_nil))) pe_int (nomark _)))
    (pss_cons (ps_set (i := 5) sc_law.nd rfl (Or.inl rfl) (pe_call G_l_row (hr.mono (by omega)) rfl O_l_row.m O_l_row.F.kp O_l_row.b .nil pass0 (pa_cons (pv 1) (pa_cons (pv 3) (pa_cons (pe_ix (k_ix_list (K := K) rfl) (pe_lst (pa_cons (pe_lst (pa_cons pe_int (pa_cons pe_int pa_nil))) (pa_cons (pe_lst (pa_cons pe_int (pa_cons (pe_op op_pow pe_int pe_int) pa_nil))) pa_nil))) (pe_callTy call_int1 (by rfl) T.n_int (by decide +kernel) (pa_cons (pv 4) pa_nil)) (fun _ _ => rfl)) (pa_cons (pe_ix (k_ix_list (K := K) rfl) (pe_lst (pa_cons pe_int (pa_cons pe_int pa_nil))) (pe_callTy call_int1 (by rfl) T.n_int (by decide +kernel) (pa_cons (pv 4) pa_nil)) (fun _ _ => rfl)) pa_nil))))))
    (pss_cons (ps_set (i := 6) sc_law.nd rfl (Or.inl rfl) (pe_call G_l_dressed (hr.mono (by omega)) rfl O_l_dressed.m O_l_dressed.F.kp O_l_dressed.b .nil pass0 (pa_cons (pv 1) (pa_cons (pv 5) pa_nil))))
    (pss_cons (ps_set (i := 7) sc_law.nd rfl (Or.inl rfl) (pe_callB (call_repr hg hu hn) (by rfl) T.n_repr (by decide +kernel) (pa_cons (pv 6) pa_nil)))
    (pss_cons (ps_if (PW.pt (pw_or (PW.pt (pw_and (pt_cmpR op_lt (pe_call G_l_many (hr.mono (by omega)) rfl O_l_many.m O_l_many.F.kp O_l_many.b .nil pass0 (pa_cons (pe_call G_l_twice (hr.mono (by omega)) rfl O_l_twice.m O_l_twice.F.kp O_l_twice.b .nil pass0 (pa_cons (pv 5) pa_nil)) pa_nil)) pe_int (nomark _)) (pw_and1 (pt_not (pt_val (pe_callA hg G_l_right (hr.mono (by omega)) rfl O_l_right.m O_l_right.F.kp O_l_right.b .nil pass0 (pa_cons (pv 6) (pa_cons (pv 5) pa_nil)))))))) (pw_or1 (pt_cmpR op_ne (pe_callB (call_repr hg hu hn) (by rfl) T.n_repr (by decide +kernel) (pa_cons (pv 6) pa_nil)) (pv 7) (nomark _)))))
    (pss_one (ps_ret pe_bl))
    pss_nil)
    (pss_cons (ps_if (pt_cmpR (k_in_seq (K := K) rfl) pe_str (pe_op op_cat (pe_op op_cat (pe_call G_last_of (hr.mono (by omega)) rfl O_last_of.m O_last_of.F.kp O_last_of.b .nil pass0 (pa_cons (pv 5) pa_nil)) (pe_call G_things_of (hr.mono (by omega)) rfl O_things_of.m O_things_of.F.kp O_things_of.b .nil pass0 (pa_cons (pv 5) pa_nil))) (pe_callTy (call_listD rfl) (by rfl) T.n_list (by decide +kernel) (pa_cons (pe_call G_often (hr.mono (by omega)) rfl O_often.m O_often.F.kp O_often.b .nil pass0 (pa_cons (pv 5) pa_nil)) pa_nil))) (by rfl))
    (pss_one (ps_ret pe_bl))
    pss_nil)
    (pss_cons (ps_expr (k_bm (K := K) rfl (pe_bm PySem.F.plainAttrs_list PySem.F.slot_list_append PySem.F.type_list_append mt_append (pv 5) (pa_cons pe_str pa_nil))))
    (pss_cons (ps_if (PW.pt (pw_or (pt_cmpR op_ne (pe_ix (k_ix_list (K := K) rfl) (pe_call G_last_of (hr.mono (by omega)) rfl O_last_of.m O_last_of.F.kp O_last_of.b .nil pass0 (pa_cons (pv 5) pa_nil)) pe_int (fun _ _ => rfl)) pe_str (nomark _)) (pw_or (pt_cmpR op_ne (pe_ix (k_ix_list (K := K) rfl) (pe_call G_things_of (hr.mono (by omega)) rfl O_things_of.m O_things_of.F.kp O_things_of.b .nil pass0 (pa_cons (pv 5) pa_nil)) (pe_un un_neg pe_int) (fun _ _ => rfl)) pe_str (nomark _)) (pw_or1 (pt_cmpR op_ne (pe_dget hu2 (pe_call G_often (hr.mono (by omega)) rfl O_often.m O_often.F.kp O_often.b .nil pass0 (pa_cons (pv 5) pa_nil)) pe_str (fun _ _ => rfl)) pe_int (nomark _))))))
    (pss_one (ps_ret pe_bl))
    pss_nil)
    (pss_one (ps_if (PW.pt (pw_and (pt_val (pv 4)) (pw_and (pt_cmpR op_lt (pe_call G_l_many (hr.mono (by omega)) rfl O_l_many.m O_l_many.F.kp O_l_many.b .nil pass0 (pa_cons (pe_call G_l_twice (hr.mono (by omega)) rfl O_l_twice.m O_l_twice.F.kp O_l_twice.b .nil pass0 (pa_cons (pv 5) pa_nil)) pa_nil)) pe_int (nomark _)) (pw_and1 (pt_not (pt_val (pe_callA hg G_l_right (hr.mono (by omega)) rfl O_l_right.m O_l_right.F.kp O_l_right.b .nil pass0 (pa_cons (pv 5) (pa_cons (pv 5) pa_nil)))))))))
    (pss_one (ps_ret pe_bl))
    pss_nil))))))))))))
    (pss_one (ps_ret (pe_and (pe_cmpR (k_eqNil (K := K) rfl hu1) (pe_call G_things_of (hr.mono (by omega)) rfl O_things_of.m O_things_of.F.kp O_things_of.b .nil pass0 (pa_cons (pe_lst pa_nil) pa_nil)) (pe_lst pa_nil) (nomark _)) (pe_and (pe_cmpR (k_eqNil (K := K) rfl hu1) (pe_call G_last_of (hr.mono (by omega)) rfl O_last_of.m O_last_of.F.kp O_last_of.b .nil pass0 (pa_cons (pe_tup pa_nil) pa_nil)) (pe_lst pa_nil) (nomark _)) (pe_one (pe_cmpR (op_eq_dictA hu1) (pe_call G_often (hr.mono (by omega)) rfl O_often.m O_often.F.kp O_often.b .nil pass0 (pa_cons (pe_lst pa_nil) pa_nil)) pe_dnewK (nomark _))))))))), ?_⟩
  -- the dice
  refine ⟨_, rfl, a, ns, rfl, hS, hl, fun d d0 H1 s1 dn d0n hD => ?_⟩
  refine ⟨_, rfl, _, _, rfl, .inl (sqL_more s1 hS), _, _, rfl, _, _, rfl, rfl, _, rfl, ?_, ?_, ?_⟩
  · rw [List.length_map]; by_cases z : ((ns.length : Nat) : Int) < 7
    · rw [if_pos z]; omega
    · rw [if_neg z]; omega
  · rw [List.length_map]; by_cases z : ((ns.length : Nat) : Int) < 7
    · rw [if_pos z]; omega
    · rw [if_neg z]; omega
  have n12 : (3 + (if ((ns.map V.int).length : Int) < 7 then ((ns.map V.int).length : Int) else 7)).toNat ≤ 12 := by
    by_cases z : ((ns.map V.int).length : Int) < 7
    · rw [if_pos z]; omega
    · rw [if_neg z]; omega
  generalize (3 + (if ((ns.map V.int).length : Int) < 7 then ((ns.map V.int).length : Int) else 7)).toNat = n at n12
  refine for_range (lo := 0) (n := n) (fun i σ H' => ∃ (s2 s3 s4 s5 s6 s7 : Option V), σ = [some (.ref a), some (.ref d), s2, s3, s4, s5, s6, s7] ∧ Dice H' d d0 (i * 60000)) ⟨_, _, _, _, _, _, rfl, by simpa using hD⟩ ?_ ?_
  · rintro i σ H2 hi ⟨s2, s3, s4, s5, s6, s7, rfl, hD2⟩
    have i12 : i < 12 := by omega
    obtain ⟨nd, nd0, ndd⟩ := hD2.at
    -- the names
    refine ⟨_, rfl, _, rfl, (by show 2 ≤ sizeLine; decide), fun q0 hq0 => ⟨_, rfl, d, d0, _, 2, rfl, hD2.same (same_new hq0 _), by omega, by omega, by omega, fun r0 H2a r00 r01 c2 hD2a => ?_⟩⟩
    have q0d : q0 ≠ d := fun z => nd (z ▸ hq0)
    have q0d0 : q0 ≠ d0 := fun z => nd0 (z ▸ hq0)
    obtain ⟨k5, hk5, k51, k52⟩ : ∃ k5 : Int, atI [V.int 5, V.int 30] r0 = some (.int k5) ∧ 5 ≤ k5 ∧ k5 ≤ 30 := by
      obtain rfl | rfl : r0 = 0 ∨ r0 = 1 := by omega
      · exact ⟨5, rfl, by decide, by decide⟩
      · exact ⟨30, rfl, by decide, by decide⟩
    refine ⟨_, _, _, _, rfl, rfl, SqL.of (c2 _ _ q0d q0d0 upd_same), hk5, d, d0, _, k5, rfl, hD2a, by omega, by omega, by omega, fun r1 H3 r10 r11 c3 hD3 => ⟨_, _, rfl, rfl, d, d0, _, _, rfl, hD3, by omega, by omega, by omega, fun nm H4 ys ynl yok ynd nmn c4 hnm nnd nnd0 hD4 => ?_⟩⟩
    obtain ⟨y0, yr, rfl⟩ : ∃ y0 yr, ys = y0 :: yr := by
      cases ys with
      | nil => simp at ynl; omega
      | cons y0 yr => exact ⟨_, _, rfl⟩
    generalize hys : y0 :: yr = ys at hnm ynl yok ynd
    -- far or near
    refine ⟨_, rfl, d, d0, _, 2, rfl, hD4, by omega, by omega, by omega, fun r2 H5 r20 r21 c5 hD5 => ⟨rfl, ?_⟩⟩
    have hnm5 := c5 _ _ nnd nnd0 hnm
    generalize decide (V.int r2 = V.int 0) = b
    refine ⟨_, rfl, _, rfl, (by show 2 ≤ sizeLine; decide), fun q1 hq1 => ⟨_, _, rfl, rfl, ⟨by decide, by decide, by decide⟩, (by show 2 ≤ sizeLine; decide), fun q2 hq2 => ⟨(by show 2 ≤ sizeLine; decide), fun q3 hq3 => ⟨_, rfl, .inr ⟨_, rfl, ?_⟩⟩⟩⟩⟩
    have u1 := same_new hq1 (.lst [.int 12, .int 3])
    have u2 := u1.trans (same_new hq2 (.lst [.int 40, .int (10 ^ (30 : Int).toNat)]))
    have u3 := u2.trans (same_new hq3 (.lst [.ref q1, .ref q2]))
    have f1 := (same_new hq3 (.lst [.ref q1, .ref q2])) q1 _ ((same_new hq2 (.lst [.int 40, .int (10 ^ (30 : Int).toNat)])) q1 _ (upd_same (H := H5) (a := q1) (o := .lst [.int 12, .int 3])))
    have f2 := (same_new hq3 (.lst [.ref q1, .ref q2])) q2 _ (upd_same (H := upd H5 q1 (.lst [.int 12, .int 3])) (a := q2) (o := .lst [.int 40, .int (10 ^ (30 : Int).toNat)]))
    have f3 : upd (upd (upd H5 q1 (.lst [.int 12, .int 3])) q2 (.lst [.int 40, .int (10 ^ (30 : Int).toNat)])) q3 (.lst [.ref q1, .ref q2]) q3 = some (.lst [.ref q1, .ref q2]) := upd_same
    have q2n : H5 q2 = none := u1.free hq2
    generalize upd (upd (upd H5 q1 (.lst [.int 12, .int 3])) q2 (.lst [.int 40, .int (10 ^ (30 : Int).toNat)])) q3 (.lst [.ref q1, .ref q2]) = H6 at u3 f1 f2 f3
    have hD6 := hD5.same u3
    obtain ⟨pl, a0, B, l, pk1, pk2, pk3, pk4, pk5, pk6, pk7, pk8, pk9, pk10⟩ : ∃ (pl : Addr) (a0 B : Int) (l : Nat), atI [V.ref q1, V.ref q2] (if b = true then 1 else 0) = some (.ref pl) ∧ H6 pl = some (.lst [.int a0, .int B]) ∧
        atI [V.int 1, V.int 4] (if b = true then 1 else 0) = some (.int (l : Nat)) ∧ pl ≠ d0 ∧ 10 ≤ a0 ∧ a0 ≤ 100 ∧ 2 ≤ B ∧ B ≤ 10 ^ 30 ∧ l ≤ 4 ∧ rolls l ≤ 51840 := by
      cases b
      · exact ⟨q1, 12, 3, 1, rfl, f1, rfl, fun z => hD5.at.2.1 (by rw [← z]; exact hq1), by decide, by decide, by decide, by decide, by decide, by decide⟩
      · exact ⟨q2, 40, 10 ^ (30 : Int).toNat, 4, rfl, f2, rfl, fun z => hD5.at.2.1 (by rw [← z]; exact q2n), by decide, by decide, by decide, by decide, by decide, by decide⟩
    refine ⟨_, _, _, _, rfl, rfl, SqL.of f3, pk1, (by show 2 ≤ sizeLine; decide), fun q4 hq4 => ⟨_, rfl, .inr ⟨_, rfl, _, _, _, _, rfl, rfl, SqL.of upd_same, pk3, ?_⟩⟩⟩
    have u4 := same_new hq4 (.lst [.int 1, .int 4])
    have hD7 := hD6.same u4
    have hnm7 := u4 _ _ (u3 _ _ hnm5)
    have hpl7 := u4 _ _ pk2
    generalize upd H6 q4 (.lst [.int 1, .int 4]) = H7 at u4 hD7 hnm7 hpl7
    have hS7 : ∀ x ∈ [d, d0], H7 x ≠ none := by
      intro x hx
      simp only [List.mem_cons, List.not_mem_nil, or_false] at hx
      rcases hx with rfl | rfl
      · exact hD7.at.1
      · exact hD7.at.2.1
    -- the row in lists
    refine ⟨d, d0, nm, pl, _, l, ys, a0, B, rfl, pk4, hD7, by omega, by omega, pk9, hnm7, (by rw [← hys]; exact List.cons_ne_nil _ _), by omega, yok, hpl7, by omega, pk6, pk7, pk8, fun ln H8 ds a' u8 hD8 hpl8 a'0 a'1 hd8 line8 oks8 w8 dp8 len8 ne8 => ?_⟩
    obtain ⟨xs, hln8n, hels8⟩ := hd8
    have ln0 := (new_some hln8n).1
    have hln8 := (new_some hln8n).2
    have lnd : ln ≠ d := fun z => hD7.at.1 (by rw [← z]; exact ln0)
    have lnd0 : ln ≠ d0 := fun z => hD7.at.2.1 (by rw [← z]; exact ln0)
    have in1 : d ∈ [d, d0, ln] := by simp
    have in2 : d0 ∈ [d, d0, ln] := by simp
    have in3 : ln ∈ [d, d0, ln] := by simp
    have inS : d ∈ [d, d0] := by simp
    have in0S : d0 ∈ [d, d0] := by simp
    have less2 : ∀ {H' : Hp}, Same (Hid [d, d0, ln] H') (Hid [d, d0] H') := fun {H'} => hid_less fun x hx => by
      simp only [List.mem_cons, List.not_mem_nil, or_false] at hx ⊢
      rcases hx with rfl | rfl
      · exact .inl rfl
      · exact .inr (.inl rfl)
    have to3 : Same (Hid [ln] (New H7 H8)) (Hid [d, d0, ln] H8) := fun b o e => by
      obtain ⟨e1, e2⟩ := hid_some e
      obtain ⟨e3, e4⟩ := new_some e2
      rw [hid_out (fun z => by
        simp only [List.mem_cons, List.not_mem_nil, or_false] at z
        rcases z with rfl | rfl | rfl
        · exact hD7.at.1 e3
        · exact hD7.at.2.1 e3
        · exact e1 (by simp))]
      exact e4
    have hels := hels8.mono to3
    have dpl : PyData.depthAll ds ≤ 8 := by omega
    have wl : wDs ds ≤ 400 := by omega
    have nel : ds ≠ [] := fun z => by
      have := ne8 (by omega)
      rw [z] at this
      simp at this
    have mB : max B 5 ≤ 10 ^ 30 := by omega
    have prow : partsD ds = true := lineL_parts mB (wDs ds) ds (Nat.le_refl _) line8
    have hrow : rowD (.list ds) = true := prow
    have nNil : dNil (.list ds) = false := by cases ds with
      | nil => exact absurd rfl nel
      | cons _ _ => rfl
    have M1 := (manyR_bound (.list ds) hrow).2.1 nNil
    have okl : okD (.list ds) = true := by simp only [okD]; exact oks8
    have depl : (PyData.list ds).depth ≤ 9 := by simp only [PyData.depth]; omega
    have wdl : wD (.list ds) ≤ 401 := by simp only [wD]; omega
    have line3 : ∀ {H' : Hp}, H' ln = some (.lst xs) → DDs (Hid [d, d0, ln] H') xs ds → DD H' (.ref ln) (.list ds) := fun {H'} h1 h2 => .lst h1 (h2.mono hid_same)
    -- dressed
    refine ⟨_, rfl, _, rfl, d, d0, ln, _, _, xs, ds, rfl, hD8, by omega, lnd, lnd0, hln8, hels.mono less2, line8, by omega, oks8, by omega, fun hp H10 dd c10 hD10 hd10 kdd und => ?_⟩
    have hln10 := c10 _ _ lnd lnd0 hln8
    have hels10 := hels.mono (c10.hid (S := [d, d0, ln]) in1 in2)
    have hand : DD H10 (.ref hp) dd := hd10.mono new_same
    obtain ⟨fo, fw, fd⟩ := undR_facts dd
    obtain ⟨ua, ub, uc, ud⟩ := undR_asks dd
    have uo := undR_out dd
    rw [und] at fo fw fd ua ub uc uo
    have okh : okD dd = true := by rw [← fo]; exact okl
    have deph : dd.depth ≤ 9 := by rw [← fd]; exact depl
    have wdh : wD dd ≤ 401 := by rw [← fw]; exact wdl
    have rowh : rowD dd = true := by rw [← ua]; exact hrow
    have showh := okD_showable dd okh
    have fith := shown_fits okh (by omega)
    -- kept
    refine ⟨_, rfl, .ref hp, dd, rfl, hand, showh, by omega, fith, ?_⟩
    obtain ⟨_, rowT, _⟩ := twR_al (.list ds) hrow
    obtain ⟨wT, dpT⟩ := twR_size (.list ds)
    -- right
    refine ⟨_, rfl, .ref ln, .list ds, rfl, line3 hln10 hels10, hrow, by omega, by omega, fun H11 p11 s11' p110 hp11 => ⟨.ref p11, twR (.list ds), rfl, hp11.mono new_same, rowT, by omega, by omega, by omega, fun H12 s12' => ⟨_, _, rfl, rfl, _, rfl, ?_⟩⟩⟩
    refine ite2 (fun k1 => ?_) (fun k1 => ?_)
    · have k2 : manyR (twR (.list ds)) < 600 := by simpa using k1
      have e12 := s11'.trans s12'
      refine ⟨_, rfl, _, rfl, .ref hp, dd, .ref ln, .list ds, rfl, hand.mono e12, line3 (e12 _ _ hln10) (hels10.mono (Same.hid e12)), okh, by omega, by omega, rowh, hrow, by omega, by omega, uo.symm, k2, fun H13 e13 => ⟨_, rfl, ?_⟩⟩
      obtain ⟨H20, e20, hh⟩ : ∃ H20, Same H10 H20 ∧ H20 = H13 := ⟨H13, e12.trans e13, rfl⟩
      rw [← hh]
      have hand20 := hand.mono e20
      have hln20 := e20 _ _ hln10
      have hels20 := hels10.mono (Same.hid e20)
      have hD20 := hD10.same e20
      refine ⟨_, rfl, .ref hp, dd, rfl, hand20, showh, by omega, fith, _, rfl, rfl, _, rfl, ?_⟩
      refine ite2 (fun z => absurd z (by simp)) (fun _ => ?_)
      have lnN : lastS ∉ outPs ds := fun z => good_in (wDs ds) ds (Nat.le_refl _) line8 _ z rfl
      have lenL : (firstsL (outPs ds).reverse).length ≤ 420 := by
        have e1 := firstsRev_len (xs := ds) prow ds.length
        rw [List.take_of_length_le (by simp), revO_rev] at e1
        omega
      have lenF : (firstsL (outPs ds)).length ≤ 420 := by
        have := firstsPs_len ds prow
        omega
      have lz : (2000 : Nat) ≤ sizeLine := by decide
      refine ⟨_, rfl, .ref ln, .list ds, rfl, line3 hln20 hels20, okl, by omega, by omega, hrow, fun H21 b1 s21' b10 hb1 => ⟨_, rfl, .ref ln, .list ds, rfl, line3 (s21' _ _ hln20) (hels20.mono (Same.hid s21')), okl, by omega, by omega, hrow, fun H22 b2 s22' b20 hb2 => ?_⟩⟩
      have hb1 : H21 b1 = some (.lst ((firstsL (outPs ds).reverse).map V.str)) := hb1
      have hb2 : H22 b2 = some (.lst ((firstsL (outPs ds)).map V.str)) := hb2
      refine ⟨_, _, _, _, rfl, rfl, s22' _ _ hb1, hb2, by rw [List.length_map, List.length_map]; omega, fun b3 hb3 => ?_⟩
      have s3 := same_new hb3 (.lst ((firstsL (outPs ds).reverse).map V.str ++ (firstsL (outPs ds)).map V.str))
      have hb3' : upd H22 b3 (.lst ((firstsL (outPs ds).reverse).map V.str ++ (firstsL (outPs ds)).map V.str)) b3 = some (.lst ((firstsL (outPs ds).reverse).map V.str ++ (firstsL (outPs ds)).map V.str)) := upd_same
      have e23 := s21'.trans (s22'.trans s3)
      generalize upd H22 b3 (.lst ((firstsL (outPs ds).reverse).map V.str ++ (firstsL (outPs ds)).map V.str)) = H23 at e23 hb3'
      refine ⟨_, rfl, .ref ln, .list ds, rfl, line3 (e23 _ _ hln20) (hels20.mono (Same.hid e23)), okl, by omega, by omega, hrow, fun H24 b4 s24' b40 hb4 => ?_⟩
      have hb4 : H24 b4 = some (.dK (dctV (cntsL (outPs ds)))) := hb4
      refine ⟨b4, _, rfl, .inl hb4, fun b5 hb5 => ?_⟩
      rw [cnts_keys]
      have s5 := same_new hb5 (.lst ((firstsL (outPs ds)).map V.str))
      refine ⟨_, _, _, _, rfl, rfl, s5 _ _ (s24' _ _ hb3'), upd_same, by simp only [List.length_append, List.length_map]; omega, fun b6 hb6 => ?_⟩
      have s6 := same_new hb6 (.lst (((firstsL (outPs ds).reverse).map V.str ++ (firstsL (outPs ds)).map V.str) ++ (firstsL (outPs ds)).map V.str))
      have el : ((firstsL (outPs ds).reverse).map V.str ++ (firstsL (outPs ds)).map V.str) ++ (firstsL (outPs ds)).map V.str = (firstsL (outPs ds).reverse ++ firstsL (outPs ds) ++ firstsL (outPs ds)).map V.str := by rw [List.map_append, List.map_append]
      have e25 := e23.trans (s24'.trans (s5.trans s6))
      have hb6' : upd (upd H24 b5 (.lst ((firstsL (outPs ds)).map V.str))) b6 (.lst (((firstsL (outPs ds).reverse).map V.str ++ (firstsL (outPs ds)).map V.str) ++ (firstsL (outPs ds)).map V.str)) b6 = some (.lst ((firstsL (outPs ds).reverse ++ firstsL (outPs ds) ++ firstsL (outPs ds)).map V.str)) := by rw [upd_same, el]
      generalize upd (upd H24 b5 (.lst ((firstsL (outPs ds)).map V.str))) b6 (.lst (((firstsL (outPs ds).reverse).map V.str ++ (firstsL (outPs ds)).map V.str) ++ (firstsL (outPs ds)).map V.str)) = H25 at e25 hb6'
      refine ⟨b6, _, rfl, .inl (SqL.of hb6'), rfl, flat_strs _, _, rfl, ?_⟩
      rw [inV_strs]
      have nin : ¬ Str.ofString "last" ∈ firstsL (outPs ds).reverse ++ firstsL (outPs ds) ++ firstsL (outPs ds) := fun z => by
        simp only [List.mem_append, mem_firstsL, List.mem_reverse] at z
        rcases z with (z | z) | z <;> exact lnN z
      refine ite2 (fun z => absurd (of_decide_eq_true z) nin) (fun _ => ?_)
      -- one ask more
      have hln25 := e25 _ _ hln20
      have hels25 := hels20.mono (Same.hid e25)
      have hD25 := hD20.same e25
      have lxs := hels25.length
      have lds := len_wDs ds
      refine ⟨_, rfl, .inl ⟨rfl, _, SqL.of hln25⟩, _, _, _, rfl, rfl, hln25, by omega, ?_⟩
      have m1 : Same (Hid [d, d0, ln] H25) (Hid [d, d0, ln] (upd H25 ln (.lst (xs ++ [.str (Str.ofString "last")])))) := hid_upd (Same.refl _) in3 _
      have hD26 := hD25.upd (o := .lst (xs ++ [.str (Str.ofString "last")])) lnd lnd0
      have hln26 : upd H25 ln (.lst (xs ++ [.str (Str.ofString "last")])) ln = some (.lst (xs ++ [.str (Str.ofString "last")])) := upd_same
      have hels26 := (hels25.mono m1).mono hid_same
      have lineZ : DD (upd H25 ln (.lst (xs ++ [.str (Str.ofString "last")]))) (.ref ln) (.list (ds ++ [.str (Str.ofString "last")])) := .lst hln26 (hels26.append (.cons (.str _) .nil))
      have tl : isThingS (Str.ofString "last") = true := by decide +kernel
      have rowZ : rowD (.list (ds ++ [.str (Str.ofString "last")])) = true := by
        show partsD (ds ++ [.str (Str.ofString "last")]) = true
        rw [partsD_eq, List.all_append, ← partsD_eq, prow]
        simp [partD, tl]
      have okZ : okD (.list (ds ++ [.str (Str.ofString "last")])) = true := by
        show oksD (ds ++ [.str (Str.ofString "last")]) = true
        rw [oksD_append, oks8]
        show (true && (okD (.str (Str.ofString "last")) && true)) = true
        rw [okS tl]
        rfl
      have depZ : (PyData.list (ds ++ [.str (Str.ofString "last")])).depth ≤ 9 := by
        simp only [PyData.depth, PyData.depthAll, depthAll_append]; omega
      have wZ : wD (.list (ds ++ [.str (Str.ofString "last")])) ≤ 410 := by
        simp only [wD, wDs, wDs_append]; omega
      have outZ : outR (.list (ds ++ [.str (Str.ofString "last")])) = outPs ds ++ [Str.ofString "last"] := by
        show outPs (ds ++ [.str (Str.ofString "last")]) = _
        rw [outPs_append]; rfl
      generalize PyData.list (ds ++ [.str (Str.ofString "last")]) = dz at lineZ rowZ okZ depZ wZ outZ
      generalize upd H25 ln (.lst (xs ++ [.str (Str.ofString "last")])) = H26 at lineZ hD26
      obtain ⟨rr, hrr⟩ := firsts_head (Str.ofString "last") (outPs ds).reverse
      have lastZ : firstsL (outR dz).reverse = Str.ofString "last" :: rr := by rw [outZ, List.reverse_append]; exact hrr
      have firstZ : firstsL (outR dz) = firstsL (outPs ds) ++ [Str.ofString "last"] := by rw [outZ]; exact firsts_new lnN
      have cntZ : (outR dz).count (Str.ofString "last") = 1 := by
        have z0 : (outPs ds).count (Str.ofString "last") = 0 := List.count_eq_zero.mpr lnN
        rw [outZ, List.count_append, List.count_singleton, z0]; simp
      refine ⟨_, rfl, .ref ln, dz, rfl, lineZ, okZ, by omega, by omega, rowZ, fun H27 c1 s27 c10 hc1 => ?_⟩
      have hc1 : H27 c1 = some (.lst ((firstsL (outR dz).reverse).map V.str)) := hc1
      rw [lastZ] at hc1
      refine ⟨_, _, _, _, rfl, rfl, SqL.of hc1, atI_nat (j := 0) rfl, rfl, _, rfl, ?_⟩
      refine ite2 (fun z => absurd z (by simp)) (fun _ => ?_)
      refine ⟨_, rfl, .ref ln, dz, rfl, lineZ.mono s27, okZ, by omega, by omega, rowZ, fun H28 c2 s28 c20 hc2 => ⟨1, rfl, ?_⟩⟩
      have hc2 : H28 c2 = some (.lst ((firstsL (outR dz)).map V.str)) := hc2
      rw [firstZ, List.map_append] at hc2
      refine ⟨_, _, _, _, rfl, rfl, SqL.of hc2, atI_last _ _, rfl, _, rfl, ?_⟩
      refine ite2 (fun z => absurd z (by simp)) (fun _ => ?_)
      refine ⟨_, rfl, .ref ln, dz, rfl, lineZ.mono (s27.trans s28), okZ, by omega, by omega, rowZ, fun H29 c3 s29 c30 hc3 => ?_⟩
      have hc3 : H29 c3 = some (.dK (dctV (cntsL (outR dz)))) := hc3
      have gz : valV (dctV (cntsL (outR dz))) (Sum.inr (Str.ofString "last")) = some (.int (1 : Nat)) := by
        rw [cnts_get (by rw [firstZ]; simp), cntZ]
      refine ⟨c3, _, rfl, .inl ⟨_, Sum.inr (Str.ofString "last"), .inl hc3, rfl, gz.symm⟩, rfl, _, rfl, ?_⟩
      refine ite2 (fun z => absurd z (by simp)) (fun _ => ?_)
      have e29 := s27.trans (s28.trans s29)
      obtain ⟨_, rowTZ, _⟩ := twR_al dz rowZ
      obtain ⟨wTZ, dpTZ⟩ := twR_size dz
      have fin : ∀ {H' : Hp}, Same H29 H' → Dice H' d d0 ((i + 1) * 60000) := fun {H'} e => (hD26.same (e29.trans e)).mono (by rw [Nat.succ_mul]; omega)
      refine ⟨_, rfl, b, rfl, ?_⟩
      refine ite2 (fun k4 => ?_) (fun k4 => ?_)
      · refine ⟨_, rfl, .ref ln, dz, rfl, lineZ.mono e29, rowZ, by omega, by omega, fun H30 p30 s30 p300 hp30 => ⟨.ref p30, twR dz, rfl, hp30.mono new_same, rowTZ, by omega, by omega, by omega, fun H31 s31 => ⟨_, _, rfl, rfl, _, rfl, ?_⟩⟩⟩
        refine ite2 (fun k5 => ?_) (fun k5 => ?_)
        · have k6 : manyR (twR dz) < 600 := by simpa using k5
          have e31 := s30.trans s31
          refine ⟨_, rfl, _, rfl, .ref ln, dz, .ref ln, dz, rfl, lineZ.mono (e29.trans e31), lineZ.mono (e29.trans e31), okZ, by omega, by omega, rowZ, rowZ, by omega, by omega, rfl, k6, fun H32 e32 => ⟨_, rfl, ?_⟩⟩
          refine ite2 (fun z => nomatch z) (fun _ => ?_)
          exact ⟨_, _, _, _, _, _, rfl, fin (e31.trans e32)⟩
        · exact ⟨_, _, _, _, _, _, rfl, fin (s30.trans s31)⟩
      · exact ⟨_, _, _, _, _, _, rfl, fin (Same.refl _)⟩
    · obtain ⟨H20, e20, hh⟩ : ∃ H20, Same H10 H20 ∧ H20 = H12 := ⟨H12, s11'.trans s12', rfl⟩
      rw [← hh]
      have hand20 := hand.mono e20
      have hln20 := e20 _ _ hln10
      have hels20 := hels10.mono (Same.hid e20)
      have hD20 := hD10.same e20
      refine ⟨_, rfl, .ref hp, dd, rfl, hand20, showh, by omega, fith, _, rfl, rfl, _, rfl, ?_⟩
      refine ite2 (fun z => absurd z (by simp)) (fun _ => ?_)
      have lnN : lastS ∉ outPs ds := fun z => good_in (wDs ds) ds (Nat.le_refl _) line8 _ z rfl
      have lenL : (firstsL (outPs ds).reverse).length ≤ 420 := by
        have e1 := firstsRev_len (xs := ds) prow ds.length
        rw [List.take_of_length_le (by simp), revO_rev] at e1
        omega
      have lenF : (firstsL (outPs ds)).length ≤ 420 := by
        have := firstsPs_len ds prow
        omega
      have lz : (2000 : Nat) ≤ sizeLine := by decide
      refine ⟨_, rfl, .ref ln, .list ds, rfl, line3 hln20 hels20, okl, by omega, by omega, hrow, fun H21 b1 s21' b10 hb1 => ⟨_, rfl, .ref ln, .list ds, rfl, line3 (s21' _ _ hln20) (hels20.mono (Same.hid s21')), okl, by omega, by omega, hrow, fun H22 b2 s22' b20 hb2 => ?_⟩⟩
      have hb1 : H21 b1 = some (.lst ((firstsL (outPs ds).reverse).map V.str)) := hb1
      have hb2 : H22 b2 = some (.lst ((firstsL (outPs ds)).map V.str)) := hb2
      refine ⟨_, _, _, _, rfl, rfl, s22' _ _ hb1, hb2, by rw [List.length_map, List.length_map]; omega, fun b3 hb3 => ?_⟩
      have s3 := same_new hb3 (.lst ((firstsL (outPs ds).reverse).map V.str ++ (firstsL (outPs ds)).map V.str))
      have hb3' : upd H22 b3 (.lst ((firstsL (outPs ds).reverse).map V.str ++ (firstsL (outPs ds)).map V.str)) b3 = some (.lst ((firstsL (outPs ds).reverse).map V.str ++ (firstsL (outPs ds)).map V.str)) := upd_same
      have e23 := s21'.trans (s22'.trans s3)
      generalize upd H22 b3 (.lst ((firstsL (outPs ds).reverse).map V.str ++ (firstsL (outPs ds)).map V.str)) = H23 at e23 hb3'
      refine ⟨_, rfl, .ref ln, .list ds, rfl, line3 (e23 _ _ hln20) (hels20.mono (Same.hid e23)), okl, by omega, by omega, hrow, fun H24 b4 s24' b40 hb4 => ?_⟩
      have hb4 : H24 b4 = some (.dK (dctV (cntsL (outPs ds)))) := hb4
      refine ⟨b4, _, rfl, .inl hb4, fun b5 hb5 => ?_⟩
      rw [cnts_keys]
      have s5 := same_new hb5 (.lst ((firstsL (outPs ds)).map V.str))
      refine ⟨_, _, _, _, rfl, rfl, s5 _ _ (s24' _ _ hb3'), upd_same, by simp only [List.length_append, List.length_map]; omega, fun b6 hb6 => ?_⟩
      have s6 := same_new hb6 (.lst (((firstsL (outPs ds).reverse).map V.str ++ (firstsL (outPs ds)).map V.str) ++ (firstsL (outPs ds)).map V.str))
      have el : ((firstsL (outPs ds).reverse).map V.str ++ (firstsL (outPs ds)).map V.str) ++ (firstsL (outPs ds)).map V.str = (firstsL (outPs ds).reverse ++ firstsL (outPs ds) ++ firstsL (outPs ds)).map V.str := by rw [List.map_append, List.map_append]
      have e25 := e23.trans (s24'.trans (s5.trans s6))
      have hb6' : upd (upd H24 b5 (.lst ((firstsL (outPs ds)).map V.str))) b6 (.lst (((firstsL (outPs ds).reverse).map V.str ++ (firstsL (outPs ds)).map V.str) ++ (firstsL (outPs ds)).map V.str)) b6 = some (.lst ((firstsL (outPs ds).reverse ++ firstsL (outPs ds) ++ firstsL (outPs ds)).map V.str)) := by rw [upd_same, el]
      generalize upd (upd H24 b5 (.lst ((firstsL (outPs ds)).map V.str))) b6 (.lst (((firstsL (outPs ds).reverse).map V.str ++ (firstsL (outPs ds)).map V.str) ++ (firstsL (outPs ds)).map V.str)) = H25 at e25 hb6'
      refine ⟨b6, _, rfl, .inl (SqL.of hb6'), rfl, flat_strs _, _, rfl, ?_⟩
      rw [inV_strs]
      have nin : ¬ Str.ofString "last" ∈ firstsL (outPs ds).reverse ++ firstsL (outPs ds) ++ firstsL (outPs ds) := fun z => by
        simp only [List.mem_append, mem_firstsL, List.mem_reverse] at z
        rcases z with (z | z) | z <;> exact lnN z
      refine ite2 (fun z => absurd (of_decide_eq_true z) nin) (fun _ => ?_)
      -- one ask more
      have hln25 := e25 _ _ hln20
      have hels25 := hels20.mono (Same.hid e25)
      have hD25 := hD20.same e25
      have lxs := hels25.length
      have lds := len_wDs ds
      refine ⟨_, rfl, .inl ⟨rfl, _, SqL.of hln25⟩, _, _, _, rfl, rfl, hln25, by omega, ?_⟩
      have m1 : Same (Hid [d, d0, ln] H25) (Hid [d, d0, ln] (upd H25 ln (.lst (xs ++ [.str (Str.ofString "last")])))) := hid_upd (Same.refl _) in3 _
      have hD26 := hD25.upd (o := .lst (xs ++ [.str (Str.ofString "last")])) lnd lnd0
      have hln26 : upd H25 ln (.lst (xs ++ [.str (Str.ofString "last")])) ln = some (.lst (xs ++ [.str (Str.ofString "last")])) := upd_same
      have hels26 := (hels25.mono m1).mono hid_same
      have lineZ : DD (upd H25 ln (.lst (xs ++ [.str (Str.ofString "last")]))) (.ref ln) (.list (ds ++ [.str (Str.ofString "last")])) := .lst hln26 (hels26.append (.cons (.str _) .nil))
      have tl : isThingS (Str.ofString "last") = true := by decide +kernel
      have rowZ : rowD (.list (ds ++ [.str (Str.ofString "last")])) = true := by
        show partsD (ds ++ [.str (Str.ofString "last")]) = true
        rw [partsD_eq, List.all_append, ← partsD_eq, prow]
        simp [partD, tl]
      have okZ : okD (.list (ds ++ [.str (Str.ofString "last")])) = true := by
        show oksD (ds ++ [.str (Str.ofString "last")]) = true
        rw [oksD_append, oks8]
        show (true && (okD (.str (Str.ofString "last")) && true)) = true
        rw [okS tl]
        rfl
      have depZ : (PyData.list (ds ++ [.str (Str.ofString "last")])).depth ≤ 9 := by
        simp only [PyData.depth, PyData.depthAll, depthAll_append]; omega
      have wZ : wD (.list (ds ++ [.str (Str.ofString "last")])) ≤ 410 := by
        simp only [wD, wDs, wDs_append]; omega
      have outZ : outR (.list (ds ++ [.str (Str.ofString "last")])) = outPs ds ++ [Str.ofString "last"] := by
        show outPs (ds ++ [.str (Str.ofString "last")]) = _
        rw [outPs_append]; rfl
      generalize PyData.list (ds ++ [.str (Str.ofString "last")]) = dz at lineZ rowZ okZ depZ wZ outZ
      generalize upd H25 ln (.lst (xs ++ [.str (Str.ofString "last")])) = H26 at lineZ hD26
      obtain ⟨rr, hrr⟩ := firsts_head (Str.ofString "last") (outPs ds).reverse
      have lastZ : firstsL (outR dz).reverse = Str.ofString "last" :: rr := by rw [outZ, List.reverse_append]; exact hrr
      have firstZ : firstsL (outR dz) = firstsL (outPs ds) ++ [Str.ofString "last"] := by rw [outZ]; exact firsts_new lnN
      have cntZ : (outR dz).count (Str.ofString "last") = 1 := by
        have z0 : (outPs ds).count (Str.ofString "last") = 0 := List.count_eq_zero.mpr lnN
        rw [outZ, List.count_append, List.count_singleton, z0]; simp
      refine ⟨_, rfl, .ref ln, dz, rfl, lineZ, okZ, by omega, by omega, rowZ, fun H27 c1 s27 c10 hc1 => ?_⟩
      have hc1 : H27 c1 = some (.lst ((firstsL (outR dz).reverse).map V.str)) := hc1
      rw [lastZ] at hc1
      refine ⟨_, _, _, _, rfl, rfl, SqL.of hc1, atI_nat (j := 0) rfl, rfl, _, rfl, ?_⟩
      refine ite2 (fun z => absurd z (by simp)) (fun _ => ?_)
      refine ⟨_, rfl, .ref ln, dz, rfl, lineZ.mono s27, okZ, by omega, by omega, rowZ, fun H28 c2 s28 c20 hc2 => ⟨1, rfl, ?_⟩⟩
      have hc2 : H28 c2 = some (.lst ((firstsL (outR dz)).map V.str)) := hc2
      rw [firstZ, List.map_append] at hc2
      refine ⟨_, _, _, _, rfl, rfl, SqL.of hc2, atI_last _ _, rfl, _, rfl, ?_⟩
      refine ite2 (fun z => absurd z (by simp)) (fun _ => ?_)
      refine ⟨_, rfl, .ref ln, dz, rfl, lineZ.mono (s27.trans s28), okZ, by omega, by omega, rowZ, fun H29 c3 s29 c30 hc3 => ?_⟩
      have hc3 : H29 c3 = some (.dK (dctV (cntsL (outR dz)))) := hc3
      have gz : valV (dctV (cntsL (outR dz))) (Sum.inr (Str.ofString "last")) = some (.int (1 : Nat)) := by
        rw [cnts_get (by rw [firstZ]; simp), cntZ]
      refine ⟨c3, _, rfl, .inl ⟨_, Sum.inr (Str.ofString "last"), .inl hc3, rfl, gz.symm⟩, rfl, _, rfl, ?_⟩
      refine ite2 (fun z => absurd z (by simp)) (fun _ => ?_)
      have e29 := s27.trans (s28.trans s29)
      obtain ⟨_, rowTZ, _⟩ := twR_al dz rowZ
      obtain ⟨wTZ, dpTZ⟩ := twR_size dz
      have fin : ∀ {H' : Hp}, Same H29 H' → Dice H' d d0 ((i + 1) * 60000) := fun {H'} e => (hD26.same (e29.trans e)).mono (by rw [Nat.succ_mul]; omega)
      refine ⟨_, rfl, b, rfl, ?_⟩
      refine ite2 (fun k4 => ?_) (fun k4 => ?_)
      · refine ⟨_, rfl, .ref ln, dz, rfl, lineZ.mono e29, rowZ, by omega, by omega, fun H30 p30 s30 p300 hp30 => ⟨.ref p30, twR dz, rfl, hp30.mono new_same, rowTZ, by omega, by omega, by omega, fun H31 s31 => ⟨_, _, rfl, rfl, _, rfl, ?_⟩⟩⟩
        refine ite2 (fun k5 => ?_) (fun k5 => ?_)
        · have k6 : manyR (twR dz) < 600 := by simpa using k5
          have e31 := s30.trans s31
          refine ⟨_, rfl, _, rfl, .ref ln, dz, .ref ln, dz, rfl, lineZ.mono (e29.trans e31), lineZ.mono (e29.trans e31), okZ, by omega, by omega, rowZ, rowZ, by omega, by omega, rfl, k6, fun H32 e32 => ⟨_, rfl, ?_⟩⟩
          refine ite2 (fun z => nomatch z) (fun _ => ?_)
          exact ⟨_, _, _, _, _, _, rfl, fin (e31.trans e32)⟩
        · exact ⟨_, _, _, _, _, _, rfl, fin (s30.trans s31)⟩
      · exact ⟨_, _, _, _, _, _, rfl, fin (Same.refl _)⟩
  · rintro σ H2 ⟨s2, s3, s4, s5, s6, s7, rfl, hD2⟩
    refine ⟨Nat.zero_le _, fun p1 hp1 => ⟨_, .list [], rfl, .lst upd_same .nil, rfl, by decide, by decide, rfl, fun H3 t1 s3 t10 ht1 => ⟨Nat.zero_le _, fun l1 hl1 => ?_⟩⟩⟩
    have e1 := same_new hl1 (.lst [])
    refine ⟨t1, l1, [], rfl, rfl, SqL.of (e1 _ _ ht1), upd_same, _, rfl, iteT ?_⟩
    refine ⟨Nat.zero_le _, fun p2 hp2 => ⟨_, .tuple [], rfl, .tup upd_same .nil, rfl, by decide, by decide, rfl, fun H4 t2 s4 t20 ht2 => ⟨Nat.zero_le _, fun l2 hl2 => ?_⟩⟩⟩
    have e2 := same_new hl2 (.lst [])
    refine ⟨t2, l2, [], rfl, rfl, SqL.of (e2 _ _ ht2), upd_same, _, rfl, iteT ?_⟩
    refine ⟨Nat.zero_le _, fun p3 hp3 => ⟨_, .list [], rfl, .lst upd_same .nil, rfl, by decide, by decide, rfl, fun H5 t3 s5 t30 ht3 => ?_⟩⟩
    intro l3 hl3
    have e3 := same_new hl3 (.dK [])
    exact ⟨t3, l3, [], [], rfl, rfl, e3 _ _ ht3, upd_same, rfl, fun p hp => (nomatch hp), q _⟩
end
end K02

set_option Elab.async false
set_option linter.all false
set_option maxRecDepth 100000
set_option maxHeartbeats 4000000
namespace K02
open PySem PySem.Spec L2 MC
open PyProof.Rows hiding St
theorem all_mk {l : PySem.W.OpenLaw} {w : World} {K : PySem.W.Frag} {h : Heap} {mg : Str → Option Value} {fa : Addr} (X : K.In h) (G : h.Ns mainGlobals mg) (hfa : mg "law" = some (.ref fa))
    {f_is_whole : Addr} {f_are_things : Addr} {f_are_small : Addr} {f_is_row : Addr} {f_looks_again : Addr} {f_things_of : Addr} {f_last_of : Addr} {f_often : Addr} {f_check_row : Addr} {f_counts : Addr} {f_latest_first : Addr} {f_l_dice : Addr} {f_l_roll : Addr} {f_l_names : Addr} {f_l_row : Addr} {f_l_dressed : Addr} {f_l_many : Addr} {f_l_out : Addr} {f_l_twice : Addr} {f_l_firsts : Addr} {f_l_counted : Addr} {f_l_right : Addr} {f_law : Addr} {od_is_whole an_is_whole : Option Addr} {od_are_things an_are_things : Option Addr} {od_are_small an_are_small : Option Addr} {od_is_row an_is_row : Option Addr} {od_looks_again an_looks_again : Option Addr} {od_things_of an_things_of : Option Addr} {od_last_of an_last_of : Option Addr} {od_often an_often : Option Addr} {od_check_row an_check_row : Option Addr} {od_counts an_counts : Option Addr} {od_latest_first an_latest_first : Option Addr} {od_l_dice an_l_dice : Option Addr} {od_l_roll an_l_roll : Option Addr} {od_l_names an_l_names : Option Addr} {od_l_row an_l_row : Option Addr} {od_l_dressed an_l_dressed : Option Addr} {od_l_many an_l_many : Option Addr} {od_l_out an_l_out : Option Addr} {od_l_twice an_l_twice : Option Addr} {od_l_firsts an_l_firsts : Option Addr} {od_l_counted an_l_counted : Option Addr} {od_l_right an_l_right : Option Addr} {od_law an_law : Option Addr} {sl_is_whole : Array (Option Value)} {sl_are_things : Array (Option Value)} {sl_are_small : Array (Option Value)} {sl_is_row : Array (Option Value)} {sl_looks_again : Array (Option Value)} {sl_things_of : Array (Option Value)} {sl_last_of : Array (Option Value)} {sl_often : Array (Option Value)} {sl_check_row : Array (Option Value)} {sl_counts : Array (Option Value)} {sl_latest_first : Array (Option Value)} {sl_l_dice : Array (Option Value)} {sl_l_roll : Array (Option Value)} {sl_l_names : Array (Option Value)} {sl_l_row : Array (Option Value)} {sl_l_dressed : Array (Option Value)} {sl_l_many : Array (Option Value)} {sl_l_out : Array (Option Value)} {sl_l_twice : Array (Option Value)} {sl_l_firsts : Array (Option Value)} {sl_l_counted : Array (Option Value)} {sl_l_right : Array (Option Value)} {sl_law : Array (Option Value)} {oc_is_whole kV_is_whole dc_is_whole pm_is_whole cd_is_whole ct_is_whole : Value} {oc_are_things kV_are_things dc_are_things pm_are_things cd_are_things ct_are_things : Value} {oc_are_small kV_are_small dc_are_small pm_are_small cd_are_small ct_are_small : Value} {oc_is_row kV_is_row dc_is_row pm_is_row cd_is_row ct_is_row : Value} {oc_looks_again kV_looks_again dc_looks_again pm_looks_again cd_looks_again ct_looks_again : Value} {oc_things_of kV_things_of dc_things_of pm_things_of cd_things_of ct_things_of : Value} {oc_last_of kV_last_of dc_last_of pm_last_of cd_last_of ct_last_of : Value} {oc_often kV_often dc_often pm_often cd_often ct_often : Value} {oc_check_row kV_check_row dc_check_row pm_check_row cd_check_row ct_check_row : Value} {oc_counts kV_counts dc_counts pm_counts cd_counts ct_counts : Value} {oc_latest_first kV_latest_first dc_latest_first pm_latest_first cd_latest_first ct_latest_first : Value} {oc_l_dice kV_l_dice dc_l_dice pm_l_dice cd_l_dice ct_l_dice : Value} {oc_l_roll kV_l_roll dc_l_roll pm_l_roll cd_l_roll ct_l_roll : Value} {oc_l_names kV_l_names dc_l_names pm_l_names cd_l_names ct_l_names : Value} {oc_l_row kV_l_row dc_l_row pm_l_row cd_l_row ct_l_row : Value} {oc_l_dressed kV_l_dressed dc_l_dressed pm_l_dressed cd_l_dressed ct_l_dressed : Value} {oc_l_many kV_l_many dc_l_many pm_l_many cd_l_many ct_l_many : Value} {oc_l_out kV_l_out dc_l_out pm_l_out cd_l_out ct_l_out : Value} {oc_l_twice kV_l_twice dc_l_twice pm_l_twice cd_l_twice ct_l_twice : Value} {oc_l_firsts kV_l_firsts dc_l_firsts pm_l_firsts cd_l_firsts ct_l_firsts : Value} {oc_l_counted kV_l_counted dc_l_counted pm_l_counted cd_l_counted ct_l_counted : Value} {oc_l_right kV_l_right dc_l_right pm_l_right cd_l_right ct_l_right : Value} {oc_law kV_law dc_law pm_law cd_law ct_law : Value} {t_LONGEST_THING : Nat} {t_MOST_TIMES : Nat} {t_DEEPEST_ROW : Nat} {osys : Obj}
    (a_is_whole : PySem.W.nsIn K mainGlobals "is_whole" = some (some (.ref f_is_whole))) (l_is_whole : K.lookup f_is_whole = some ⟨oc_is_whole, od_is_whole, .func (PySem.W.fnOf "is_whole" "is_whole" (defArgs s_is_whole) (defBody s_is_whole) (defScope s_is_whole) .none kV_is_whole dc_is_whole pm_is_whole an_is_whole cd_is_whole ct_is_whole), sl_is_whole⟩) (w_is_whole : PySem.W.codeIn K cd_is_whole "is_whole" = true) (k_is_whole : PySem.W.keepIn K (.ref f_is_whole) = true)
    (a_are_things : PySem.W.nsIn K mainGlobals "are_things" = some (some (.ref f_are_things))) (l_are_things : K.lookup f_are_things = some ⟨oc_are_things, od_are_things, .func (PySem.W.fnOf "are_things" "are_things" (defArgs s_are_things) (defBody s_are_things) (defScope s_are_things) .none kV_are_things dc_are_things pm_are_things an_are_things cd_are_things ct_are_things), sl_are_things⟩) (w_are_things : PySem.W.codeIn K cd_are_things "are_things" = true) (k_are_things : PySem.W.keepIn K (.ref f_are_things) = true)
    (a_are_small : PySem.W.nsIn K mainGlobals "are_small" = some (some (.ref f_are_small))) (l_are_small : K.lookup f_are_small = some ⟨oc_are_small, od_are_small, .func (PySem.W.fnOf "are_small" "are_small" (defArgs s_are_small) (defBody s_are_small) (defScope s_are_small) .none kV_are_small dc_are_small pm_are_small an_are_small cd_are_small ct_are_small), sl_are_small⟩) (w_are_small : PySem.W.codeIn K cd_are_small "are_small" = true) (k_are_small : PySem.W.keepIn K (.ref f_are_small) = true)
    (a_is_row : PySem.W.nsIn K mainGlobals "is_row" = some (some (.ref f_is_row))) (l_is_row : K.lookup f_is_row = some ⟨oc_is_row, od_is_row, .func (PySem.W.fnOf "is_row" "is_row" (defArgs s_is_row) (defBody s_is_row) (defScope s_is_row) .none kV_is_row dc_is_row pm_is_row an_is_row cd_is_row ct_is_row), sl_is_row⟩) (w_is_row : PySem.W.codeIn K cd_is_row "is_row" = true) (k_is_row : PySem.W.keepIn K (.ref f_is_row) = true)
    (a_looks_again : PySem.W.nsIn K mainGlobals "_looks_again" = some (some (.ref f_looks_again))) (l_looks_again : K.lookup f_looks_again = some ⟨oc_looks_again, od_looks_again, .func (PySem.W.fnOf "_looks_again" "_looks_again" (defArgs s_looks_again) (defBody s_looks_again) (defScope s_looks_again) .none kV_looks_again dc_looks_again pm_looks_again an_looks_again cd_looks_again ct_looks_again), sl_looks_again⟩) (w_looks_again : PySem.W.codeIn K cd_looks_again "_looks_again" = true) (k_looks_again : PySem.W.keepIn K (.ref f_looks_again) = true)
    (a_things_of : PySem.W.nsIn K mainGlobals "things_of" = some (some (.ref f_things_of))) (l_things_of : K.lookup f_things_of = some ⟨oc_things_of, od_things_of, .func (PySem.W.fnOf "things_of" "things_of" (defArgs s_things_of) (defBody s_things_of) (defScope s_things_of) .none kV_things_of dc_things_of pm_things_of an_things_of cd_things_of ct_things_of), sl_things_of⟩) (w_things_of : PySem.W.codeIn K cd_things_of "things_of" = true) (k_things_of : PySem.W.keepIn K (.ref f_things_of) = true)
    (a_last_of : PySem.W.nsIn K mainGlobals "last_of" = some (some (.ref f_last_of))) (l_last_of : K.lookup f_last_of = some ⟨oc_last_of, od_last_of, .func (PySem.W.fnOf "last_of" "last_of" (defArgs s_last_of) (defBody s_last_of) (defScope s_last_of) .none kV_last_of dc_last_of pm_last_of an_last_of cd_last_of ct_last_of), sl_last_of⟩) (w_last_of : PySem.W.codeIn K cd_last_of "last_of" = true) (k_last_of : PySem.W.keepIn K (.ref f_last_of) = true)
    (a_often : PySem.W.nsIn K mainGlobals "often" = some (some (.ref f_often))) (l_often : K.lookup f_often = some ⟨oc_often, od_often, .func (PySem.W.fnOf "often" "often" (defArgs s_often) (defBody s_often) (defScope s_often) .none kV_often dc_often pm_often an_often cd_often ct_often), sl_often⟩) (w_often : PySem.W.codeIn K cd_often "often" = true) (k_often : PySem.W.keepIn K (.ref f_often) = true)
    (a_check_row : PySem.W.nsIn K mainGlobals "check_row" = some (some (.ref f_check_row))) (l_check_row : K.lookup f_check_row = some ⟨oc_check_row, od_check_row, .func (PySem.W.fnOf "check_row" "check_row" (defArgs s_check_row) (defBody s_check_row) (defScope s_check_row) .none kV_check_row dc_check_row pm_check_row an_check_row cd_check_row ct_check_row), sl_check_row⟩) (w_check_row : PySem.W.codeIn K cd_check_row "check_row" = true) (k_check_row : PySem.W.keepIn K (.ref f_check_row) = true)
    (a_counts : PySem.W.nsIn K mainGlobals "_counts" = some (some (.ref f_counts))) (l_counts : K.lookup f_counts = some ⟨oc_counts, od_counts, .func (PySem.W.fnOf "_counts" "_counts" (defArgs s_counts) (defBody s_counts) (defScope s_counts) .none kV_counts dc_counts pm_counts an_counts cd_counts ct_counts), sl_counts⟩) (w_counts : PySem.W.codeIn K cd_counts "_counts" = true) (k_counts : PySem.W.keepIn K (.ref f_counts) = true)
    (a_latest_first : PySem.W.nsIn K mainGlobals "_latest_first" = some (some (.ref f_latest_first))) (l_latest_first : K.lookup f_latest_first = some ⟨oc_latest_first, od_latest_first, .func (PySem.W.fnOf "_latest_first" "_latest_first" (defArgs s_latest_first) (defBody s_latest_first) (defScope s_latest_first) .none kV_latest_first dc_latest_first pm_latest_first an_latest_first cd_latest_first ct_latest_first), sl_latest_first⟩) (w_latest_first : PySem.W.codeIn K cd_latest_first "_latest_first" = true) (k_latest_first : PySem.W.keepIn K (.ref f_latest_first) = true)
    (a_l_dice : PySem.W.nsIn K mainGlobals "_law_dice" = some (some (.ref f_l_dice))) (l_l_dice : K.lookup f_l_dice = some ⟨oc_l_dice, od_l_dice, .func (PySem.W.fnOf "_law_dice" "_law_dice" (defArgs s_l_dice) (defBody s_l_dice) (defScope s_l_dice) .none kV_l_dice dc_l_dice pm_l_dice an_l_dice cd_l_dice ct_l_dice), sl_l_dice⟩) (w_l_dice : PySem.W.codeIn K cd_l_dice "_law_dice" = true) (k_l_dice : PySem.W.keepIn K (.ref f_l_dice) = true)
    (a_l_roll : PySem.W.nsIn K mainGlobals "_law_roll" = some (some (.ref f_l_roll))) (l_l_roll : K.lookup f_l_roll = some ⟨oc_l_roll, od_l_roll, .func (PySem.W.fnOf "_law_roll" "_law_roll" (defArgs s_l_roll) (defBody s_l_roll) (defScope s_l_roll) .none kV_l_roll dc_l_roll pm_l_roll an_l_roll cd_l_roll ct_l_roll), sl_l_roll⟩) (w_l_roll : PySem.W.codeIn K cd_l_roll "_law_roll" = true) (k_l_roll : PySem.W.keepIn K (.ref f_l_roll) = true)
    (a_l_names : PySem.W.nsIn K mainGlobals "_law_names" = some (some (.ref f_l_names))) (l_l_names : K.lookup f_l_names = some ⟨oc_l_names, od_l_names, .func (PySem.W.fnOf "_law_names" "_law_names" (defArgs s_l_names) (defBody s_l_names) (defScope s_l_names) .none kV_l_names dc_l_names pm_l_names an_l_names cd_l_names ct_l_names), sl_l_names⟩) (w_l_names : PySem.W.codeIn K cd_l_names "_law_names" = true) (k_l_names : PySem.W.keepIn K (.ref f_l_names) = true)
    (a_l_row : PySem.W.nsIn K mainGlobals "_law_row" = some (some (.ref f_l_row))) (l_l_row : K.lookup f_l_row = some ⟨oc_l_row, od_l_row, .func (PySem.W.fnOf "_law_row" "_law_row" (defArgs s_l_row) (defBody s_l_row) (defScope s_l_row) .none kV_l_row dc_l_row pm_l_row an_l_row cd_l_row ct_l_row), sl_l_row⟩) (w_l_row : PySem.W.codeIn K cd_l_row "_law_row" = true) (k_l_row : PySem.W.keepIn K (.ref f_l_row) = true)
    (a_l_dressed : PySem.W.nsIn K mainGlobals "_law_dressed" = some (some (.ref f_l_dressed))) (l_l_dressed : K.lookup f_l_dressed = some ⟨oc_l_dressed, od_l_dressed, .func (PySem.W.fnOf "_law_dressed" "_law_dressed" (defArgs s_l_dressed) (defBody s_l_dressed) (defScope s_l_dressed) .none kV_l_dressed dc_l_dressed pm_l_dressed an_l_dressed cd_l_dressed ct_l_dressed), sl_l_dressed⟩) (w_l_dressed : PySem.W.codeIn K cd_l_dressed "_law_dressed" = true) (k_l_dressed : PySem.W.keepIn K (.ref f_l_dressed) = true)
    (a_l_many : PySem.W.nsIn K mainGlobals "_law_many" = some (some (.ref f_l_many))) (l_l_many : K.lookup f_l_many = some ⟨oc_l_many, od_l_many, .func (PySem.W.fnOf "_law_many" "_law_many" (defArgs s_l_many) (defBody s_l_many) (defScope s_l_many) .none kV_l_many dc_l_many pm_l_many an_l_many cd_l_many ct_l_many), sl_l_many⟩) (w_l_many : PySem.W.codeIn K cd_l_many "_law_many" = true) (k_l_many : PySem.W.keepIn K (.ref f_l_many) = true)
    (a_l_out : PySem.W.nsIn K mainGlobals "_law_out" = some (some (.ref f_l_out))) (l_l_out : K.lookup f_l_out = some ⟨oc_l_out, od_l_out, .func (PySem.W.fnOf "_law_out" "_law_out" (defArgs s_l_out) (defBody s_l_out) (defScope s_l_out) .none kV_l_out dc_l_out pm_l_out an_l_out cd_l_out ct_l_out), sl_l_out⟩) (w_l_out : PySem.W.codeIn K cd_l_out "_law_out" = true) (k_l_out : PySem.W.keepIn K (.ref f_l_out) = true)
    (a_l_twice : PySem.W.nsIn K mainGlobals "_law_twice" = some (some (.ref f_l_twice))) (l_l_twice : K.lookup f_l_twice = some ⟨oc_l_twice, od_l_twice, .func (PySem.W.fnOf "_law_twice" "_law_twice" (defArgs s_l_twice) (defBody s_l_twice) (defScope s_l_twice) .none kV_l_twice dc_l_twice pm_l_twice an_l_twice cd_l_twice ct_l_twice), sl_l_twice⟩) (w_l_twice : PySem.W.codeIn K cd_l_twice "_law_twice" = true) (k_l_twice : PySem.W.keepIn K (.ref f_l_twice) = true)
    (a_l_firsts : PySem.W.nsIn K mainGlobals "_law_firsts" = some (some (.ref f_l_firsts))) (l_l_firsts : K.lookup f_l_firsts = some ⟨oc_l_firsts, od_l_firsts, .func (PySem.W.fnOf "_law_firsts" "_law_firsts" (defArgs s_l_firsts) (defBody s_l_firsts) (defScope s_l_firsts) .none kV_l_firsts dc_l_firsts pm_l_firsts an_l_firsts cd_l_firsts ct_l_firsts), sl_l_firsts⟩) (w_l_firsts : PySem.W.codeIn K cd_l_firsts "_law_firsts" = true) (k_l_firsts : PySem.W.keepIn K (.ref f_l_firsts) = true)
    (a_l_counted : PySem.W.nsIn K mainGlobals "_law_counted" = some (some (.ref f_l_counted))) (l_l_counted : K.lookup f_l_counted = some ⟨oc_l_counted, od_l_counted, .func (PySem.W.fnOf "_law_counted" "_law_counted" (defArgs s_l_counted) (defBody s_l_counted) (defScope s_l_counted) .none kV_l_counted dc_l_counted pm_l_counted an_l_counted cd_l_counted ct_l_counted), sl_l_counted⟩) (w_l_counted : PySem.W.codeIn K cd_l_counted "_law_counted" = true) (k_l_counted : PySem.W.keepIn K (.ref f_l_counted) = true)
    (a_l_right : PySem.W.nsIn K mainGlobals "_law_right" = some (some (.ref f_l_right))) (l_l_right : K.lookup f_l_right = some ⟨oc_l_right, od_l_right, .func (PySem.W.fnOf "_law_right" "_law_right" (defArgs s_l_right) (defBody s_l_right) (defScope s_l_right) .none kV_l_right dc_l_right pm_l_right an_l_right cd_l_right ct_l_right), sl_l_right⟩) (w_l_right : PySem.W.codeIn K cd_l_right "_law_right" = true) (k_l_right : PySem.W.keepIn K (.ref f_l_right) = true)
    (a_law : PySem.W.nsIn K mainGlobals "law" = some (some (.ref f_law))) (l_law : K.lookup f_law = some ⟨oc_law, od_law, .func (PySem.W.fnOf "law" "law" (defArgs s_law) (defBody s_law) (defScope s_law) .none kV_law dc_law pm_law an_law cd_law ct_law), sl_law⟩) (w_law : PySem.W.codeIn K cd_law "law" = true) (k_law : PySem.W.keepIn K (.ref f_law) = true)
    (z_isinstance : PySem.W.nsIn K mainGlobals "isinstance" = some none)
    (z_int : PySem.W.nsIn K mainGlobals "int" = some none)
    (z_bool : PySem.W.nsIn K mainGlobals "bool" = some none)
    (z_str : PySem.W.nsIn K mainGlobals "str" = some none)
    (z_list : PySem.W.nsIn K mainGlobals "list" = some none)
    (z_tuple : PySem.W.nsIn K mainGlobals "tuple" = some none)
    (z_len : PySem.W.nsIn K mainGlobals "len" = some none)
    (z_all : PySem.W.nsIn K mainGlobals "all" = some none)
    (z_range : PySem.W.nsIn K mainGlobals "range" = some none)
    (z_min : PySem.W.nsIn K mainGlobals "min" = some none)
    (z_repr : PySem.W.nsIn K mainGlobals "repr" = some none)
    (z_enumerate : PySem.W.nsIn K mainGlobals "enumerate" = some none)
    (z_sum : PySem.W.nsIn K mainGlobals "sum" = some none)
    (z_zip : PySem.W.nsIn K mainGlobals "zip" = some none)
    (z_dict : PySem.W.nsIn K mainGlobals "dict" = some none)
    (q_LONGEST_THING : PySem.W.nsIn K mainGlobals "LONGEST_THING" = some (some (.int 8 t_LONGEST_THING)))
    (q_MOST_TIMES : PySem.W.nsIn K mainGlobals "MOST_TIMES" = some (some (.int 1000000000000000000000000000000 t_MOST_TIMES)))
    (q_DEEPEST_ROW : PySem.W.nsIn K mainGlobals "DEEPEST_ROW" = some (some (.int 2000000 t_DEEPEST_ROW)))
    (q_sys : K.lookup sysModules = some osys) :
    ∃ fd : FuncData, (∀ (s : Shared) (v : Value), BindsTo s fd ⟨[v], []⟩ [("_law_script", v)]) ∧ ∀ base : Heap, K.In base → base.Ns mainGlobals mg → FnA Clean l.prog w K mg base CX0 30 fa fd ["_law_script"] (spLaw K) := by
  have e := hfa.symm.trans (PySem.W.mg_of X G a_law)
  cases e
  have T : Txt K mg := ⟨PySem.W.mg_none_of X G z_isinstance, PySem.W.mg_none_of X G z_int, PySem.W.mg_none_of X G z_bool, PySem.W.mg_none_of X G z_str, PySem.W.mg_none_of X G z_list, PySem.W.mg_none_of X G z_tuple, PySem.W.mg_none_of X G z_len, PySem.W.mg_none_of X G z_all, PySem.W.mg_none_of X G z_range, PySem.W.mg_none_of X G z_min, PySem.W.mg_none_of X G z_repr, PySem.W.mg_none_of X G z_enumerate, PySem.W.mg_none_of X G z_sum, PySem.W.mg_none_of X G z_zip, PySem.W.mg_none_of X G z_dict, ⟨_, PySem.W.mg_of X G q_LONGEST_THING⟩, ⟨_, PySem.W.mg_of X G q_MOST_TIMES⟩, ⟨_, PySem.W.mg_of X G q_DEEPEST_ROW⟩, ⟨_, q_sys⟩⟩
  have F_is_whole := fun_mk (st := s_is_whole) l_is_whole w_is_whole k_is_whole
  have O_is_whole : Own K mg "is_whole" s_is_whole _ _ ["value"] := ⟨F_is_whole, PySem.W.mg_of X G a_is_whole, F_is_whole.binds (ps := ["value"]) fun _ _ _ _ _ _ us hl => match us, hl with | [_], _ => rfl⟩
  have F_are_things := fun_mk (st := s_are_things) l_are_things w_are_things k_are_things
  have O_are_things : Own K mg "are_things" s_are_things _ _ ["values"] := ⟨F_are_things, PySem.W.mg_of X G a_are_things, F_are_things.binds (ps := ["values"]) fun _ _ _ _ _ _ us hl => match us, hl with | [_], _ => rfl⟩
  have F_are_small := fun_mk (st := s_are_small) l_are_small w_are_small k_are_small
  have O_are_small : Own K mg "are_small" s_are_small _ _ ["signs"] := ⟨F_are_small, PySem.W.mg_of X G a_are_small, F_are_small.binds (ps := ["signs"]) fun _ _ _ _ _ _ us hl => match us, hl with | [_], _ => rfl⟩
  have F_is_row := fun_mk (st := s_is_row) l_is_row w_is_row k_is_row
  have O_is_row : Own K mg "is_row" s_is_row _ _ ["thing"] := ⟨F_is_row, PySem.W.mg_of X G a_is_row, F_is_row.binds (ps := ["thing"]) fun _ _ _ _ _ _ us hl => match us, hl with | [_], _ => rfl⟩
  have F_looks_again := fun_mk (st := s_looks_again) l_looks_again w_looks_again k_looks_again
  have O_looks_again : Own K mg "_looks_again" s_looks_again _ _ ["part"] := ⟨F_looks_again, PySem.W.mg_of X G a_looks_again, F_looks_again.binds (ps := ["part"]) fun _ _ _ _ _ _ us hl => match us, hl with | [_], _ => rfl⟩
  have F_things_of := fun_mk (st := s_things_of) l_things_of w_things_of k_things_of
  have O_things_of : Own K mg "things_of" s_things_of _ _ ["row"] := ⟨F_things_of, PySem.W.mg_of X G a_things_of, F_things_of.binds (ps := ["row"]) fun _ _ _ _ _ _ us hl => match us, hl with | [_], _ => rfl⟩
  have F_last_of := fun_mk (st := s_last_of) l_last_of w_last_of k_last_of
  have O_last_of : Own K mg "last_of" s_last_of _ _ ["row"] := ⟨F_last_of, PySem.W.mg_of X G a_last_of, F_last_of.binds (ps := ["row"]) fun _ _ _ _ _ _ us hl => match us, hl with | [_], _ => rfl⟩
  have F_often := fun_mk (st := s_often) l_often w_often k_often
  have O_often : Own K mg "often" s_often _ _ ["row"] := ⟨F_often, PySem.W.mg_of X G a_often, F_often.binds (ps := ["row"]) fun _ _ _ _ _ _ us hl => match us, hl with | [_], _ => rfl⟩
  have F_check_row := fun_mk (st := s_check_row) l_check_row w_check_row k_check_row
  have O_check_row : Own K mg "check_row" s_check_row _ _ ["row"] := ⟨F_check_row, PySem.W.mg_of X G a_check_row, F_check_row.binds (ps := ["row"]) fun _ _ _ _ _ _ us hl => match us, hl with | [_], _ => rfl⟩
  have F_counts := fun_mk (st := s_counts) l_counts w_counts k_counts
  have O_counts : Own K mg "_counts" s_counts _ _ ["row"] := ⟨F_counts, PySem.W.mg_of X G a_counts, F_counts.binds (ps := ["row"]) fun _ _ _ _ _ _ us hl => match us, hl with | [_], _ => rfl⟩
  have F_latest_first := fun_mk (st := s_latest_first) l_latest_first w_latest_first k_latest_first
  have O_latest_first : Own K mg "_latest_first" s_latest_first _ _ ["row"] := ⟨F_latest_first, PySem.W.mg_of X G a_latest_first, F_latest_first.binds (ps := ["row"]) fun _ _ _ _ _ _ us hl => match us, hl with | [_], _ => rfl⟩
  have F_l_dice := fun_mk (st := s_l_dice) l_l_dice w_l_dice k_l_dice
  have O_l_dice : Own K mg "_law_dice" s_l_dice _ _ ["_law_script"] := ⟨F_l_dice, PySem.W.mg_of X G a_l_dice, F_l_dice.binds (ps := ["_law_script"]) fun _ _ _ _ _ _ us hl => match us, hl with | [_], _ => rfl⟩
  have F_l_roll := fun_mk (st := s_l_roll) l_l_roll w_l_roll k_l_roll
  have O_l_roll : Own K mg "_law_roll" s_l_roll _ _ ["_law_dice_here", "_law_many_here"] := ⟨F_l_roll, PySem.W.mg_of X G a_l_roll, F_l_roll.binds (ps := ["_law_dice_here", "_law_many_here"]) fun _ _ _ _ _ _ us hl => match us, hl with | [_, _], _ => rfl⟩
  have F_l_names := fun_mk (st := s_l_names) l_l_names w_l_names k_l_names
  have O_l_names : Own K mg "_law_names" s_l_names _ _ ["_law_dice_here", "_law_many_here"] := ⟨F_l_names, PySem.W.mg_of X G a_l_names, F_l_names.binds (ps := ["_law_dice_here", "_law_many_here"]) fun _ _ _ _ _ _ us hl => match us, hl with | [_, _], _ => rfl⟩
  have F_l_row := fun_mk (st := s_l_row) l_l_row w_l_row k_l_row
  have O_l_row : Own K mg "_law_row" s_l_row _ _ ["_law_dice_here", "_law_names_here", "_law_plan", "_law_layers"] := ⟨F_l_row, PySem.W.mg_of X G a_l_row, F_l_row.binds (ps := ["_law_dice_here", "_law_names_here", "_law_plan", "_law_layers"]) fun _ _ _ _ _ _ us hl => match us, hl with | [_, _, _, _], _ => rfl⟩
  have F_l_dressed := fun_mk (st := s_l_dressed) l_l_dressed w_l_dressed k_l_dressed
  have O_l_dressed : Own K mg "_law_dressed" s_l_dressed _ _ ["_law_dice_here", "_law_line"] := ⟨F_l_dressed, PySem.W.mg_of X G a_l_dressed, F_l_dressed.binds (ps := ["_law_dice_here", "_law_line"]) fun _ _ _ _ _ _ us hl => match us, hl with | [_, _], _ => rfl⟩
  have F_l_many := fun_mk (st := s_l_many) l_l_many w_l_many k_l_many
  have O_l_many : Own K mg "_law_many" s_l_many _ _ ["_law_line"] := ⟨F_l_many, PySem.W.mg_of X G a_l_many, F_l_many.binds (ps := ["_law_line"]) fun _ _ _ _ _ _ us hl => match us, hl with | [_], _ => rfl⟩
  have F_l_out := fun_mk (st := s_l_out) l_l_out w_l_out k_l_out
  have O_l_out : Own K mg "_law_out" s_l_out _ _ ["_law_line"] := ⟨F_l_out, PySem.W.mg_of X G a_l_out, F_l_out.binds (ps := ["_law_line"]) fun _ _ _ _ _ _ us hl => match us, hl with | [_], _ => rfl⟩
  have F_l_twice := fun_mk (st := s_l_twice) l_l_twice w_l_twice k_l_twice
  have O_l_twice : Own K mg "_law_twice" s_l_twice _ _ ["_law_line"] := ⟨F_l_twice, PySem.W.mg_of X G a_l_twice, F_l_twice.binds (ps := ["_law_line"]) fun _ _ _ _ _ _ us hl => match us, hl with | [_], _ => rfl⟩
  have F_l_firsts := fun_mk (st := s_l_firsts) l_l_firsts w_l_firsts k_l_firsts
  have O_l_firsts : Own K mg "_law_firsts" s_l_firsts _ _ ["_law_asks"] := ⟨F_l_firsts, PySem.W.mg_of X G a_l_firsts, F_l_firsts.binds (ps := ["_law_asks"]) fun _ _ _ _ _ _ us hl => match us, hl with | [_], _ => rfl⟩
  have F_l_counted := fun_mk (st := s_l_counted) l_l_counted w_l_counted k_l_counted
  have O_l_counted : Own K mg "_law_counted" s_l_counted _ _ ["_law_line", "_law_name"] := ⟨F_l_counted, PySem.W.mg_of X G a_l_counted, F_l_counted.binds (ps := ["_law_line", "_law_name"]) fun _ _ _ _ _ _ us hl => match us, hl with | [_, _], _ => rfl⟩
  have F_l_right := fun_mk (st := s_l_right) l_l_right w_l_right k_l_right
  have O_l_right : Own K mg "_law_right" s_l_right _ _ ["_law_handed", "_law_line"] := ⟨F_l_right, PySem.W.mg_of X G a_l_right, F_l_right.binds (ps := ["_law_handed", "_law_line"]) fun _ _ _ _ _ _ us hl => match us, hl with | [_, _], _ => rfl⟩
  have F_law := fun_mk (st := s_law) l_law w_law k_law
  have O_law : Own K mg "law" s_law _ _ ["_law_script"] := ⟨F_law, PySem.W.mg_of X G a_law, F_law.binds (ps := ["_law_script"]) fun _ _ _ _ _ _ us hl => match us, hl with | [_], _ => rfl⟩
  refine ⟨PySem.W.fnOf "law" "law" (defArgs s_law) (defBody s_law) (defScope s_law) .none kV_law dc_law pm_law an_law cd_law ct_law, fun s v => .of_eq rfl, fun base _ _ => ?_⟩
  have H_is_whole := ok_is_whole (P := l.prog) (w := w) (base := base) T O_is_whole
  have H_small := ok_are_small (P := l.prog) (w := w) (base := base) T O_are_small
  have H_things := ok_are_things T H_small O_are_small O_are_things
  have H_looks := ok_looks_again T H_is_whole O_is_whole O_looks_again
  have H_is_row := ok_is_row T H_things H_looks O_are_things O_looks_again O_is_row
  have H_check_row := ok_check_row T O_is_row O_check_row H_is_row
  have H_counts := counts_all (P := l.prog) (w := w) (base := base) T O_counts 13
  have H_latest := last_all (P := l.prog) (w := w) (base := base) T O_latest_first 13
  have H_to := ok_things_of T O_counts O_check_row O_things_of H_check_row H_counts
  have H_lo := ok_last_of T O_latest_first O_check_row O_last_of H_check_row H_latest
  have H_of := ok_often T O_counts O_check_row O_often H_check_row H_counts
  have H_dice := ok_dice (P := l.prog) (w := w) (base := base) T O_l_dice
  have H_roll := ok_roll (P := l.prog) (w := w) (base := base) T O_l_roll
  have H_names := ok_names T H_roll O_l_roll O_l_names
  have H_row := row_step T H_roll O_l_roll O_l_row (row_step T H_roll O_l_roll O_l_row (row_step T H_roll O_l_roll O_l_row (row_step T H_roll O_l_roll O_l_row (row_step T H_roll O_l_roll O_l_row row_none))))
  have H_dressed := dress_step T H_roll O_l_roll O_l_dressed (dress_step T H_roll O_l_roll O_l_dressed (dress_step T H_roll O_l_roll O_l_dressed (dress_step T H_roll O_l_roll O_l_dressed (dress_step T H_roll O_l_roll O_l_dressed dress_none))))
  have H_many := many_all (P := l.prog) (w := w) (base := base) T O_l_many 14
  have H_out := out_all (P := l.prog) (w := w) (base := base) T O_l_out 13
  have H_counted := counted_all (P := l.prog) (w := w) (base := base) T O_l_counted 13
  have H_twice := twice_all (P := l.prog) (w := w) (base := base) T O_l_twice 13
  have H_firsts := ok_firsts (P := l.prog) (w := w) (base := base) T O_l_firsts
  have H_right := ok_right T O_things_of O_last_of O_often O_l_twice O_l_firsts O_l_out O_l_counted O_l_right H_to H_lo H_of H_twice H_firsts H_out H_counted
  exact ok_law T H_to H_lo H_of H_dice H_roll H_names H_row H_dressed H_many H_twice H_right O_things_of O_last_of O_often O_l_dice O_l_roll O_l_names O_l_row O_l_dressed O_l_many O_l_twice O_l_right O_law
theorem walk {l : PySem.W.OpenLaw} {q : Program} {loose : List Str} {XP : (Str → Option Value) → Heap → Prop} {YP : World → Heap → Prop} {d : DefRec} {K : Params → PySem.W.Frag} (hn : l.most = some 63) (hdf : d.params.defaults = [])
    (hY : ∀ (w : World) (h : Heap), YP w h → (K w.params).In h)
    (F : ∀ (w : World) (mg : Str → Option Value) (fa : Addr) (h : Heap), (K w.params).In h → h.Ns mainGlobals mg → mg d.name = some (.ref fa) →
      ∃ fd : FuncData, (∀ (s : Shared) (u : Value), BindsTo s fd ⟨[u], []⟩ [("_law_script", u)]) ∧ ∀ base : Heap, (K w.params).In base → base.Ns mainGlobals mg → FnA Clean l.prog w (K w.params) mg base CX0 30 fa fd ["_law_script"] (spLaw (K w.params))) :
    PySem.W.WalkO q loose XP YP l.row.toRowW d [] (fun f vs => PySem.call f vs) :=
  walk_ofA (n := 63) (k := 30) (x := "_law_script") (sp := fun w => spLaw (K w.params)) hn (by decide) hdf ⟨rfl, by decide, by decide⟩ hY F (fun _ _ a ns hl _ hS => ⟨a, ns, rfl, hS, hl, fun _ => rfl⟩)
end K02
open PySem PySem.W PyProof.Rows in
set_option maxRecDepth 100000 in
set_option maxHeartbeats 0 in
theorem PySem.Challenge.cw_missclock_k02_things_in_order_holds : PySem.Challenge.rw_missclock_k02_things_in_order.Holds := by
  w_on; o_law; x_head; (case hw => w_witness2)
  k_fill
  refine K02.walk (l := PySem.Challenge.rw_missclock_k02_things_in_order) rfl rfl (fun w h Y => PySem.W.kIn_of Y) ?F
  case F =>
    intro w mg fa h KX G hmg
    refine' K02.all_mk KX G hmg ?a_is_whole ?l_is_whole ?w_is_whole ?k_is_whole ?a_are_things ?l_are_things ?w_are_things ?k_are_things ?a_are_small ?l_are_small ?w_are_small ?k_are_small ?a_is_row ?l_is_row ?w_is_row ?k_is_row ?a_looks_again ?l_looks_again ?w_looks_again ?k_looks_again ?a_things_of ?l_things_of ?w_things_of ?k_things_of ?a_last_of ?l_last_of ?w_last_of ?k_last_of ?a_often ?l_often ?w_often ?k_often ?a_check_row ?l_check_row ?w_check_row ?k_check_row ?a_counts ?l_counts ?w_counts ?k_counts ?a_latest_first ?l_latest_first ?w_latest_first ?k_latest_first ?a_l_dice ?l_l_dice ?w_l_dice ?k_l_dice ?a_l_roll ?l_l_roll ?w_l_roll ?k_l_roll ?a_l_names ?l_l_names ?w_l_names ?k_l_names ?a_l_row ?l_l_row ?w_l_row ?k_l_row ?a_l_dressed ?l_l_dressed ?w_l_dressed ?k_l_dressed ?a_l_many ?l_l_many ?w_l_many ?k_l_many ?a_l_out ?l_l_out ?w_l_out ?k_l_out ?a_l_twice ?l_l_twice ?w_l_twice ?k_l_twice ?a_l_firsts ?l_l_firsts ?w_l_firsts ?k_l_firsts ?a_l_counted ?l_l_counted ?w_l_counted ?k_l_counted ?a_l_right ?l_l_right ?w_l_right ?k_l_right ?a_law ?l_law ?w_law ?k_law ?z_isinstance ?z_int ?z_bool ?z_str ?z_list ?z_tuple ?z_len ?z_all ?z_range ?z_min ?z_repr ?z_enumerate ?z_sum ?z_zip ?z_dict ?q_LONGEST_THING ?q_MOST_TIMES ?q_DEEPEST_ROW ?q_sys
    (case a_is_whole => k_is)
    (case l_is_whole => k_is)
    (case w_is_whole => k_is)
    (case k_is_whole => k_is)
    (case a_are_things => k_is)
    (case l_are_things => k_is)
    (case w_are_things => k_is)
    (case k_are_things => k_is)
    (case a_are_small => k_is)
    (case l_are_small => k_is)
    (case w_are_small => k_is)
    (case k_are_small => k_is)
    (case a_is_row => k_is)
    (case l_is_row => k_is)
    (case w_is_row => k_is)
    (case k_is_row => k_is)
    (case a_looks_again => k_is)
    (case l_looks_again => k_is)
    (case w_looks_again => k_is)
    (case k_looks_again => k_is)
    (case a_things_of => k_is)
    (case l_things_of => k_is)
    (case w_things_of => k_is)
    (case k_things_of => k_is)
    (case a_last_of => k_is)
    (case l_last_of => k_is)
    (case w_last_of => k_is)
    (case k_last_of => k_is)
    (case a_often => k_is)
    (case l_often => k_is)
    (case w_often => k_is)
    (case k_often => k_is)
    (case a_check_row => k_is)
    (case l_check_row => k_is)
    (case w_check_row => k_is)
    (case k_check_row => k_is)
    (case a_counts => k_is)
    (case l_counts => k_is)
    (case w_counts => k_is)
    (case k_counts => k_is)
    (case a_latest_first => k_is)
    (case l_latest_first => k_is)
    (case w_latest_first => k_is)
    (case k_latest_first => k_is)
    (case a_l_dice => k_is)
    (case l_l_dice => k_is)
    (case w_l_dice => k_is)
    (case k_l_dice => k_is)
    (case a_l_roll => k_is)
    (case l_l_roll => k_is)
    (case w_l_roll => k_is)
    (case k_l_roll => k_is)
    (case a_l_names => k_is)
    (case l_l_names => k_is)
    (case w_l_names => k_is)
    (case k_l_names => k_is)
    (case a_l_row => k_is)
    (case l_l_row => k_is)
    (case w_l_row => k_is)
    (case k_l_row => k_is)
    (case a_l_dressed => k_is)
    (case l_l_dressed => k_is)
    (case w_l_dressed => k_is)
    (case k_l_dressed => k_is)
    (case a_l_many => k_is)
    (case l_l_many => k_is)
    (case w_l_many => k_is)
    (case k_l_many => k_is)
    (case a_l_out => k_is)
    (case l_l_out => k_is)
    (case w_l_out => k_is)
    (case k_l_out => k_is)
    (case a_l_twice => k_is)
    (case l_l_twice => k_is)
    (case w_l_twice => k_is)
    (case k_l_twice => k_is)
    (case a_l_firsts => k_is)
    (case l_l_firsts => k_is)
    (case w_l_firsts => k_is)
    (case k_l_firsts => k_is)
    (case a_l_counted => k_is)
    (case l_l_counted => k_is)
    (case w_l_counted => k_is)
    (case k_l_counted => k_is)
    (case a_l_right => k_is)
    (case l_l_right => k_is)
    (case w_l_right => k_is)
    (case k_l_right => k_is)
    (case a_law => k_is)
    (case l_law => k_is)
    (case w_law => k_is)
    (case k_law => k_is)
    (case z_isinstance => k_is)
    (case z_int => k_is)
    (case z_bool => k_is)
    (case z_str => k_is)
    (case z_list => k_is)
    (case z_tuple => k_is)
    (case z_len => k_is)
    (case z_all => k_is)
    (case z_range => k_is)
    (case z_min => k_is)
    (case z_repr => k_is)
    (case z_enumerate => k_is)
    (case z_sum => k_is)
    (case z_zip => k_is)
    (case z_dict => k_is)
    (case q_LONGEST_THING => k_is)
    (case q_MOST_TIMES => k_is)
    (case q_DEEPEST_ROW => k_is)
    (case q_sys => k_is)
#print axioms PySem.Challenge.cw_missclock_k02_things_in_order_holds

